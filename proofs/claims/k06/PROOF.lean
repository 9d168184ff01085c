import PyProof.Rows.All
import Wide.All
import OpenK.AllK
import Wide.FinOn
import Lean
import PyProof.EqAt
import PyProof.EqKinds
import PyProof.TupleCall
import PySem.Challenge.RW_greywalk_k06_heap_walked
set_option Elab.async false
set_option linter.all false
set_option maxRecDepth 100000
namespace L2
open PySem PySem.Spec PyProof.Rows

abbrev Key := Sum Int Str
def keyIs : Key → Value → Bool
  | .inl k, v => Value.isInt k v
  | .inr x, v => Value.isStrOf x v
def keyH (w : World) : Key → Int
  | .inl k => hashInt k
  | .inr x => hashStr w x
theorem keyIs_shape : ∀ {k : Key} {v : Value}, keyIs k v = true → (∃ i t, k = Sum.inl i ∧ v = Value.int i t) ∨ (∃ x t, k = Sum.inr x ∧ v = Value.str x t)
  | .inl i, v, h => by
    obtain ⟨t, e⟩ := Value.isInt_shape (k := i) (v := v) h
    exact .inl ⟨i, t, rfl, e⟩
  | .inr x, v, h => by
    obtain ⟨t, e⟩ := Value.isStrOf_shape (x := x) (v := v) h
    exact .inr ⟨x, t, rfl, e⟩
theorem key_ll (a b : Int) : decide ((Sum.inl a : Key) = Sum.inl b) = (a == b) := by
  by_cases e : a = b
  · subst e; simp
  · have h : ¬ (Sum.inl a : Key) = Sum.inl b := fun q => e (Sum.inl.inj q)
    rw [decide_eq_false h]
    exact (beq_eq_false_iff_ne.mpr e).symm
theorem key_rr (a b : Str) : decide ((Sum.inr a : Key) = Sum.inr b) = decide (a = b) := by
  by_cases e : a = b
  · subst e; simp
  · have h : ¬ (Sum.inr a : Key) = Sum.inr b := fun q => e (Sum.inr.inj q)
    rw [decide_eq_false h, decide_eq_false e]
theorem key_lr (a : Int) (b : Str) : decide ((Sum.inl a : Key) = Sum.inr b) = false := decide_eq_false (fun q => nomatch q)
theorem key_rl (a : Str) (b : Int) : decide ((Sum.inr a : Key) = Sum.inl b) = false := decide_eq_false (fun q => nomatch q)

def mixKind (prog : Program) (w : World) : PySem.KeyKind prog w Key where
  is := keyIs
  hash := keyH w
  inj := fun v a b ha hb => by
    rcases keyIs_shape ha with ⟨i, t, rfl, rfl⟩ | ⟨x, t, rfl, rfl⟩
    · rcases keyIs_shape hb with ⟨j, u, rfl, e⟩ | ⟨y, u, rfl, e⟩
      · injection e with e1 _; rw [e1]
      · exact nomatch e
    · rcases keyIs_shape hb with ⟨j, u, rfl, e⟩ | ⟨y, u, rfl, e⟩
      · exact nomatch e
      · injection e with e1 _; rw [e1]
  byValue := fun k v h => by
    rcases keyIs_shape h with ⟨i, t, rfl, rfl⟩ | ⟨x, t, rfl, rfl⟩ <;> rfl
  pyHash := fun hv h => by
    rcases keyIs_shape hv with ⟨i, t, rfl, rfl⟩ | ⟨x, t, rfl, rfl⟩
    · exact wpAny_pyHash_int h
    · exact wpAny_pyHash_str h
  eqBool := fun hu hv h => by
    rcases keyIs_shape hu with ⟨i, t, rfl, rfl⟩ | ⟨x, t, rfl, rfl⟩
    · rcases keyIs_shape hv with ⟨j, u, rfl, rfl⟩ | ⟨y, u, rfl, rfl⟩
      · rw [key_ll] at h; exact wpAny_eqBool_int h
      · rw [key_lr] at h; exact SeqAt.EqAt.int_str i t y u _ _ _ _ h
    · rcases keyIs_shape hv with ⟨j, u, rfl, rfl⟩ | ⟨y, u, rfl, rfl⟩
      · rw [key_rl] at h; exact SeqAt.EqAt.str_int x t j u _ _ _ _ h
      · rw [key_rr] at h; exact wpAny_eqBool_str h
  «strs» := fun k x t v h => by
    rcases keyIs_shape h with ⟨i, u, rfl, e⟩ | ⟨y, u, rfl, e⟩
    · exact nomatch e
    · injection e with e1 _
      subst e1
      cases v <;> rfl

end L2

namespace L2
open PySem PySem.Spec PyProof.Rows

inductive V where
  | non | bl (b : Bool) | int (i : Int) | str (x : Str) | byt (b : Array UInt8) | flt (b : UInt64) | ref (a : Addr) | ty (n : String)
  deriving DecidableEq

def RelV : V → Value → Prop
  | .non, u => u = Value.none
  | .bl b, u => u = Value.bool b
  | .int i, u => ∃ t, u = Value.int i t
  | .str x, u => ∃ t, u = Value.str x t
  | .byt b, u => ∃ t, u = Value.bytes b t
  | .flt b, u => ∃ t, u = Value.float b t
  | .ref a, u => u = Value.ref a
  | .ty n, u => u = Value.type n

abbrev Vals : List V → List Value → Prop := Paired RelV
theorem Vals.length {xs : List V} {us : List Value} (r : Vals xs us) : xs.length = us.length := Paired.length r
theorem Vals.get : ∀ {xs : List V} {us : List Value} {i : Nat} {x : V}, Vals xs us → xs[i]? = some x → ∃ u, us[i]? = some u ∧ RelV x u
  | _, _, _, _, .nil, e => by simp at e
  | _, _, 0, _, .cons r _, e => by simp at e; subst e; exact ⟨_, rfl, r⟩
  | _, _, i + 1, x, .cons _ t, e => by
    obtain ⟨u, h1, h2⟩ := Vals.get (i := i) (x := x) t (by simpa using e)
    exact ⟨u, by simpa using h1, h2⟩
theorem Vals.set {x : V} {u : Value} (r : RelV x u) : ∀ {xs : List V} {us : List Value} (i : Nat), Vals xs us → Vals (xs.set i x) (us.set i u)
  | _, _, _, .nil => .nil
  | _, _, 0, .cons _ t => .cons r t
  | _, _, i + 1, .cons q t => .cons q (Vals.set r i t)
theorem Vals.append : ∀ {xs ys : List V} {us ws : List Value}, Vals xs us → Vals ys ws → Vals (xs ++ ys) (us ++ ws)
  | _, _, _, _, .nil, s => s
  | _, _, _, _, .cons r t, s => .cons r (Vals.append t s)
theorem Vals.take : ∀ {xs : List V} {us : List Value} (n : Nat), Vals xs us → Vals (xs.take n) (us.take n)
  | _, _, 0, _ => .nil
  | _, _, _ + 1, .nil => .nil
  | _, _, n + 1, .cons r t => .cons r (Vals.take n t)
theorem Vals.drop : ∀ {xs : List V} {us : List Value} (n : Nat), Vals xs us → Vals (xs.drop n) (us.drop n)
  | _, _, 0, r => r
  | _, _, _ + 1, .nil => .nil
  | _, _, n + 1, .cons _ t => Vals.drop n t
theorem Vals.none_of : ∀ {xs : List V} {us : List Value} {i : Nat}, Vals xs us → xs[i]? = none → us[i]? = none := fun {xs us i} r e => by
  have h1 := r.length
  have h2 : xs.length ≤ i := List.getElem?_eq_none_iff.mp e
  exact List.getElem?_eq_none_iff.mpr (by omega)

def RelO : Option V → Option Value → Prop
  | some v, some u => RelV v u
  | none, none => True
  | _, _ => False
def KV {κ : Type} : List (κ × V) → List (κ × Value) → Prop := Paired fun (p : κ × V) (q : κ × Value) => p.1 = q.1 ∧ RelV p.2 q.2

def kV : Key → V
  | .inl i => .int i
  | .inr x => .str x

inductive HO where
    | lst (xs : List V)
    | tup (xs : List V)
    | dK (kvs : List (Key × V)) | dT (kvs : List (List Key × V))
    | set (S : Int → Bool) (n : Nat)
    | ins (C dx : Addr) (fs : List (Str × V))
    | own (x : Addr)
    | xd (fs : List (Str × V))
    | met (f x : Addr)
    | rng (lo hi : Int)
    | frz (o : Obj) (u : HO)
    | tbl (ps : Array Value)
    | ext (φ : Heap → Prop)

abbrev Hp := Addr → Option HO
def upd (H : Hp) (a : Addr) (o : HO) : Hp := fun b => if b = a then some o else H b
theorem upd_same {H : Hp} {a : Addr} {o : HO} : upd H a o a = some o := by unfold upd; rw [if_pos rfl]
theorem upd_ne {H : Hp} {a b : Addr} {o : HO} (h : b ≠ a) : upd H a o b = H b := by unfold upd; rw [if_neg h]
theorem upd_upd {H : Hp} {a : Addr} {o u : HO} : upd (upd H a o) a u = upd H a u := by
  funext b; unfold upd; split <;> rfl
theorem ne_of {H : Hp} {a b : Addr} {o u : HO} (h : H a = some o) (h' : H b = some u) (d : o ≠ u) : a ≠ b := by
  intro e; subst e; rw [h] at h'; exact d (Option.some.inj h')
theorem ne_of_none {H : Hp} {a b : Addr} {o : HO} (h : H a = some o) (h' : H b = none) : a ≠ b := by
  intro e; subst e; rw [h] at h'; cases h'

section
variable (P : Program) (w : World)
def ObjOk (H : Hp) (h : Heap) (a : Addr) : HO → Prop
  | .lst xs => xs.length ≤ sizeLine ∧ ∃ (its : List Value) (n : Nat), Vals xs its ∧ h.get? a = some { cls := .type "list", data := .seq its.toArray n }
  | .tup xs => xs.length ≤ sizeLine ∧ ∃ its : List Value, Vals xs its ∧ IsTup h a its.toArray
  | .dK kvs => kvs.length ≤ sizeLine ∧ (a == sysModules) = false ∧ ∃ vs, KV kvs vs ∧ h.DictOf (mixKind P w) a vs
  | .dT kvs => kvs.length ≤ sizeLine ∧ (a == sysModules) = false ∧ ∃ xs : List (List Key × Addr × Value),
      Paired (fun (p : List Key × V) (q : List Key × Addr × Value) => p.1 = q.1 ∧ H q.2.1 = some (.tup (p.1.map kV)) ∧ RelV p.2 q.2.2) kvs xs ∧
      ∃ o es ep, h.get? a = some o ∧ o.ExactDict ∧ o.data = .dict es ep ∧ es.toList = xs.map (entryOfKey (tupleKind (mixKind P w))) ∧ (xs.map (·.1)).Nodup
  | .set S n => h.SetOf (intKind P w) a S n
  | .ins C dx fs => H dx = some (.own a) ∧ fs.length ≤ 1000 ∧ dx ≠ a ∧ h.get? a = some (PySem.W.instObj C dx) ∧
      ∃ mA, h.Ns1 dx mA ∧ (∀ f, RelO (fs.lookup f) (mA f)) ∧ PySem.Within mA (fs.map (·.1))
  | .own _ => ∃ o, h.get? a = some o
  | .xd fs => ∃ mA, h.Ns1 a mA ∧ ∀ f, RelO (fs.lookup f) (mA f)
  | .rng lo hi => ∃ t u v, h.get? a = some { cls := .type "range", data := .fields #[.int lo t, .int hi u, .int 1 v] }
  | .frz o u => h.get? a = some o ∧ ObjOk H h a u
  | .tbl ps => h.get? a = some { cls := .none, data := .fields ps }
  | .met f x => h.get? a = some (PySem.W.methodObj (.ref f) (.ref x))
  | .ext φ => φ h ∧ (∃ o, h.get? a = some o) ∧ ∀ h1 h2 : Heap, φ h1 → (∀ o, h1.get? a = some o → h2.get? a = some o) → φ h2
def HOk (H : Hp) (h : Heap) : Prop := ∀ a o, H a = some o → ObjOk P w H h a o
end

section
variable {P : Program} {w : World} {H H' : Hp} {h h' : Heap} {a : Addr} {o : HO}
theorem ObjOk.lt (x : ObjOk P w H h a o) : a < h.objs.size := by
  cases o with
  | lst xs => obtain ⟨_, _, _, _, e⟩ := x; exact Heap.lt_size e
  | tup xs => obtain ⟨_, _, _, p⟩ := x; exact p.lt
  | dK kvs => obtain ⟨_, _, _, _, o, _, _, e, _⟩ := x; exact Heap.lt_size e
  | dT kvs => obtain ⟨_, _, _, _, o, _, _, e, _⟩ := x; exact Heap.lt_size e
  | set S n => obtain ⟨o, _, _, _, e, _⟩ := x; exact Heap.lt_size e
  | ins C dx fs => obtain ⟨_, _, _, e, _⟩ := x; exact Heap.lt_size e
  | own y => obtain ⟨_, e⟩ := x; exact Heap.lt_size e
  | xd fs => obtain ⟨_, ⟨_, _, _, e, _⟩, _⟩ := x; exact Heap.lt_size e
  | rng lo hi => obtain ⟨_, _, _, e⟩ := x; exact Heap.lt_size e
  | frz ob u => obtain ⟨e, _⟩ := x; exact Heap.lt_size e
  | tbl ps => exact Heap.lt_size (show h.get? a = some _ from x)
  | met f y => exact Heap.lt_size (show h.get? a = some _ from x)
  | ext φ => obtain ⟨_, ⟨_, e⟩, _⟩ := x; exact Heap.lt_size e
theorem Paired.mapP {α β : Type} {F G : α → β → Prop} : ∀ {l₁ : List α} {l₂ : List β}, Paired F l₁ l₂ → (∀ a b, F a b → G a b) → Paired G l₁ l₂
  | _, _, .nil, _ => .nil
  | _, _, .cons r t, f => .cons (f _ _ r) (Paired.mapP t f)
theorem ObjOk.stay (x : ObjOk P w H h a o) (k : ∀ b u, (b = a ∨ H b = some (.own a)) → h.get? b = some u → h'.get? b = some u)
    (ho : ∀ b, H b = some (.own a) → H' b = some (.own a)) (ht : ∀ b xs, H b = some (.tup xs) → H' b = some (.tup xs)) : ObjOk P w H' h' a o := by
  induction o with
  | lst xs => obtain ⟨z, its, n, r, e⟩ := x; exact ⟨z, its, n, r, k _ _ (.inl rfl) e⟩
  | tup xs => obtain ⟨z, its, r, ob, e, c⟩ := x; exact ⟨z, its, r, ob, k _ _ (.inl rfl) e, c⟩
  | dK kvs => obtain ⟨z, y, vs, r, ob, es, ep, e, c⟩ := x; exact ⟨z, y, vs, r, ob, es, ep, k _ _ (.inl rfl) e, c⟩
  | dT kvs =>
    obtain ⟨z, y, xs, r, ob, es, ep, e, c⟩ := x
    exact ⟨z, y, xs, Paired.mapP r fun p q z => ⟨z.1, ht _ _ z.2.1, z.2.2⟩, ob, es, ep, k _ _ (.inl rfl) e, c⟩
  | set S n => obtain ⟨ob, es, ep, t, e, c⟩ := x; exact ⟨ob, es, ep, t, k _ _ (.inl rfl) e, c⟩
  | ins C dx fs =>
    obtain ⟨d, z, ne, e, mA, ⟨od, es, ep, e2, c⟩, r⟩ := x
    exact ⟨ho _ d, z, ne, k _ _ (.inl rfl) e, mA, ⟨od, es, ep, k _ _ (.inr d) e2, c⟩, r⟩
  | own y => obtain ⟨ob, e⟩ := x; exact ⟨ob, k _ _ (.inl rfl) e⟩
  | xd fs => obtain ⟨mA, ⟨od, es, ep, e, c⟩, r⟩ := x; exact ⟨mA, ⟨od, es, ep, k _ _ (.inl rfl) e, c⟩, r⟩
  | rng lo hi => obtain ⟨t, u, v, e⟩ := x; exact ⟨t, u, v, k _ _ (.inl rfl) e⟩
  | frz ob u ih => obtain ⟨e, q⟩ := x; exact ⟨k _ _ (.inl rfl) e, ih q⟩
  | tbl ps =>
    have e : h.get? a = some { cls := .none, data := .fields ps } := x
    show h'.get? a = some { cls := .none, data := .fields ps }
    exact k a _ (.inl rfl) e
  | met f y =>
    have e : h.get? a = some (PySem.W.methodObj (.ref f) (.ref y)) := x
    show h'.get? a = some (PySem.W.methodObj (.ref f) (.ref y))
    exact k a _ (.inl rfl) e
  | ext φ => obtain ⟨p, ⟨o, e⟩, st⟩ := x; exact ⟨st _ _ p fun o q => k _ _ (.inl rfl) q, ⟨o, k _ _ (.inl rfl) e⟩, st⟩
theorem HOk.lt (x : HOk P w H h) (e : H a = some o) : a < h.objs.size := (x a o e).lt
theorem HOk.fresh (x : HOk P w H h) (e : h.objs.size ≤ a) : H a = none := by
  cases q : H a with
  | none => rfl
  | some u => exact absurd (Nat.lt_of_lt_of_le (x.lt q) e) (Nat.lt_irrefl _)
theorem HOk.kept (x : HOk P w H h) (k : ∀ b u, h.get? b = some u → h'.get? b = some u) : HOk P w H h' := fun a o e =>
  (x a o e).stay (fun b u _ q => k b u q) (fun _ q => q) fun _ _ q => q
theorem HOk.laid (x : HOk P w H h) (k : ∀ b u, h.get? b = some u → h'.get? b = some u) (hp : h.objs.size ≤ a) (new : ObjOk P w (upd H a o) h' a o) : HOk P w (upd H a o) h' := fun b u e => by
  have hn := x.fresh hp
  by_cases hb : b = a
  · subst hb; rw [upd_same] at e; cases e; exact new
  · rw [upd_ne hb] at e
    exact (x b u e).stay (fun c v _ q => k c v q) (fun c q => by rw [upd_ne (ne_of_none q hn)]; exact q) fun c xs q => by rw [upd_ne (ne_of_none q hn)]; exact q
end

def Rd (H : Hp) (a : Addr) (u : HO) : Prop := H a = some u ∨ ∃ o, H a = some (.frz o u)
theorem Rd.of {H : Hp} {a : Addr} {u : HO} (h : H a = some u) : Rd H a u := .inl h
theorem Rd.ok {P : Program} {w : World} {H : Hp} {h : Heap} {a : Addr} {u : HO} (r : Rd H a u) (x : HOk P w H h) : ObjOk P w H h a u := by
  rcases r with r | ⟨o, r⟩
  · exact x a u r
  · obtain ⟨_, q⟩ := x a _ r
    exact q
def Mut : Option HO → Prop
  | some (.lst _) => True
  | some (.dK _) => True
  | some (.dT _) => True
  | some (.set _ _) => True
  | some (.ins _ _ _) => True
  | some (.ext _) => True
  | _ => False
section
variable {P : Program} {w : World} {H : Hp} {h h' : Heap} {x e : Addr} {o' : HO}
theorem HOk.write (ok : HOk P w H h) (mu : Mut (H x)) (he : e = x ∨ H e = some (.own x)) (k : ∀ b u, b ≠ e → h.get? b = some u → h'.get? b = some u) (heo : ∃ u, h'.get? e = some u)
    (new : ObjOk P w (upd H x o') h' x o') : HOk P w (upd H x o') h' := fun b u q => by
  have nown : ∀ c y, H c = some (.own y) → c ≠ x := fun c y r z => by subst z; rw [r] at mu; exact mu
  have ntup : ∀ c xs, H c = some (.tup xs) → c ≠ x := fun c xs r z => by subst z; rw [r] at mu; exact mu
  by_cases hb : b = x
  · subst hb; rw [upd_same] at q; cases q; exact new
  · rw [upd_ne hb] at q
    by_cases hbe : b = e
    · have q' : H b = some (.own x) := by
        rcases he with z | z
        · exact absurd (hbe.trans z) hb
        · rw [hbe]; exact z
      rw [q] at q'; cases q'
      obtain ⟨v, hv⟩ := heo
      exact ⟨v, by rw [hbe]; exact hv⟩
    · refine (ok b u q).stay (fun c v hc r => k c v ?_ r) (fun c r => by rw [upd_ne (nown c b r)]; exact r) fun c xs r => by rw [upd_ne (ntup c xs r)]; exact r
      rcases hc with rfl | hc
      · exact hbe
      · rintro rfl
        rcases he with z | z
        · exact nown c b hc z
        · rw [hc] at z; cases z; exact hb rfl
end

structure Un (fs ex : List Addr) (H H' : Hp) (h h' : Heap) : Prop where
  keep : ∀ b o, h.get? b = some o → H b = none → b ∉ fs → b ∉ ex → h'.get? b = some o
  slot : ∀ b o, h.get? b = some o → H b = none → b ∈ fs → b ∉ ex → ∃ sl, h'.get? b = some { o with slots := sl }
  free : ∀ b o, h.get? b = some o → H b = none → b ∉ ex → H' b = none
  there : ∀ b o, h.get? b = some o → b ∉ ex → ∃ o', h'.get? b = some o'
  tups : ∀ b xs, H b = some (.tup xs) → H' b = some (.tup xs)
  frzs : ∀ b o u, H b = some (.frz o u) → H' b = some (.frz o u)
  tbls : ∀ b ps, H b = some (.tbl ps) → ∃ more, H' b = some (.tbl (ps ++ more))
section
variable {fs fs' ex ex' : List Addr} {H H1 H2 : Hp} {h h1 h2 h' : Heap} {a x e : Addr} {o : HO}
theorem Un.any (u : Un fs ex H H1 h h1) {b : Addr} {ob : Obj} (q : h.get? b = some ob) (n : H b = none) (hx : b ∉ ex) : ∃ sl, h1.get? b = some { ob with slots := sl } := by
  by_cases hb : b ∈ fs
  · exact u.slot b ob q n hb hx
  · exact ⟨ob.slots, u.keep b ob q n hb hx⟩
theorem Un.trans (a : Un fs ex H H1 h h1) (b : Un fs ex H1 H2 h1 h2) : Un fs ex H H2 h h2 where
  keep := fun c ob q n hc hx => b.keep c ob (a.keep c ob q n hc hx) (a.free c ob q n hx) hc hx
  slot := fun c ob q n hc hx => by
    obtain ⟨sl, e1⟩ := a.slot c ob q n hc hx
    obtain ⟨sl', e2⟩ := b.slot c _ e1 (a.free c ob q n hx) hc hx
    exact ⟨sl', e2⟩
  free := fun c ob q n hx => by
    obtain ⟨o', e1⟩ := a.there c ob q hx
    exact b.free c o' e1 (a.free c ob q n hx) hx
  there := fun c ob q hx => by
    obtain ⟨o', e1⟩ := a.there c ob q hx
    exact b.there c o' e1 hx
  tups := fun c xs q => b.tups c xs (a.tups c xs q)
  frzs := fun c ob xs q => b.frzs c ob xs (a.frzs c ob xs q)
  tbls := fun c ps q => by
    obtain ⟨m1, e1⟩ := a.tbls c ps q
    obtain ⟨m2, e2⟩ := b.tbls c _ e1
    exact ⟨m1 ++ m2, by rw [e2, Array.append_assoc]⟩
theorem Un.kept (k : ∀ b u, h.get? b = some u → h'.get? b = some u) : Un fs ex H H h h' :=
  ⟨fun b ob q _ _ _ => k b ob q, fun b ob q _ _ _ => ⟨ob.slots, k b ob q⟩, fun _ _ _ n _ => n, fun b ob q _ => ⟨ob, k b ob q⟩, fun _ _ q => q, fun _ _ _ q => q, fun _ ps q => ⟨#[], by rw [q]; simp⟩⟩
theorem Un.refl : Un fs ex H H h h := Un.kept fun _ _ q => q
theorem Un.laid (k : ∀ b u, h.get? b = some u → h'.get? b = some u) (hp : h.objs.size ≤ a) (hn : H a = none) : Un fs ex H (upd H a o) h h' where
  keep := fun b u q _ _ _ => k b u q
  slot := fun b u q _ _ _ => ⟨u.slots, k b u q⟩
  free := fun b u q n _ => by rw [upd_ne (Nat.ne_of_lt (Nat.lt_of_lt_of_le (Heap.lt_size q) hp))]; exact n
  there := fun b u q _ => ⟨u, k b u q⟩
  tups := fun b xs q => by rw [upd_ne (ne_of_none q hn)]; exact q
  frzs := fun b u xs q => by rw [upd_ne (ne_of_none q hn)]; exact q
  tbls := fun b ps q => ⟨#[], by rw [upd_ne (ne_of_none q hn), q]; simp⟩
theorem Un.write (mu : Mut (H x)) (he : e = x ∨ H e = some (.own x)) (k : ∀ b u, b ≠ e → h.get? b = some u → h'.get? b = some u) (heo : ∃ u, h'.get? e = some u) : Un fs ex H (upd H x o) h h' := by
  have hx : ∀ b, H b = none → b ≠ x := fun b n z => by subst z; rw [n] at mu; exact mu
  have hb : ∀ b, H b = none → b ≠ e := fun b n z => by
    subst z
    rcases he with r | r
    · exact hx b n r
    · rw [n] at r; cases r
  have hm : ∀ b u, H b = some u → ¬ Mut (some u) → b ≠ x := fun b u q nm z => by subst z; rw [q] at mu; exact nm mu
  refine ⟨fun b u q n _ _ => k b u (hb b n) q, fun b u q n _ _ => ⟨u.slots, k b u (hb b n) q⟩, fun b u q n _ => by rw [upd_ne (hx b n)]; exact n, fun b u q _ => ?_,
    fun b xs q => by rw [upd_ne (hm b _ q fun z => z)]; exact q, fun b u xs q => by rw [upd_ne (hm b _ q fun z => z)]; exact q, fun b ps q => ⟨#[], by rw [upd_ne (hm b _ q fun z => z), q]; simp⟩⟩
  by_cases hbe : b = e
  · subst hbe; exact heo
  · exact ⟨u, k b u hbe q⟩
theorem Un.mono (u : Un fs ex H H1 h h1) (hs : ∀ b ∈ fs, b ∈ fs') (hx : ∀ b ∈ ex, b ∈ ex') : Un fs' ex' H H1 h h1 :=
  ⟨fun b ob q n hb he => u.keep b ob q n (fun z => hb (hs b z)) fun z => he (hx b z), fun _ _ q n _ he => u.any q n fun z => he (hx _ z), fun b ob q n he => u.free b ob q n fun z => he (hx b z), fun b ob q he => u.there b ob q fun z => he (hx b z), u.tups, u.frzs, u.tbls⟩
end

def trk (h : Heap) (H : Hp) : List Addr := (List.range h.objs.size).filter fun a => (H a).isSome
def hidT (h : Heap) (H : Hp) : Heap := PySem.W.hideAll h (trk h H)
theorem hidT_size (h : Heap) (H : Hp) : (hidT h H).objs.size = h.objs.size := PySem.W.hideAll_size _ _
theorem hidT_get {h : Heap} {H : Hp} {b : Addr} {o : Obj} (e : h.get? b = some o) (n : H b = none) : (hidT h H).get? b = some o :=
  PySem.W.hideAll_get _ e fun hm => by
    have q : (H b).isSome = true := (List.mem_filter.mp hm).2
    rw [n] at q; simp at q
theorem of_hidT {h : Heap} {H : Hp} {b : Addr} {o : Obj} (e : (hidT h H).get? b = some o) : h.get? b = some o ∧ H b = none := by
  have e' : h.get? b = some o := PySem.W.of_hideAll (trk h H) e
  refine ⟨e', ?_⟩
  cases q : H b with
  | none => rfl
  | some x =>
    have hm : b ∈ trk h H := List.mem_filter.mpr ⟨List.mem_range.mpr (Heap.lt_size e'), by simp [q]⟩
    have z : (hidT h H).get? b = none := PySem.W.hideAll_none (trk h H) hm
    rw [z] at e; cases e

def allNews (g h : Heap) (L : Addr) : List (Addr × Obj) := (List.range h.objs.size).filterMap fun a => if a = L ∨ (g.get? a).isSome = true then none else (h.get? a).map fun o => (a, o)
def rest (g h : Heap) (L d : Addr) : List (Addr × Obj) := (allNews g h L).filter fun p => decide (p.1 ≠ d)
end L2

namespace L2
open PySem PySem.Spec PyProof.Rows

structure Mod (K : PySem.W.Frag) (mg : Str → Option Value) (base : Heap) : Prop where
  kin : K.In base
  glob : base.Ns mainGlobals mg
  blt : ∃ mb, base.Ns builtinsNs mb ∧ ∀ x : Str, x ≠ "__name__" → mb x = bootBuiltins x
  nolimit : base.NoLimit

structure Cx where
  prog : Program
  w : World
  K : PySem.W.Frag
  mg : Str → Option Value
  base : Heap
  A : Around
  N : List Str
  s₀ : Shared
  H₀ : Hp
  env : Env
  outer : List Env
  stack : List Env
  ex : List Addr
  fn : Str → Bool
  calm : Bool
  pn : List (Addr × Obj)
  xe : Value → Shared → Prop
def frs (l : List Env) : List Addr := l.filterMap (·.frame)
abbrev Cx.fs (X : Cx) : List Addr := frs X.outer

def Vis (sc : Scope) (x : Str) : Prop := sc.names.lookup x = some .local ∨ sc.names.lookup x = some .cell ∨ sc.names.lookup x = some .free
def Loc (sc : Scope) (x : Str) : Prop := sc.names.lookup x = some .local ∨ sc.names.lookup x = some .cell
def Look (env : Env) (h : Heap) (m : Str → Option Value) (x : Str) (u : Value) : Prop :=
  (env.kindOf x = some .local ∧ m x = some u) ∨ ((env.kindOf x = some .cell ∨ env.kindOf x = some .free) ∧ ∃ c, env.cells.lookup x = some c ∧ h.IsCell c (some u))

structure Cx.Ok (X : Cx) : Prop where
  mod : Mod X.K X.mg X.base
  kind : X.env.scope.kind = .function
  glob : X.env.globals = mainGlobals
  blt : X.env.builtins = builtinsNs
  above : X.s₀.heap.objs.size ≤ X.env.locals
  inj : ∀ x y c, X.env.cells.lookup x = some c → X.env.cells.lookup y = some c → x = y
  has : ∀ x, (X.env.kindOf x = some .cell ∨ X.env.kindOf x = some .free) → ∃ c, X.env.cells.lookup x = some c
  cab : ∀ x c, X.fn x = true → X.env.cells.lookup x = some c → X.s₀.heap.objs.size ≤ c
  hd : X.calm = true → X.A.handled = none
  frames : X.A.frames = some X.stack
  stk : X.stack = X.outer ∨ (X.stack = X.env :: X.outer ∧ X.env.frame = some X.env.locals)
  exf : ∀ b ∈ X.ex, b ≠ X.env.locals ∧ ∀ x c, X.env.cells.lookup x = some c → c ≠ b
  bs : ∀ b o, X.base.get? b = some o → X.s₀.heap.get? b = some o ∧ X.H₀ b = none
  bsz : X.base.objs.size ≤ X.s₀.heap.objs.size
  noex : ∀ b o, X.base.get? b = some o → b ∉ X.ex
  exfs : ∀ b ∈ X.ex, b ∉ X.fs
  funs : X.s₀.heap.FunFrames X.base X.outer
  frf : ∀ b ∈ X.fs, X.H₀ b = none

structure Inv (X : Cx) (pins : List (Addr × Obj)) (σ : List (Option V)) (H : Hp) (s : Shared) : Prop where
  ok : X.Ok
  os : s.os = X.s₀.os
  bare : AllBare s.gens
  base : Un X.fs X.ex X.H₀ H X.s₀.heap s.heap
  loc : ∃ m, s.heap.Ns X.env.locals m ∧ ∀ (i : Nat) (x : Str) (v : V), X.N[i]? = some x → σ[i]? = some (some v) → Vis X.env.scope x → ∃ u, RelV v u ∧ Look X.env s.heap m x u
  cell : ∀ x c, X.env.cells.lookup x = some c → ∃ v, s.heap.IsCell c v
  free : H X.env.locals = none
  freeC : ∀ x c, X.env.cells.lookup x = some c → H c = none
  pin : ∀ p ∈ X.pn ++ pins, s.heap.get? p.1 = some p.2 ∧ H p.1 = none ∧ p.1 ≠ X.env.locals ∧ p.1 ∉ X.fs ∧ ∀ v, p.2.data ≠ .cell v
  hok : HOk X.prog X.w H s.heap
  len : σ.length = X.N.length

section
variable {X : Cx} {pins : List (Addr × Obj)} {σ : List (Option V)} {H H' : Hp} {s : Shared} {h' : Heap}

theorem Cx.Ok.nofr (ok : X.Ok) {b : Addr} {o : Obj} (e : X.base.get? b = some o) : b ∉ X.fs := fun hb => by
  have := (ok.funs.mem hb).1
  rw [e] at this; cases this
theorem Inv.bs (I : Inv X pins σ H s) : ∀ b o, X.base.get? b = some o → s.heap.get? b = some o ∧ H b = none := fun b o e =>
  ⟨I.base.keep b o (I.ok.bs b o e).1 (I.ok.bs b o e).2 (I.ok.nofr e) (I.ok.noex b o e), I.base.free b o (I.ok.bs b o e).1 (I.ok.bs b o e).2 (I.ok.noex b o e)⟩
theorem Inv.bk (I : Inv X pins σ H s) : ∀ b o, X.base.get? b = some o → s.heap.get? b = some o := fun b o e => (I.bs b o e).1
theorem Inv.mod (I : Inv X pins σ H s) : Mod X.K X.mg X.base := I.ok.mod
theorem Inv.kIn (I : Inv X pins σ H s) : X.K.In s.heap := I.ok.mod.kin.keeps I.bk
theorem Inv.nolimit (I : Inv X pins σ H s) : s.heap.NoLimit := I.ok.mod.nolimit.keeps I.bk
theorem Inv.fr (I : Inv X pins σ H s) : ∃ m, Fr X.base X.env.locals s.heap m :=
  let ⟨m, hn, _⟩ := I.loc
  ⟨m, hn, I.bk, Nat.le_trans I.ok.bsz I.ok.above⟩
theorem Inv.lt (I : Inv X pins σ H s) : X.env.locals < s.heap.objs.size := let ⟨_, hn, _⟩ := I.loc; hn.lt
theorem Inv.sz (I : Inv X pins σ H s) : X.s₀.heap.objs.size ≤ s.heap.objs.size := Nat.le_trans I.ok.above (Nat.le_of_lt I.lt)
theorem Inv.nofs (I : Inv X pins σ H s) {a : Addr} (h : s.heap.objs.size ≤ a) : a ∉ X.fs := fun hb => by
  obtain ⟨_, o, ho, _⟩ := I.ok.funs.mem hb
  exact absurd (Nat.lt_of_lt_of_le (Heap.lt_size ho) (Nat.le_trans I.sz h)) (Nat.lt_irrefl _)
theorem Inv.cne (I : Inv X pins σ H s) : ∀ x c, X.env.cells.lookup x = some c → c ≠ X.env.locals := fun x c e z => by
  obtain ⟨v, o, ho, hd⟩ := I.cell x c e
  obtain ⟨m, ⟨o', es, ep, ho', hd', _⟩, _⟩ := I.loc
  rw [z, ho'] at ho; cases ho; rw [hd'] at hd; cases hd
theorem Inv.funs (I : Inv X pins σ H s) : s.heap.FunFrames X.base X.outer := by
  have all : ∀ (l : List Env), (∀ b ∈ frs l, b ∈ X.fs) → X.s₀.heap.FunFrames X.base l → s.heap.FunFrames X.base l := by
    intro l
    induction l with
    | nil => intro _ _; trivial
    | cons env r ih =>
      intro hs hl
      obtain ⟨hk, ⟨L, o, hf, hn, ho, hd⟩, hr⟩ := hl
      have hL : L ∈ X.fs := hs L (by unfold frs; rw [List.filterMap_cons, hf]; exact List.mem_cons_self)
      obtain ⟨sl, e⟩ := I.base.slot L o ho (I.ok.frf L hL) hL fun z => I.ok.exfs L z hL
      exact ⟨hk, ⟨L, _, hf, hn, e, hd⟩, ih (fun b hb => hs b (by unfold frs; rw [List.filterMap_cons, hf]; exact List.mem_cons_of_mem _ hb)) hr⟩
  exact all X.outer (fun _ hb => hb) I.ok.funs

theorem Inv.stack (I : Inv X pins σ H s) : s.heap.FunFrames X.base X.stack := by
  rcases I.ok.stk with e | ⟨e, hf⟩
  · rw [e]; exact I.funs
  · rw [e]
    obtain ⟨m, hn, _⟩ := I.loc
    refine .cons (by rw [I.ok.kind]; decide) hf hn ?_ I.funs
    exact Heap.get?_none_of_le (Nat.le_trans I.ok.bsz I.ok.above)
theorem Inv.stkSub (I : Inv X pins σ H s) : ∀ b ∈ frs X.stack, b ∈ X.env.locals :: X.fs := fun b hb => by
  rcases I.ok.stk with e | ⟨e, hf⟩
  · rw [e] at hb; exact List.mem_cons_of_mem _ hb
  · rw [e] at hb
    unfold frs at hb
    rw [List.filterMap_cons, hf] at hb
    exact hb
theorem Inv.stkFree (I : Inv X pins σ H s) : ∀ b ∈ frs X.stack, H b = none := fun b hb => by
  rcases List.mem_cons.mp (I.stkSub b hb) with e | hb
  · rw [e]; exact I.free
  · obtain ⟨_, o, ho, _⟩ := I.ok.funs.mem hb
    exact I.base.free b o ho (I.ok.frf b hb) fun z => I.ok.exfs b z hb

theorem Inv.step {g' : Array GenState} {t' : Nat} {d' : Drawn} {ch : List Addr} (I : Inv X pins σ H s)
    (hch : ∀ b ∈ ch, (b ∈ X.ex ∨ X.s₀.heap.objs.size ≤ b) ∧ b ≠ X.env.locals ∧ (∀ x c, X.env.cells.lookup x = some c → c ≠ b) ∧ ∀ p ∈ X.pn ++ pins, p.1 ≠ b)
    (keep : ∀ b o, b ≠ X.env.locals → b ∉ X.fs → b ∉ ch → s.heap.get? b = some o → H b = none → h'.get? b = some o)
    (slot : ∀ b o, b ≠ X.env.locals → b ∈ X.fs → b ∉ ch → s.heap.get? b = some o → H b = none → ∃ sl, h'.get? b = some { o with slots := sl }) (free : ∀ b o, b ∉ ch → s.heap.get? b = some o → H b = none → H' b = none)
    (there : ∀ b o, b ∉ ch → s.heap.get? b = some o → ∃ o', h'.get? b = some o')
    (tups : ∀ b xs, H b = some (.tup xs) → H' b = some (.tup xs)) (frzs : ∀ b o u, H b = some (.frz o u) → H' b = some (.frz o u)) (tbls : ∀ b ps, H b = some (.tbl ps) → ∃ more, H' b = some (.tbl (ps ++ more)))
    (ns : ∀ m, s.heap.Ns X.env.locals m → h'.Ns X.env.locals m) (hok : HOk X.prog X.w H' h') (hg : AllBare g') :
    Inv X pins σ H' { s with heap := h', gens := g', drawn := d', toks := t' } := by
  have neL : ∀ b o, X.s₀.heap.get? b = some o → b ≠ X.env.locals := fun b o e => Nat.ne_of_lt (Nat.lt_of_lt_of_le (Heap.lt_size e) I.ok.above)
  have neC : ∀ b o, X.s₀.heap.get? b = some o → b ∉ X.ex → b ∉ ch := fun b o e hx hb => by
    rcases (hch b hb).1 with z | z
    · exact hx z
    · exact absurd (Nat.lt_of_lt_of_le (Heap.lt_size e) z) (Nat.lt_irrefl _)
  have cellK : ∀ x c, X.env.cells.lookup x = some c → ∀ v, s.heap.IsCell c v → h'.IsCell c v := fun x c e v ⟨o, ho, hd⟩ => by
    have nch : c ∉ ch := fun z => (hch c z).2.2.1 x c e rfl
    by_cases hc : c ∈ X.fs
    · obtain ⟨sl, q⟩ := slot c o (I.cne x c e) hc nch ho (I.freeC x c e)
      exact ⟨_, q, hd⟩
    · exact ⟨o, keep c o (I.cne x c e) hc nch ho (I.freeC x c e), hd⟩
  refine ⟨I.ok, I.os, hg, ⟨fun b o e n hb hx => ?_, fun b o e n hb hx => ?_, fun b o e n hx => ?_, fun b o e hx => ?_, fun b xs e => tups b xs (I.base.tups b xs e), fun b o xs e => frzs b o xs (I.base.frzs b o xs e), fun b ps e => ?_⟩, ?_, fun x c e => ?_, ?_, fun x c e => ?_, fun p hp => ?_, hok, I.len⟩
  · exact keep b o (neL b o e) hb (neC b o e hx) (I.base.keep b o e n hb hx) (I.base.free b o e n hx)
  · obtain ⟨sl, e1⟩ := I.base.slot b o e n hb hx
    obtain ⟨sl', e2⟩ := slot b _ (neL b o e) hb (neC b o e hx) e1 (I.base.free b o e n hx)
    exact ⟨sl', e2⟩
  · obtain ⟨o', e1⟩ := I.base.there b o e hx
    exact free b o' (neC b o e hx) e1 (I.base.free b o e n hx)
  · obtain ⟨o', e1⟩ := I.base.there b o e hx
    exact there b o' (neC b o e hx) e1
  · obtain ⟨m1, e1⟩ := I.base.tbls b ps e
    obtain ⟨m2, e2⟩ := tbls b _ e1
    exact ⟨m1 ++ m2, by rw [e2, Array.append_assoc]⟩
  · obtain ⟨m, hn, hl⟩ := I.loc
    refine ⟨m, ns m hn, fun i x v e1 e2 e3 => ?_⟩
    obtain ⟨u, r, l⟩ := hl i x v e1 e2 e3
    refine ⟨u, r, ?_⟩
    rcases l with l | ⟨k, c, e, z⟩
    · exact .inl l
    · exact .inr ⟨k, c, e, cellK x c e _ z⟩
  · obtain ⟨v, z⟩ := I.cell x c e
    exact ⟨v, cellK x c e v z⟩
  · obtain ⟨m, ⟨o, _, _, ho, _⟩, _⟩ := I.loc
    exact free _ o (fun z => (hch _ z).2.1 rfl) ho I.free
  · obtain ⟨v, o, ho, hd⟩ := I.cell x c e
    exact free c o (fun z => (hch c z).2.2.1 x c e rfl) ho (I.freeC x c e)
  · obtain ⟨e, n, ne, nf, d⟩ := I.pin p hp
    have nch : p.1 ∉ ch := fun z => (hch p.1 z).2.2.2 p hp rfl
    exact ⟨keep p.1 p.2 ne nf nch e n, free p.1 p.2 nch e n, ne, nf, d⟩
theorem Inv.un {t' : Nat} (I : Inv X pins σ H s) (u : Un X.fs [] H H' s.heap h') (hok : HOk X.prog X.w H' h') : Inv X pins σ H' { s with heap := h', toks := t' } := by
  obtain ⟨m, ⟨o, es, ep, ho, r⟩, _⟩ := id I.loc
  obtain ⟨sl, hL⟩ := u.any ho I.free (by simp)
  exact I.step (g' := s.gens) (d' := s.drawn) (ch := []) (fun _ z => nomatch z) (fun b o _ hb _ e n => u.keep b o e n hb (by simp)) (fun b o _ hb _ e n => u.slot b o e n hb (by simp)) (fun b o _ e n => u.free b o e n (by simp)) (fun b o _ e => u.there b o e (by simp)) u.tups u.frzs u.tbls (fun m' hm => by
    obtain ⟨o', es', ep', ho', r'⟩ := hm
    rw [ho] at ho'; cases ho'
    exact ⟨_, es', ep', hL, r'⟩) hok I.bare
theorem Inv.call {g' : Array GenState} {t' : Nat} {d' : Drawn} {ch : List Addr} (I : Inv X pins σ H s) (u : Un (frs X.stack) ch H H' s.heap h') (hok : HOk X.prog X.w H' h') (hg : AllBare g')
    (hch : ∀ b ∈ ch, (b ∈ X.ex ∨ X.s₀.heap.objs.size ≤ b) ∧ b ≠ X.env.locals ∧ (∀ x c, X.env.cells.lookup x = some c → c ≠ b) ∧ ∀ p ∈ X.pn ++ pins, p.1 ≠ b) :
    Inv X pins σ H' { s with heap := h', gens := g', drawn := d', toks := t' } := by
  obtain ⟨m, ⟨o, es, ep, ho, r⟩, _⟩ := id I.loc
  obtain ⟨sl, hL⟩ := u.any ho I.free fun z => (hch _ z).2.1 rfl
  exact I.step (ch := ch) hch (fun b o hL hb hc e n => u.keep b o e n (fun z => (List.mem_cons.mp (I.stkSub b z)).elim hL hb) hc) (fun b o _ _ hc e n => u.any e n hc) (fun b o hc e n => u.free b o e n hc) (fun b o hc e => u.there b o e hc) u.tups u.frzs u.tbls (fun m' hm => by
    obtain ⟨o', es', ep', ho', r'⟩ := hm
    rw [ho] at ho'; cases ho'
    exact ⟨_, es', ep', hL, r'⟩) hok hg
theorem Inv.turned {t' : Nat} {it : Addr} (I : Inv X pins σ H s) (k : ∀ b o, b ≠ it → s.heap.get? b = some o → h'.get? b = some o) (hn : H it = none) (hL : it ≠ X.env.locals)
    (h1 : it ∈ X.ex ∨ X.s₀.heap.objs.size ≤ it) (h2 : ∀ x c, X.env.cells.lookup x = some c → c ≠ it) (h3 : ∀ p ∈ X.pn ++ pins, p.1 ≠ it) : Inv X pins σ H { s with heap := h', toks := t' } := by
  have nit : ∀ b u, H b = some u → b ≠ it := fun b u e z => by rw [z, hn] at e; cases e
  refine I.step (g' := s.gens) (d' := s.drawn) (ch := [it]) (fun b hb => ?_) (fun b o _ _ hc e _ => k b o (fun z => hc (by simp [z])) e) (fun b o _ _ hc e _ => ⟨o.slots, k b o (fun z => hc (by simp [z])) e⟩) (fun _ _ _ _ n => n)
    (fun b o hc e => ⟨o, k b o (fun z => hc (by simp [z])) e⟩) (fun _ _ e => e) (fun _ _ _ e => e) (fun b ps e => ⟨#[], by rw [e]; simp⟩) (fun m hm => ?_) (fun b u e => ?_) I.bare
  · have e : b = it := by simpa using hb
    subst e
    exact ⟨h1, hL, h2, h3⟩
  · obtain ⟨o, es, ep, ho, r⟩ := hm
    exact ⟨o, es, ep, k _ o (Ne.symm hL) ho, r⟩
  · refine (I.hok b u e).stay (fun c v hc q => k c v ?_ q) (fun _ q => q) fun _ _ q => q
    rcases hc with z | z
    · rw [z]; exact nit b u e
    · exact nit c _ z
theorem Inv.tok (I : Inv X pins σ H s) (t : Nat) : Inv X pins σ H { s with toks := t } := I.un (h' := s.heap) (t' := t) Un.refl I.hok
theorem Inv.kept {t' : Nat} (I : Inv X pins σ H s) (k : ∀ b u, s.heap.get? b = some u → h'.get? b = some u) : Inv X pins σ H { s with heap := h', toks := t' } := I.un (Un.kept k) (I.hok.kept k)
theorem Inv.laid {a : Addr} {o : HO} {t' : Nat} (I : Inv X pins σ H s) (k : ∀ b u, s.heap.get? b = some u → h'.get? b = some u) (hp : s.heap.objs.size ≤ a) (new : ObjOk X.prog X.w (upd H a o) h' a o) :
    Inv X pins σ (upd H a o) { s with heap := h', toks := t' } := I.un (Un.laid k hp (I.hok.fresh hp)) (I.hok.laid k hp new)
theorem Inv.write {x e : Addr} {o : HO} {t' : Nat} (I : Inv X pins σ H s) (mu : Mut (H x)) (he : e = x ∨ H e = some (.own x)) (k : ∀ b u, b ≠ e → s.heap.get? b = some u → h'.get? b = some u) (heo : ∃ u, h'.get? e = some u)
    (new : ObjOk X.prog X.w (upd H x o) h' x o) : Inv X pins σ (upd H x o) { s with heap := h', toks := t' } := I.un (Un.write mu he k heo) (I.hok.write mu he k heo new)
theorem Inv.pins_of {pins' : List (Addr × Obj)} (I : Inv X pins σ H s) (h : ∀ p ∈ pins', s.heap.get? p.1 = some p.2 ∧ H p.1 = none ∧ p.1 ≠ X.env.locals ∧ p.1 ∉ X.fs ∧ ∀ v, p.2.data ≠ .cell v) : Inv X pins' σ H s :=
  ⟨I.ok, I.os, I.bare, I.base, I.loc, I.cell, I.free, I.freeC, fun p hp => (List.mem_append.mp hp).elim (fun z => I.pin p (List.mem_append_left _ z)) (h p), I.hok, I.len⟩

theorem nodup_ix {N : List Str} (hN : N.Nodup) {i j : Nat} {x : Str} (a : N[i]? = some x) (b : N[j]? = some x) : i = j := by
  obtain ⟨h1, e1⟩ := List.getElem?_eq_some_iff.mp a
  obtain ⟨h2, e2⟩ := List.getElem?_eq_some_iff.mp b
  exact (List.getElem_inj hN).mp (e1.trans e2.symm)

theorem store_ok2 {M : Model} {A : Around} {E : Value → Shared → Prop} {i : Nat} {x : Str} {v : V} {u : Value} {Q : Unit → Shared → Prop} (I : Inv X pins σ H s) (hN : X.N.Nodup) (hi : X.N[i]? = some x) (hx : Loc X.env.scope x) (r : RelV v u)
    (h : ∀ s', Inv X pins (σ.set i (some v)) H s' → (∃ a, Heap.SameBut a s.heap s'.heap ∧ (a = X.env.locals ∨ X.env.cells.lookup x = some a)) → Q () s') (hf : X.fn x = true ∨ X.env.scope.names.lookup x = some .local := by first | exact .inl rfl | exact .inr rfl | assumption) : wpAny M A (storeName X.env x u) Q E s := by
  obtain ⟨m, hn, hl⟩ := id I.loc
  have hcls : (X.env.scope.kind == .class || (X.env.scope.kind == .module && X.env.locals != X.env.globals)) = false := by rw [I.ok.kind]; rfl
  have hiσ : i < σ.length := by rw [I.len]; exact (List.getElem?_eq_some_iff.mp hi).1
  have cne := I.cne
  have tracked : ∀ {a : Addr} {h' : Heap}, (∃ o, s.heap.get? a = some o ∧ H a = none) → Heap.SameBut a s.heap h' → HOk X.prog X.w H h' := fun {a h'} ha hs b ob e => by
    obtain ⟨_, _, hfree⟩ := ha
    refine (I.hok b ob e).stay (fun c w' hc q => (hs.2 c ?_).trans q) (fun _ q => q) fun _ _ q => q
    rintro rfl
    rcases hc with rfl | hc
    · rw [hfree] at e; cases e
    · rw [hfree] at hc; cases hc
  rcases hx with hk | hk
  · refine wpAny_storeName_local hk hn (fun h' hn' hs => ?_) hcls
    obtain ⟨oL, _, _, hoL, _⟩ := id hn
    refine h _ ⟨I.ok, I.os, I.bare, ⟨fun b o e n hb hx => ?_, fun b o e n hb hx => ?_, I.base.free, fun b o e hx => ?_, I.base.tups, I.base.frzs, I.base.tbls⟩, ⟨_, hn', fun j y v' e1 e2 e3 => ?_⟩, fun y c e => ?_, I.free, I.freeC, fun p hp => ?_, tracked ⟨oL, hoL, I.free⟩ hs, by simpa using I.len⟩ ⟨_, hs, .inl rfl⟩
    · exact (hs.2 b (Nat.ne_of_lt (Nat.lt_of_lt_of_le (Heap.lt_size e) I.ok.above))).trans (I.base.keep b o e n hb hx)
    · obtain ⟨sl, e1⟩ := I.base.slot b o e n hb hx
      exact ⟨sl, (hs.2 b (Nat.ne_of_lt (Nat.lt_of_lt_of_le (Heap.lt_size e) I.ok.above))).trans e1⟩
    · obtain ⟨o', e1⟩ := I.base.there b o e hx
      exact ⟨o', (hs.2 b (Nat.ne_of_lt (Nat.lt_of_lt_of_le (Heap.lt_size e) I.ok.above))).trans e1⟩
    · by_cases hj : j = i
      · subst hj
        rw [hi] at e1; cases e1
        rw [List.getElem?_set_self hiσ] at e2
        cases e2
        exact ⟨u, r, .inl ⟨hk, by simp⟩⟩
      · rw [List.getElem?_set_ne (Ne.symm hj)] at e2
        obtain ⟨u', r', q⟩ := hl j y v' e1 e2 e3
        refine ⟨u', r', ?_⟩
        rcases q with ⟨k, e⟩ | ⟨k, c, e, z⟩
        · refine .inl ⟨k, ?_⟩
          have : y ≠ x := fun e => hj (nodup_ix hN e1 (e ▸ hi))
          simp [this, e]
        · exact .inr ⟨k, c, e, z.sameBut hs (cne y c e)⟩
    · obtain ⟨w', z⟩ := I.cell y c e
      exact ⟨w', z.sameBut hs (cne y c e)⟩
    · obtain ⟨e, n, ne, nf, d⟩ := I.pin p hp
      exact ⟨(hs.2 p.1 ne).trans e, n, ne, nf, d⟩
  · have hfn : X.fn x = true := by
      rcases hf with z | z
      · exact z
      · rw [z] at hk; cases hk
    obtain ⟨c, hc⟩ := I.ok.has x (.inl hk)
    obtain ⟨w', z⟩ := I.cell x c hc
    refine wpAny_storeName_cell I.ok.kind hk hc z (fun h' hc' hs => ?_)
    obtain ⟨oc, hoc, hocd⟩ := id z
    refine h { s with heap := h' } ⟨I.ok, I.os, I.bare, ⟨fun b o e n hb hx => ?_, fun b o e n hb hx => ?_, I.base.free, fun b o e hx => ?_, I.base.tups, I.base.frzs, I.base.tbls⟩, ⟨m, hn.sameBut hs (Ne.symm (cne x c hc)), fun j y v' e1 e2 e3 => ?_⟩, fun y c' e => ?_, I.free, I.freeC, fun p hp => ?_, tracked ⟨oc, hoc, I.freeC x c hc⟩ hs, by simpa using I.len⟩ ⟨c, hs, .inr hc⟩
    · exact (hs.2 b (Nat.ne_of_lt (Nat.lt_of_lt_of_le (Heap.lt_size e) (I.ok.cab x c hfn hc)))).trans (I.base.keep b o e n hb hx)
    · obtain ⟨sl, e1⟩ := I.base.slot b o e n hb hx
      exact ⟨sl, (hs.2 b (Nat.ne_of_lt (Nat.lt_of_lt_of_le (Heap.lt_size e) (I.ok.cab x c hfn hc)))).trans e1⟩
    · obtain ⟨o', e1⟩ := I.base.there b o e hx
      exact ⟨o', (hs.2 b (Nat.ne_of_lt (Nat.lt_of_lt_of_le (Heap.lt_size e) (I.ok.cab x c hfn hc)))).trans e1⟩
    · by_cases hj : j = i
      · subst hj
        rw [hi] at e1; cases e1
        rw [List.getElem?_set_self hiσ] at e2
        cases e2
        exact ⟨u, r, .inr ⟨.inl hk, c, hc, hc'⟩⟩
      · rw [List.getElem?_set_ne (Ne.symm hj)] at e2
        obtain ⟨u', r', q⟩ := hl j y v' e1 e2 e3
        refine ⟨u', r', ?_⟩
        rcases q with q | ⟨k, c', e, z'⟩
        · exact .inl q
        · refine .inr ⟨k, c', e, z'.sameBut hs ?_⟩
          rintro rfl
          exact hj (nodup_ix hN e1 (I.ok.inj _ _ _ e hc ▸ hi))
    · by_cases hcc : c' = c
      · subst hcc; exact ⟨_, hc'⟩
      · obtain ⟨w2, z2⟩ := I.cell y c' e
        exact ⟨w2, z2.sameBut hs hcc⟩
    · obtain ⟨e, n, ne, nf, d⟩ := I.pin p hp
      refine ⟨(hs.2 p.1 ?_).trans e, n, ne, nf, d⟩
      intro q
      rw [q, hoc] at e
      have q' : oc = p.2 := Option.some.inj e
      exact d w' (by rw [← q']; exact hocd)
theorem store_ok {M : Model} {A : Around} {E : Value → Shared → Prop} {i : Nat} {x : Str} {v : V} {u : Value} {Q : Unit → Shared → Prop} (I : Inv X pins σ H s) (hN : X.N.Nodup) (hi : X.N[i]? = some x) (hx : Loc X.env.scope x) (r : RelV v u)
    (h : ∀ s', Inv X pins (σ.set i (some v)) H s' → Q () s') (hf : X.fn x = true ∨ X.env.scope.names.lookup x = some .local := by first | exact .inl rfl | exact .inr rfl | assumption) : wpAny M A (storeName X.env x u) Q E s :=
  store_ok2 I hN hi hx r (fun s' I' _ => h s' I') hf
theorem Inv.call' {s' : Shared} {ch : List Addr} (I : Inv X pins σ H s) (ho : s'.os = s.os) (u : Un (frs X.stack) ch H H' s.heap s'.heap) (hok : HOk X.prog X.w H' s'.heap) (hg : AllBare s'.gens)
    (hch : ∀ b ∈ ch, (b ∈ X.ex ∨ X.s₀.heap.objs.size ≤ b) ∧ b ≠ X.env.locals ∧ (∀ x c, X.env.cells.lookup x = some c → c ≠ b) ∧ ∀ p ∈ X.pn ++ pins, p.1 ≠ b) : Inv X pins σ H' s' := by
  obtain ⟨h', g', d', t', o'⟩ := s'
  have e : o' = s.os := ho
  subst e
  exact I.call (g' := g') (t' := t') (d' := d') u hok hg hch
end

abbrev XK := Value → Option Addr → Hp → Prop
abbrev St := List (Option V)
abbrev VK := V → Hp → Prop
abbrev TE := St → Hp → VK → Prop
abbrev TT := St → Hp → (Bool → Hp → Prop) → Prop
abbrev TA := St → Hp → (List V → Hp → Prop) → Prop
structure Ends where
  nx : St → Hp → Prop
  rt : VK
  bk : St → Hp → Prop := fun _ _ => False
  ct : St → Hp → Prop := fun _ _ => False
abbrev TS := Ends → St → Hp → Prop

def EP (X : Cx) (pins : List (Addr × Obj)) (σ : St) (Q : VK) (u : Value) (s' : Shared) : Prop := ∃ v H', Inv X pins σ H' s' ∧ RelV v u ∧ Q v H'
def TP (X : Cx) (pins : List (Addr × Obj)) (σ : St) (Q : Bool → Hp → Prop) (b : Bool) (s' : Shared) : Prop := ∃ H', Inv X pins σ H' s' ∧ Q b H'
def AP (X : Cx) (pins : List (Addr × Obj)) (σ : St) (Q : List V → Hp → Prop) (us : List Value) (s' : Shared) : Prop := ∃ vs H', Inv X pins σ H' s' ∧ Vals vs us ∧ Q vs H'
def SP (X : Cx) (pins : List (Addr × Obj)) (D : Ends) (f : Flow) (s' : Shared) : Prop :=
  match f with
  | .next => ∃ σ' H', Inv X pins σ' H' s' ∧ D.nx σ' H'
  | .brk => ∃ σ' H', Inv X pins σ' H' s' ∧ D.bk σ' H'
  | .cont => ∃ σ' H', Inv X pins σ' H' s' ∧ D.ct σ' H'
  | .ret u => ∃ v σ' H', Inv X pins σ' H' s' ∧ RelV v u ∧ D.rt v H'

def PE (X : Cx) (e : Expr) (t : TE) : Prop :=
  ∀ (pins : List (Addr × Obj)) (s : Shared) (σ : St) (H : Hp) (Q : VK), Inv X pins σ H s → t σ H Q → wpAny (model X.prog X.w) X.A (eval e X.env) (EP X pins σ Q) X.xe s
def PT (X : Cx) (e : Expr) (t : TT) : Prop :=
  ∀ (pins : List (Addr × Obj)) (s : Shared) (σ : St) (H : Hp) (Q : Bool → Hp → Prop), Inv X pins σ H s → t σ H Q → wpAny (model X.prog X.w) X.A (isTrue e X.env (eval e X.env)) (TP X pins σ Q) X.xe s
def PW (X : Cx) (e : Expr) (t : TT) : Prop :=
  ∀ (whole : Sem Value) (pins : List (Addr × Obj)) (s : Shared) (σ : St) (H : Hp) (Q : Bool → Hp → Prop), Inv X pins σ H s → t σ H Q → wpAny (model X.prog X.w) X.A (isTrue e X.env whole) (TP X pins σ Q) X.xe s
theorem PW.pt {X : Cx} {e : Expr} {t : TT} (h : PW X e t) : PT X e t := h _
def PA (X : Cx) (es : List Expr) (t : TA) : Prop :=
  ∀ (pos : Pos) (pins : List (Addr × Obj)) (s : Shared) (σ : St) (H : Hp) (Q : List V → Hp → Prop), Inv X pins σ H s → t σ H Q → wpAny (model X.prog X.w) X.A (spliced (backTo pos (starEach es X.env))) (AP X pins σ Q) X.xe s
def PS (X : Cx) (st : Stmt) (t : TS) : Prop :=
  ∀ (pins : List (Addr × Obj)) (s : Shared) (σ : St) (H : Hp) (D : Ends), Inv X pins σ H s → t D σ H → wpAny (model X.prog X.w) X.A (exec st X.env) (SP X pins D) X.xe s
def PSs (X : Cx) (st : List Stmt) (t : TS) : Prop :=
  ∀ (pins : List (Addr × Obj)) (s : Shared) (σ : St) (H : Hp) (D : Ends), Inv X pins σ H s → t D σ H → wpAny (model X.prog X.w) X.A (execs st X.env) (SP X pins D) X.xe s
theorem thn {α : Type} {t : Sem α} {Q Q' : α → Shared → Prop} {M : Model} {A : Around} {E : Value → Shared → Prop} {s : Shared} (h : wpAny M A t Q E s) (hQ : ∀ a s, Q a s → Q' a s) : wpAny M A t Q' E s := wpAny_mono h hQ fun _ _ x => x
end L2

namespace L2
open PySem PySem.Spec PyProof.Rows
section
variable {X : Cx}

def tVar (i : Nat) : TE := fun σ H Q => ∃ v, σ[i]? = some (some v) ∧ Q v H
def tC (v : V) : TE := fun _ H Q => Q v H
theorem pe_var {i : Nat} {x : Str} {pos : Pos} (hN : X.N[i]? = some x) (hv : Vis X.env.scope x) (hd : (x == ("__debug__" : Str)) = false := by decide) (hcd : (x == ("__classdict__" : Str)) = false := by decide) : PE X (.Name x pos) (tVar i) := by
  intro pins s σ H Q I h
  obtain ⟨v, e, h⟩ := h
  obtain ⟨m, hn, hl⟩ := I.loc
  obtain ⟨u, r, l⟩ := hl i x v hN e hv
  have fin : EP X pins σ Q u s := ⟨v, H, I, r, h⟩
  rcases l with ⟨hk, hm⟩ | ⟨hk, c, hc, hcell⟩
  · exact wpAny_Name (wpAny_loadName_local I.ok.kind hk hn hm fin) hd
  · rcases hk with hk | hk
    · exact wpAny_Name (wpAny_loadName_cell I.ok.kind hk hc hcell fin) hd
    · exact wpAny_Name (wpAny_loadName_free I.ok.kind hk hc hcell fin hcd) hd
theorem pe_int {i j pos} : PE X (.Constant (.int i) j pos) (tC (.int i)) := fun _ _ _ H _ I h => wpAny_Constant_int ⟨.int i, H, I.tok _, ⟨_, rfl⟩, h⟩
theorem pe_bl {b j pos} : PE X (.Constant (.bool b) j pos) (tC (.bl b)) := fun _ _ _ H _ I h => Constant_bool ⟨.bl b, H, I, rfl, h⟩
theorem pe_non {j pos} : PE X (.Constant .none j pos) (tC .non) := fun _ _ _ H _ I h => Constant_none ⟨.non, H, I, rfl, h⟩
theorem pe_str {x j pos} : PE X (.Constant (.str x) j pos) (tC (.str x)) := fun _ _ _ H _ I h => Calls.Constant_str ⟨.str x, H, I.tok _, ⟨_, rfl⟩, h⟩

def Gl (X : Cx) (x : Str) : Prop := X.env.kindOf x = some .globalImplicit
theorem ld_glob {E : Value → Shared → Prop} {pins : List (Addr × Obj)} {s : Shared} {σ : St} {H : Hp} {x : Str} {u : Value} {pos : Pos} {Q : Value → Shared → Prop} (I : Inv X pins σ H s) (hg : Gl X x) (hm : X.mg x = some u) (h : Q u s)
    (hd : (x == ("__debug__" : Str)) = false := by decide) : wpAny (model X.prog X.w) X.A (eval (.Name x pos) X.env) Q E s :=
  Calls.Name_function_global I.ok.kind hg (Calls.loadGlobal_global (by rw [I.ok.glob]; exact I.mod.glob.keeps I.bk) hm h) hd
theorem ld_blt {E : Value → Shared → Prop} {pins : List (Addr × Obj)} {s : Shared} {σ : St} {H : Hp} {x : Str} {u : Value} {pos : Pos} {Q : Value → Shared → Prop} (I : Inv X pins σ H s) (hg : Gl X x) (hm : X.mg x = none) (hv : bootBuiltins x = some u) (h : Q u s)
    (hn : x ≠ "__name__" := by decide) (hd : (x == ("__debug__" : Str)) = false := by decide) : wpAny (model X.prog X.w) X.A (eval (.Name x pos) X.env) Q E s := by
  obtain ⟨mb, h1, h2⟩ := I.mod.blt
  exact Calls.Name_function_global I.ok.kind hg (Calls.loadGlobal_builtin (by rw [I.ok.glob]; exact I.mod.glob.keeps I.bk) hm (by rw [I.ok.blt]; exact h1.keeps I.bk) ((h2 x hn).trans hv) h) hd
theorem pe_bltn {x : Str} {v : V} {u : Value} {pos : Pos} (hg : Gl X x) (hm : X.mg x = none) (hv : bootBuiltins x = some u) (r : RelV v u) (hn : x ≠ "__name__" := by decide) (hd : (x == ("__debug__" : Str)) = false := by decide) : PE X (.Name x pos) (tC v) :=
  fun _ _ _ H _ I h => ld_blt I hg hm hv ⟨v, H, I, r, h⟩ hn hd

variable {a b : Expr} {ta tb : TE} {pos : Pos}
def tB (t : TE) : TT := fun σ H Q => t σ H fun x H1 => ∃ c, x = .bl c ∧ Q c H1
theorem pt_val {e : Expr} {t : TE} (h : PE X e t) (he : ∀ whole, isTrue e X.env whole = (do let v ← whole; standAt e.pos; holding [v] (truthy v)) := by intro _; rfl) : PT X e (tB t) := by
  intro pins s σ H Q I hw
  refine isTrue_plain (thn (h pins s σ H _ I hw) fun v s1 ⟨x, H1, I1, r1, q1⟩ => ?_) (he _)
  obtain ⟨d, rfl, q⟩ := q1
  cases r1
  exact wpAny_truthy_bool ⟨H1, I1, q⟩

variable {tA tB' : TT} {rest : List Expr}
def tAnd (t u : TT) : TT := fun σ H Q => t σ H fun c H1 => if c = true then u σ H1 Q else Q false H1
def tOr (t u : TT) : TT := fun σ H Q => t σ H fun c H1 => if c = true then Q true H1 else u σ H1 Q
def tNot (t : TT) : TT := fun σ H Q => t σ H fun c H1 => Q (!c) H1
theorem pw_or1 (ha : PT X a tA) : PW X (.BoolOp .Or [a] pos) tA := by
  intro wh pins s σ H Q I h
  refine isTrue_or (thn (ha pins s σ H Q I h) fun c s1 e => ?_)
  cases c with
  | false => exact isTrue_or_nil e
  | true => exact e
theorem pw_or (ha : PT X a tA) (hb : PW X (.BoolOp .Or (b :: rest) pos) tB') : PW X (.BoolOp .Or (a :: b :: rest) pos) (tOr tA tB') := by
  intro wh pins s σ H Q I h
  refine isTrue_or (thn (ha pins s σ H _ I h) fun c s1 ⟨H1, I1, q1⟩ => ?_)
  cases c with
  | true => exact ⟨H1, I1, q1⟩
  | false => exact hb wh pins s1 σ H1 Q I1 q1
theorem pt_not (ha : PT X a tA) : PT X (.UnaryOp .Not a pos) (tNot tA) := by
  intro pins s σ H Q I h
  exact isTrue_not (ha pins s σ H (fun c H1 => Q (!c) H1) I h)
def tAndV (ta tb : TE) : TE := fun σ H Q => ta σ H fun x H1 => ∃ c, x = .bl c ∧ if c = true then tb σ H1 Q else Q (.bl false) H1
def tOrV (ta tb : TE) : TE := fun σ H Q => ta σ H fun x H1 => ∃ c, x = .bl c ∧ if c = true then Q (.bl true) H1 else tb σ H1 Q
def tNotV (ta : TE) : TE := fun σ H Q => ta σ H fun x H1 => ∃ c, x = .bl c ∧ Q (.bl (!c)) H1
theorem pe_one {op} {t : TE} (h : PE X a t) : PE X (.BoolOp op [a] pos) t := fun pins s σ H Q I hw => BoolOp_one (h pins s σ H Q I hw)
theorem pe_and (ha : PE X a ta) (hb : PE X (.BoolOp .And (b :: rest) pos) tb) : PE X (.BoolOp .And (a :: b :: rest) pos) (tAndV ta tb) := by
  intro pins s σ H Q I h
  refine BoolOp_and (thn (ha pins s σ H _ I h) fun v s1 ⟨x, H1, I1, r1, q1⟩ => ?_)
  obtain ⟨c, rfl, q1⟩ := q1
  cases r1
  refine wpAny_truthy_bool ?_
  cases c with
  | true => exact hb pins s1 σ H1 Q I1 q1
  | false => exact ⟨.bl false, H1, I1, rfl, q1⟩
theorem pe_not (ha : PE X a ta) : PE X (.UnaryOp .Not a pos) (tNotV ta) := by
  intro pins s σ H Q I h
  refine UnaryOp_ (thn (ha pins s σ H _ I h) fun v s1 ⟨x, H1, I1, r1, q1⟩ => ?_)
  obtain ⟨c, rfl, q1⟩ := q1
  cases r1
  exact not_of (wpAny_truthy_bool ⟨.bl (!c), H1, I1, rfl, q1⟩)
def tIf (t : TT) (ta tb : TE) : TE := fun σ H Q => t σ H fun c H1 => if c = true then ta σ H1 Q else tb σ H1 Q
end
end L2

namespace L2
open PySem PySem.Spec PyProof.Rows

def SqL (K : PySem.W.Frag) (H : Hp) (a : Addr) (xs : List V) : Prop :=
  Rd H a (.lst xs) ∨
    ∃ (o : Obj) (its : Array Value) (n : Nat), K.lookup a = some o ∧ o.cls = .type "list" ∧ o.dict = none ∧ o.data = .seq its n ∧ its.size ≤ sizeLine ∧ Vals xs its.toList
def SqT (K : PySem.W.Frag) (H : Hp) (a : Addr) (xs : List V) : Prop :=
  Rd H a (.tup xs) ∨
    ∃ (o : Obj) (its : Array Value) (n : Nat), K.lookup a = some o ∧ o.cls = .type "tuple" ∧ o.data = .seq its n ∧ its.size ≤ sizeLine ∧ Vals xs its.toList
def absV : Value → Option V
  | .none => some .non
  | .bool b => some (.bl b)
  | .int i _ => some (.int i)
  | .str x _ => some (.str x)
  | .bytes b _ => some (.byt b)
  | .float b _ => some (.flt b)
  | .ref a => some (.ref a)
  | .type n => some (.ty n)
  | _ => none
theorem RelV.abs {x : V} {u : Value} (r : RelV x u) : absV u = some x := by
  cases x with
  | non => cases r; rfl
  | bl _ => cases r; rfl
  | int _ => obtain ⟨t, rfl⟩ := r; rfl
  | str _ => obtain ⟨t, rfl⟩ := r; rfl
  | byt _ => obtain ⟨t, rfl⟩ := r; rfl
  | flt _ => obtain ⟨t, rfl⟩ := r; rfl
  | ref _ => cases r; rfl
  | ty _ => cases r; rfl
theorem RelV.inj {x y : V} {u : Value} (r : RelV x u) (q : RelV y u) : x = y := Option.some.inj (r.abs.symm.trans q.abs)
theorem Vals.inj : ∀ {xs ys : List V} {us : List Value}, Vals xs us → Vals ys us → xs = ys
  | _, _, _, .nil, .nil => rfl
  | _, _, _, .cons r t, .cons r' t' => by rw [r.inj r', Vals.inj t t']
section
variable {X : Cx} {pins : List (Addr × Obj)} {σ : St} {H : Hp} {s : Shared} {a : Addr} {xs ys : List V}
theorem SqL.of {K : PySem.W.Frag} (h : H a = some (.lst xs)) : SqL K H a xs := .inl (.inl h)
theorem SqT.of {K : PySem.W.Frag} (h : H a = some (.tup xs)) : SqT K H a xs := .inl (.inl h)
theorem Inv.list (I : Inv X pins σ H s) (h : SqL X.K H a xs) : ∃ its : List Value, Vals xs its ∧ PlainL s.heap a its.toArray ∧ xs.length ≤ sizeLine := by
  rcases h with h | ⟨o, its, n, hk, hc, hd, hs, hz, r⟩
  · obtain ⟨z, its, n, r, e⟩ := h.ok I.hok
    exact ⟨its, r, ⟨_, n, e, rfl, rfl, rfl⟩, z⟩
  · refine ⟨its.toList, r, ⟨o, n, I.kIn a o hk, hc, hd, by simpa using hs⟩, ?_⟩
    have e := r.length
    simp only [Array.length_toList] at e
    omega
theorem Inv.tuple (I : Inv X pins σ H s) (h : SqT X.K H a xs) : ∃ its : List Value, Vals xs its ∧ IsTup s.heap a its.toArray ∧ xs.length ≤ sizeLine := by
  rcases h with h | ⟨o, its, n, hk, hc, hs, hz, r⟩
  · obtain ⟨z, its, r, p⟩ := h.ok I.hok
    exact ⟨its, r, p, z⟩
  · refine ⟨its.toList, r, ⟨o, I.kIn a o hk, hc, n, by simpa using hs⟩, ?_⟩
    have e := r.length
    simp only [Array.length_toList] at e
    omega
theorem Inv.list_inj (I : Inv X pins σ H s) (h : SqL X.K H a xs) (h' : SqL X.K H a ys) : xs = ys := by
  obtain ⟨its, r, ⟨o, n, e, _, _, d⟩, _⟩ := I.list h
  obtain ⟨its', r', ⟨o', n', e', _, _, d'⟩, _⟩ := I.list h'
  rw [e] at e'; cases e'
  rw [d] at d'
  injection d' with d1 _
  have : its = its' := by simpa using congrArg Array.toList d1
  subst this
  exact r.inj r'
end

abbrev Cx.wish (X : Cx) (E : Value → Shared → Prop) : Cx := { X with xe := E }
abbrev Cx.nox (X : Cx) : Cx := X.wish fun _ _ => False
theorem Cx.Ok.wish {X : Cx} (ok : X.Ok) (E : Value → Shared → Prop) : (X.wish E).Ok :=
  ⟨ok.mod, ok.kind, ok.glob, ok.blt, ok.above, ok.inj, ok.has, ok.cab, ok.hd, ok.frames, ok.stk, ok.exf, ok.bs, ok.bsz, ok.noex, ok.exfs, ok.funs, ok.frf⟩
theorem Cx.Ok.unwish {X : Cx} {E : Value → Shared → Prop} (ok : (X.wish E).Ok) : X.Ok :=
  ⟨ok.mod, ok.kind, ok.glob, ok.blt, ok.above, ok.inj, ok.has, ok.cab, ok.hd, ok.frames, ok.stk, ok.exf, ok.bs, ok.bsz, ok.noex, ok.exfs, ok.funs, ok.frf⟩
section
variable {X : Cx} {pins : List (Addr × Obj)} {σ : St} {H : Hp} {s : Shared} {E : Value → Shared → Prop}
theorem Inv.wish (I : Inv X pins σ H s) (E : Value → Shared → Prop) : Inv (X.wish E) pins σ H s := ⟨I.ok.wish E, I.os, I.bare, I.base, I.loc, I.cell, I.free, I.freeC, I.pin, I.hok, I.len⟩
theorem Inv.unwish (I : Inv (X.wish E) pins σ H s) : Inv X pins σ H s := ⟨I.ok.unwish, I.os, I.bare, I.base, I.loc, I.cell, I.free, I.freeC, I.pin, I.hok, I.len⟩
theorem SP.unwish {D : Ends} {f : Flow} {s' : Shared} (h : SP (X.wish E) pins D f s') : SP X pins D f s' := by
  cases f with
  | next => obtain ⟨σ', H', I, q⟩ := h; exact ⟨σ', H', I.unwish, q⟩
  | brk => obtain ⟨σ', H', I, q⟩ := h; exact ⟨σ', H', I.unwish, q⟩
  | cont => obtain ⟨σ', H', I, q⟩ := h; exact ⟨σ', H', I.unwish, q⟩
  | ret u => obtain ⟨v, σ', H', I, r, q⟩ := h; exact ⟨v, σ', H', I.unwish, r, q⟩
theorem PE.nox {e : Expr} {t : TE} (h : PE X.nox e t) : PE X e t := fun pins s σ H Q I hw =>
  wpAny_mono (h pins s σ H Q (I.wish _) hw) (fun _ _ ⟨v, H', I', r, q⟩ => ⟨v, H', I'.unwish, r, q⟩) fun _ _ z => False.elim z
theorem PT.nox {e : Expr} {t : TT} (h : PT X.nox e t) : PT X e t := fun pins s σ H Q I hw =>
  wpAny_mono (h pins s σ H Q (I.wish _) hw) (fun _ _ ⟨H', I', q⟩ => ⟨H', I'.unwish, q⟩) fun _ _ z => False.elim z
theorem PSs.nox {st : List Stmt} {t : TS} (h : PSs X.nox st t) : PSs X st t := fun pins s σ H D I hw =>
  wpAny_mono (h pins s σ H D (I.wish _) hw) (fun _ _ q => q.unwish) fun _ _ z => False.elim z
end

section
variable {X : Cx} {st : Stmt} {rest : List Stmt} {t u : TS} {e : Expr} {te : TE} {pos : Pos}
def tNext : TS := fun D σ H => D.nx σ H
def tSeq (t u : TS) : TS := fun D σ H => t { D with nx := u D } σ H
theorem pss_nil : PSs X [] tNext := fun _ _ σ H _ I h => wpAny_execs_nil ⟨σ, H, I, h⟩
theorem pss_cons (h1 : PS X st t) (h2 : PSs X rest u) : PSs X (st :: rest) (tSeq t u) := by
  intro pins s σ H D I h
  refine wpAny_execs_cons (thn (h1 pins s σ H { D with nx := u D } I h) fun f s1 q => ?_)
  cases f with
  | next =>
    obtain ⟨σ', H', I', q⟩ := q
    exact h2 pins s1 σ' H' D I' q
  | ret v => exact q
  | brk => exact q
  | cont => exact q
theorem pss_one (h1 : PS X st t) : PSs X [st] t := by
  intro pins s σ H D I h
  refine wpAny_execs_cons (thn (h1 pins s σ H D I h) fun f s1 q => ?_)
  cases f with
  | next => exact wpAny_execs_nil q
  | ret v => exact q
  | brk => exact q
  | cont => exact q
def tBreak : TS := fun D σ H => D.bk σ H
def tCont : TS := fun D σ H => D.ct σ H
theorem Inv.quiet {pins : List (Addr × Obj)} {σ : St} {H : Hp} {s : Shared} (I : Inv X pins σ H s) : interactive X.env = false := by simp [interactive, I.ok.kind]
def tDrop (te : TE) : TS := fun D σ H => te σ H fun _ H1 => D.nx σ H1
theorem ps_expr (he : PE X e te) (hs : swapsWith e none pos.line X.env = pure false := by rfl) : PS X (.Expr e pos) (tDrop te) := by
  intro pins s σ H D I h
  exact wpAny_Expr_any (thn (he pins s σ H _ I h) fun v s1 ⟨x, H1, I1, r1, q1⟩ => ⟨σ, H1, I1, q1⟩) I.quiet hs
def tRet (te : TE) : TS := fun D σ H => te σ H D.rt
theorem ps_ret (he : PE X e te) : PS X (.Return (some e) pos) (tRet te) := by
  intro pins s σ H D I h
  exact wpAny_Return_some (thn (he pins s σ H _ I h) fun v s1 ⟨x, H1, I1, r1, q1⟩ => ⟨x, σ, H1, I1, r1, q1⟩)
def tRetN : TS := fun D _ H => D.rt .non H
def tIfS (c : TT) (t u : TS) : TS := fun D σ H => c σ H fun b H1 => if b = true then t D σ H1 else u D σ H1
theorem ps_if {c : Expr} {a b : List Stmt} {tc : TT} (hc : PT X c tc) (ha : PSs X a t) (hb : PSs X b u) : PS X (.If c a b pos) (tIfS tc t u) := by
  intro pins s σ H D I h
  refine wpAny_If (thn (hc pins s σ H _ I h) fun d s1 ⟨H1, I1, q1⟩ => ?_)
  cases d with
  | true => exact ha pins s1 σ H1 D I1 q1
  | false => exact hb pins s1 σ H1 D I1 q1
end

abbrev TG := V → St → Hp → (St → Hp → Prop) → Prop
def PG (X : Cx) (target : Expr) (t : TG) : Prop :=
  ∀ (pins : List (Addr × Obj)) (s : Shared) (σ : St) (H : Hp) (v : V) (u : Value) (Q : St → Hp → Prop), Inv X pins σ H s → RelV v u → t v σ H Q →
    wpAny (model X.prog X.w) X.A (assign target X.env u) (fun _ s' => ∃ σ' H', Inv X pins σ' H' s' ∧ Q σ' H') X.xe s
abbrev TSet := V → V → V → Hp → (Hp → Prop) → Prop
def PSet (X : Cx) (t : TSet) : Prop :=
  ∀ (pins : List (Addr × Obj)) (s : Shared) (σ : St) (H : Hp) (o i v : V) (ov iv u : Value) (Q : Hp → Prop), Inv X pins σ H s → RelV o ov → RelV i iv → RelV v u → t o i v H Q →
    wpAny (model X.prog X.w) X.A (setItem ov iv u) (fun _ s' => ∃ H', Inv X pins σ H' s' ∧ Q H') X.xe s
section
variable {X : Cx} {pos : Pos}
def gName (i : Nat) : TG := fun v σ H Q => Q (σ.set i (some v)) H
theorem pg_name {i : Nat} {x : Str} (hN : X.N.Nodup) (hi : X.N[i]? = some x) (hx : Loc X.env.scope x) (hf : X.fn x = true ∨ X.env.scope.names.lookup x = some .local := by first | exact .inl rfl | exact .inr rfl | assumption) : PG X (.Name x pos) (gName i) := by
  intro pins s σ H v u Q I r h
  exact wpAny_assign_Name (store_ok I hN hi hx r (fun s' I' => ⟨_, H, I', h⟩) hf)
def gSub (to ti : TE) (t : TSet) : TG := fun v σ H Q => to σ H fun o H1 => ti σ H1 fun i H2 => t o i v H2 fun H3 => Q σ H3
theorem pg_sub {o i : Expr} {to ti : TE} {t : TSet} (ho : PE X o to) (hi : PE X i ti) (hs : PSet X t)
    (ha : ∀ v, assign (.Subscript o i pos) X.env v = (do
      let ov ← holding [v] (eval o X.env)
      let iv ← holding [v, ov] (eval i X.env)
      standAt pos
      holding [v, ov, iv] (setItem ov iv v)
      release [v, ov, iv] []) := by intro _; rfl) : PG X (.Subscript o i pos) (gSub to ti t) := by
  intro pins s σ H v u Q I r h
  rw [ha]
  refine wpAny_bind (wpAny_holding (thn (ho pins s σ H _ I h) fun ov s1 ⟨x, H1, I1, r1, q1⟩ => ?_))
  refine wpAny_bind (wpAny_holding (thn (hi pins s1 σ H1 _ I1 q1) fun iv s2 ⟨y, H2, I2, r2, q2⟩ => ?_))
  refine wpAny_bind (wpAny_standAt (wpAny_bind (wpAny_holding (thn (hs pins s2 σ H2 x y v ov iv u _ I2 r1 r2 r q2) fun _ s3 ⟨H3, I3, q3⟩ => ?_))))
  exact wpAny_release ⟨σ, H3, I3, q3⟩
def tAsg (te : TE) (g : TG) : TS := fun D σ H => te σ H fun x H1 => g x σ H1 D.nx
theorem ps_asg {tg e : Expr} {te : TE} {g : TG} (he : PE X e te) (hg : PG X tg g) (hs : swapsWithSole [tg] e pos.line X.env = pure false := by rfl) (hw : swappedStores [tg] e X.env = pure none := by rfl)
    (h1 : (assignEach [tg] X.env).map (·.2) = [assign tg X.env] := by rfl) : PS X (.Assign [tg] e pos) (tAsg te g) := by
  intro pins s σ H D I h
  refine wpAny_Assign_stores (thn (he pins s σ H _ I h) fun v s1 ⟨x, H1, I1, r1, q1⟩ => ?_) hs hw
  rw [h1]
  exact thn (hg pins s1 σ H1 x v _ I1 r1 q1) fun _ s2 q => q
theorem ps_set {i : Nat} {x : Str} {e : Expr} {te : TE} {pos' : Pos} (hN : X.N.Nodup) (hi : X.N[i]? = some x) (hx : Loc X.env.scope x) (he : PE X e te) (hs : swapsWith e (some (.Name x pos')) pos.line X.env = pure false := by rfl) (hf : X.fn x = true ∨ X.env.scope.names.lookup x = some .local := by first | exact .inl rfl | exact .inr rfl | assumption) :
    PS X (.Assign [.Name x pos'] e pos) (tAsg te (gName i)) := by
  intro pins s σ H D I h
  refine wpAny_Assign_Name (thn (he pins s σ H _ I h) fun v s1 ⟨y, H1, I1, r1, q1⟩ => ?_) hs
  exact store_ok I1 hN hi hx r1 (fun s2 I2 => ⟨_, H1, I2, q1⟩) hf
end

section
variable {X : Cx} {pos : Pos}
end

structure It where
  go : Nat → Hp → Prop
  yld : Nat → Hp → V → Hp → Prop
  stop : Nat → Hp → Prop
def FpOk (X : Cx) (pins : List (Addr × Obj)) (H : Hp) (b : Addr) : Prop :=
  H b = none ∧ b ≠ X.env.locals ∧ b ∉ X.fs ∧ (b ∈ X.ex ∨ X.s₀.heap.objs.size ≤ b) ∧ (∀ x c, X.env.cells.lookup x = some c → c ≠ b) ∧ ∀ p ∈ X.pn ++ pins, p.1 ≠ b
theorem Inv.fpOk {X : Cx} {pins : List (Addr × Obj)} {σ : St} {H H' : Hp} {s : Shared} {b : Addr} (I : Inv X pins σ H s) (hb : s.heap.objs.size ≤ b) (hn : H' b = none) : FpOk X pins H' b := by
  refine ⟨hn, Nat.ne_of_gt (Nat.lt_of_lt_of_le I.lt hb), I.nofs hb, .inr (Nat.le_trans I.sz hb), fun x c e z => ?_, fun p hp z => ?_⟩
  · obtain ⟨v, q⟩ := I.cell x c e
    exact absurd (Nat.lt_of_lt_of_le q.lt (by rw [z]; exact hb)) (Nat.lt_irrefl _)
  · exact absurd (Nat.lt_of_lt_of_le (Heap.lt_size (I.pin p hp).1) (by rw [z]; exact hb)) (Nat.lt_irrefl _)
structure Turn (P : Program) (w : World) (K : PySem.W.Frag) (tg : Expr) (J : It) (fp : List Addr) (it : Addr) (tn : Nat → Heap → Prop) : Prop where
  mem : it ∈ fp
  obj : ∀ i h, tn i h → ∀ b ∈ fp, ∃ o, h.get? b = some o ∧ ∀ v, o.data ≠ .cell v
  keep : ∀ i h h', tn i h → (∀ b ∈ fp, ∀ o, h.get? b = some o → h'.get? b = some o) → tn i h'
  item : ∀ (X : Cx), X.prog = P → X.w = w → X.K = K → X.calm = true → ∀ (i : Nat) (pins : List (Addr × Obj)) (s : Shared) (σ : St) (H : Hp) (E : Value → Shared → Prop), Inv X pins σ H s → (∀ b ∈ fp, FpOk X pins H b) → tn i s.heap → J.go i H →
    wpAny (model P w) X.A (pyNext (.ref it)) (fun r s1 => ∃ u, r = some u ∧
      wpAny (model P w) X.A (letOwnedTupleGo tg (.ref it) u) (fun _ s2 => ∃ x H', Inv X pins σ H' s2 ∧ RelV x u ∧ J.yld i H x H' ∧ tn (i + 1) s2.heap ∧ ∀ b ∈ fp, H' b = none) E s1) E s
  done : ∀ (X : Cx), X.prog = P → X.w = w → X.K = K → X.calm = true → ∀ (i : Nat) (pins : List (Addr × Obj)) (s : Shared) (σ : St) (H : Hp) (E : Value → Shared → Prop), Inv X pins σ H s → (∀ b ∈ fp, FpOk X pins H b) → tn i s.heap → J.stop i H →
    wpAny (model P w) X.A (pyNext (.ref it)) (fun r s1 => r = none ∧ Inv X pins σ H s1) E s
  self : ∀ (A : Around) (i : Nat) (s : Shared) (Q : Value → Shared → Prop) (E : Value → Shared → Prop), tn i s.heap → Q (.ref it) s → wpAny (model P w) A (pyIter (.ref it)) Q E s
abbrev TI := St → Hp → (It → Hp → Prop) → Prop
def PIE (X : Cx) (pins : List (Addr × Obj)) (σ : St) (tg : Expr) (R : It → Hp → Prop) (itv : Value) (s2 : Shared) : Prop :=
  ∃ (it : Addr) (fp : List Addr) (tn : Nat → Heap → Prop) (J : It) (H' : Hp), itv = .ref it ∧ Inv X pins σ H' s2 ∧ Turn X.prog X.w X.K tg J fp it tn ∧ tn 0 s2.heap ∧ (∀ b ∈ fp, FpOk X pins H' b) ∧ R J H'
def PI (X : Cx) (tg iter : Expr) (wi : TI) : Prop :=
  ∀ (pins : List (Addr × Obj)) (s : Shared) (σ : St) (H : Hp) (R : It → Hp → Prop), Inv X pins σ H s → wi σ H R →
    wpAny (model X.prog X.w) X.A (eval iter X.env) (fun v s1 => wpAny (model X.prog X.w) X.A (pyIter v) (PIE X pins σ tg R) X.xe s1) X.xe s

theorem go_of {M : Model} {A : Around} {E : Value → Shared → Prop} {s : Shared} {tg : Expr} {it : Addr} {u : Value} {o : Obj} {n : String} {vs : Array Value} {Q : Unit → Shared → Prop} (ho : s.heap.get? it = some o) (hc : o.cls = .type n) (hd : o.data = .fields vs)
    (hn : ["enumerate", "zip", "dict_itemiterator", "dict_reverseitemiterator", "odict_iterator", "itertools.zip_longest", "itertools.pairwise"].contains n = false) (hQ : Q () s) : wpAny M A (letOwnedTupleGo tg (.ref it) u) Q E s := by
  unfold letOwnedTupleGo
  cases tg <;> first
    | exact wpAny_pure hQ
    | (cases u <;> first
        | exact wpAny_pure hQ
        | (refine wpAny_bind (wpAny_load ho ?_)
           rw [hc, hd]
           show wpAny M A (if (["enumerate", "zip", "dict_itemiterator", "dict_reverseitemiterator", "odict_iterator", "itertools.zip_longest", "itertools.pairwise"].contains n && vs[0]? == some (rawInt _)) = true then _ else _) Q E s
           rw [if_neg (by intro h; rw [hn, Bool.false_and] at h; cases h)]
           exact wpAny_pure hQ))

def Itl (K : PySem.W.Frag) (a : Addr) : It :=
  ⟨fun i H => ∃ xs x, SqL K H a xs ∧ xs[i]? = some x, fun i H x H' => H' = H ∧ ∀ xs, SqL K H a xs → xs[i]? = some x, fun i H => ∃ xs, SqL K H a xs ∧ xs.length ≤ i⟩
def Itr (lo : Int) (n : Nat) : It := ⟨fun i _ => i < n, fun i H x H' => H' = H ∧ x = .int (lo + i), fun i _ => n ≤ i⟩
theorem turn_list {P : Program} {w : World} {K : PySem.W.Frag} {tg : Expr} (a it : Addr) : Turn P w K tg (Itl K a) [it] it (fun i h => h.IsListIter it a i) where
  mem := by simp
  obj := fun i h st b hb => by
    have e : b = it := by simpa using hb
    subst e
    obtain ⟨o, e, c, d⟩ := st
    exact ⟨o, e, fun v z => by rw [d] at z; cases z⟩
  keep := fun i h h' st k => st.at fun o e => k it (by simp) o e
  item := by
    intro X hP hw hK hc i pins s σ H E I hf st hg
    subst hP hw hK
    obtain ⟨xs, x, hq, hx⟩ := hg
    obtain ⟨its, rv, p, hz⟩ := I.list hq
    obtain ⟨u, hu, ru⟩ := rv.get hx
    obtain ⟨f0, f1, f2, f3, f4, f5⟩ := hf it (by simp)
    refine wpAny_pyNext_list_item st p.isList (x := u) (by simpa using hu) fun h' st' sb => ?_
    have I1 : Inv X pins σ H { s with heap := h' } := I.turned (t' := s.toks) (fun b o hb e => (sb.2 b hb).trans e) f0 f1 f3 f4 f5
    obtain ⟨o, e, c, d⟩ := id st'
    exact ⟨u, rfl, go_of (s := { s with heap := h' }) e c d (by decide) ⟨x, H, I1, ru, ⟨rfl, fun ys hy => by rw [I.list_inj hy hq]; exact hx⟩, st', fun b hb => (hf b hb).1⟩⟩
  done := by
    intro X hP hw hK hc i pins s σ H E I hf st hg
    subst hP hw hK
    obtain ⟨xs, hq, hx⟩ := hg
    obtain ⟨its, rv, p, hz⟩ := I.list hq
    obtain ⟨f0, f1, f2, f3, f4, f5⟩ := hf it (by simp)
    have hl := rv.length
    exact wpAny_pyNext_list_end (I.ok.hd hc) st p.isList (by simp; omega) fun h' eb => ⟨rfl, I.turned (t' := s.toks) (fun b o hb e => eb b o hb e) f0 f1 f3 f4 f5⟩
  self := fun _ _ _ _ _ st h => wpAny_pyIter_listiter st h
theorem turn_range {P : Program} {w : World} {K : PySem.W.Frag} {tg : Expr} (it : Addr) (lo : Int) (n : Nat) : Turn P w K tg (Itr lo n) [it] it (fun i h => IsRangeIter h it (lo + (i : Nat) * 1) ((n : Int) - (i : Nat)) 1) where
  mem := by simp
  obj := fun i h st b hb => by
    have e : b = it := by simpa using hb
    subst e
    exact ⟨_, st, fun v z => by
      have z' : Data.fields _ = Data.cell v := z
      cases z'⟩
  keep := fun i h h' st k => k it (by simp) _ st
  item := by
    intro X hP hw hK hc i pins s σ H E I hf st hg
    subst hP hw hK
    obtain ⟨f0, f1, f2, f3, f4, f5⟩ := hf it (by simp)
    have W := Walks.range (prog := X.prog) (w := X.w) (I.ok.hd hc) it lo 1 n
    refine W.item i s _ _ hg st fun v h' tk hv st' kk => ?_
    obtain ⟨t, rfl⟩ := hv
    have I1 : Inv X pins σ H { s with heap := h', toks := tk } := I.turned (fun b o hb e => kk b o (by simpa using hb) e) f0 f1 f3 f4 f5
    refine ⟨_, rfl, go_of (s := { s with heap := h', toks := tk }) (n := "range_iterator") st' rfl rfl (by decide) ⟨.int (lo + i), H, I1, ⟨t, ?_⟩, ⟨rfl, rfl⟩, st', fun b hb => (hf b hb).1⟩⟩
    rw [Int.mul_one]
  done := by
    intro X hP hw hK hc i pins s σ H E I hf st hg
    subst hP hw hK
    obtain ⟨f0, f1, f2, f3, f4, f5⟩ := hf it (by simp)
    exact wpAny_pyNext_range_end (I.ok.hd hc) st (by have : n ≤ i := hg; omega) fun h' eb => ⟨rfl, I.turned (t' := s.toks) (fun b o hb e => eb b o hb e) f0 f1 f3 f4 f5⟩
  self := fun _ _ _ _ _ st h => wpAny_pyIter_rangeiter st h
end L2

namespace L2
open PySem PySem.Spec PyProof.Rows
section
variable {X : Cx} {tg : Expr}
def iList (K : PySem.W.Frag) (tl : TE) : TI := fun σ H R => tl σ H fun x H1 => ∃ a, x = .ref a ∧ (∃ xs, SqL K H1 a xs) ∧ R (Itl K a) H1
theorem pi_list {l : Expr} {tl : TE} (hl : PE X l tl) : PI X tg l (iList X.K tl) := by
  intro pins s σ H R I h
  refine thn (hl pins s σ H _ I h) fun v s1 ⟨x, H1, I1, r1, q1⟩ => ?_
  obtain ⟨a, e, ⟨xs, hq⟩, q⟩ := q1
  subst e
  cases r1
  obtain ⟨its, rv, p, hz⟩ := I1.list hq
  refine wpAny_pyIter_list p.isList ?_
  refine ⟨s1.heap.objs.size, [s1.heap.objs.size], _, _, H1, rfl, I1.kept (t' := s1.toks) fun b o e => Heap.get?_push_of_some _ e, turn_list a _, ⟨_, Heap.get?_push_size _ rfl, rfl, rfl⟩, fun b hb => ?_, q⟩
  have e : b = s1.heap.objs.size := by simpa using hb
  subst e
  exact I1.fpOk (Nat.le_refl _) (I1.hok.fresh (Nat.le_refl _))
theorem range_it {pins : List (Addr × Obj)} {σ : St} {H : Hp} {s : Shared} {R : It → Hp → Prop} {E : Value → Shared → Prop} {lo hi : Int} {t u v : Tok} {tk : Nat} (I : Inv X pins σ H s) (h1 : -(2 ^ 62) ≤ lo) (h2 : lo < 2 ^ 62) (h3 : -(2 ^ 62) ≤ hi) (h4 : hi < 2 ^ 62)
    (q : R (Itr lo (hi - lo).toNat) H) : wpAny (model X.prog X.w) X.A (pyIter (.ref s.heap.objs.size)) (PIE X pins σ tg R) E { s with heap := s.heap.push { cls := .type "range", data := .fields #[.int lo t, .int hi u, .int 1 v] }, toks := tk } := by
  refine wpAny_pyIter_range (IsRange.new ..) (small_one h1 h2 h3 h4) ?_
  have I1 : Inv X pins σ H { s with heap := s.heap.push { cls := .type "range", data := .fields #[.int lo t, .int hi u, .int 1 v] }, toks := tk } := I.kept fun b o e => Heap.get?_push_of_some _ e
  refine ⟨(s.heap.push { cls := .type "range", data := .fields #[.int lo t, .int hi u, .int 1 v] }).objs.size, [(s.heap.push { cls := .type "range", data := .fields #[.int lo t, .int hi u, .int 1 v] }).objs.size], _, _, H, rfl,
    I1.kept (t' := tk) fun b o e => Heap.get?_push_of_some _ e, turn_range _ lo (hi - lo).toNat, ?_, fun b hb => ?_, q⟩
  · have e1 : lo + ((0 : Nat) : Int) * 1 = lo := by simp
    have e2 : (((hi - lo).toNat : Nat) : Int) - ((0 : Nat) : Int) = Builtin.Range.rangeSize lo hi 1 := by rw [rangeSize_one]; split <;> omega
    show IsRangeIter _ _ (lo + ((0 : Nat) : Int) * 1) ((((hi - lo).toNat : Nat) : Int) - ((0 : Nat) : Int)) 1
    rw [e1, e2]
    exact Heap.get?_push_size _ rfl
  · have e : b = (s.heap.push { cls := .type "range", data := .fields #[.int lo t, .int hi u, .int 1 v] }).objs.size := by simpa using hb
    subst e
    exact I1.fpOk (Nat.le_refl _) (I1.hok.fresh (Nat.le_refl _))
def iRng1 (ta : TA) : TI := fun σ H R => ta σ H fun vs H1 => ∃ j : Int, vs = [.int j] ∧ -(2 ^ 62) ≤ j ∧ j < 2 ^ 62 ∧ R (Itr 0 j.toNat) H1
theorem pi_range1 {a : Expr} {ta : TA} {p pos : Pos} (hg : Gl X "range") (hm : X.mg "range" = none) (ha : PA X [a] ta) (hs : starEach [a] X.env = [(false, eval a X.env)] := by rfl) : PI X tg (.Call (.Name "range" p) [a] [] pos) (iRng1 ta) := by
  intro pins s σ H R I h
  refine Call_ (ld_blt I hg hm boot_range (PyProof.Rows.callWith_type1 (thn (ha pos pins s σ H _ I h) fun us s1 ⟨vs, H1, I1, r1, q1⟩ => ?_) hs rfl))
  obtain ⟨j, e, q1, q2, q⟩ := q1
  subst e
  cases r1 with
  | cons r rr =>
    cases rr
    obtain ⟨t, rfl⟩ := r
    exact call_range_1 (range_it I1 (by omega) (by omega) q1 q2 (by simpa using q))
def tFor (wi : TI) (g : TG) (tb : TS) : TS := fun D σ H => wi σ H fun J H1 => ∃ W : Nat → Nat → St → Hp → Prop, (∃ m, W 0 m σ H1) ∧ ∀ i m σ H, W i m σ H →
  (J.stop i H ∧ D.nx σ H) ∨ (J.go i H ∧ ∃ N : St → Hp → Prop, (∀ σ' H', N σ' H' → ∃ m', m' < m ∧ W (i + 1) m' σ' H') ∧ ∀ x H', J.yld i H x H' → g x σ H' fun σ2 H2 => tb { D with nx := N, ct := N, bk := D.nx } σ2 H2)
def pinsAt (fp : List Addr) (h : Heap) : List (Addr × Obj) := fp.filterMap fun b => (h.get? b).map fun o => (b, o)
theorem mem_pinsAt {fp : List Addr} {h : Heap} {b : Addr} {o : Obj} (hb : b ∈ fp) (e : h.get? b = some o) : (b, o) ∈ pinsAt fp h := List.mem_filterMap.mpr ⟨b, hb, by rw [e]; rfl⟩
theorem of_pinsAt {fp : List Addr} {h : Heap} {p : Addr × Obj} (hp : p ∈ pinsAt fp h) : p.1 ∈ fp ∧ h.get? p.1 = some p.2 := by
  obtain ⟨b, hb, e⟩ := List.mem_filterMap.mp hp
  cases q : h.get? b with
  | none => rw [q] at e; cases e
  | some o =>
    rw [q] at e
    have e' : (b, o) = p := Option.some.inj e
    subst e'
    exact ⟨hb, q⟩
theorem Inv.pinned {pins : List (Addr × Obj)} {σ : St} {H : Hp} {s : Shared} {fp : List Addr} (I : Inv X pins σ H s) (hf : ∀ b ∈ fp, FpOk X pins H b) (ho : ∀ b ∈ fp, ∃ o, s.heap.get? b = some o ∧ ∀ v, o.data ≠ .cell v) : Inv X (pins ++ pinsAt fp s.heap) σ H s :=
  I.pins_of fun p hp => (List.mem_append.mp hp).elim (fun z => I.pin p (List.mem_append_right _ z)) fun z => by
    obtain ⟨hb, e⟩ := of_pinsAt z
    obtain ⟨f0, f1, f2, _⟩ := hf p.1 hb
    obtain ⟨o, e', d⟩ := ho p.1 hb
    rw [e] at e'; cases e'
    exact ⟨e, f0, f1, f2, d⟩
theorem Inv.unpinned {pins pl : List (Addr × Obj)} {σ : St} {H : Hp} {s : Shared} (I : Inv X (pins ++ pl) σ H s) : Inv X pins σ H s := I.pins_of fun p hp => I.pin p (List.mem_append_right _ (List.mem_append_left _ hp))
theorem ps_for {iter : Expr} {body : List Stmt} {wi : TI} {g : TG} {tb : TS} {pos : Pos} (hp : PassesOwn (model X.prog X.w) X.A X.env X.xe) (hc : X.calm = true) (hi : PI X tg iter wi) (hg : PG X tg g) (hb : PSs X body tb)
    (hs : ∀ x, foldedSetIterable iter X.env x = pure x := by intro _; rfl) : PS X (.For tg iter body [] pos) (tFor wi g tb) := by
  intro pins s σ H D I h
  refine wpAny_For (thn (hi pins s σ H _ I h) fun v s1 h1 => thn h1 fun itv s2 h2 => ?_) hs
  obtain ⟨it, fp, tn, J, H2, e, I2, T, st2, f2, W, ⟨m0, w0⟩, turn⟩ := h2
  subst e
  -- what stays true of the iterator's objects through the loop
  have stat : ∀ {H' : Hp}, (∀ b ∈ fp, H' b = none) → ∀ b ∈ fp, FpOk X pins H' b := fun hn b hb => ⟨hn b hb, (f2 b hb).2⟩
  refine codeAny_forLoop_any (fun n s' => ∃ i σ' H', Inv X pins σ' H' s' ∧ tn i s'.heap ∧ (∀ b ∈ fp, H' b = none) ∧ W i n σ' H') ?_ m0 ⟨0, σ, H2, I2, st2, fun b hb => (f2 b hb).1, w0⟩
  rintro n s3 ⟨i, σ3, H3, I3, st3, fr3, w3⟩
  rcases turn i n σ3 H3 w3 with ⟨stop, qn⟩ | ⟨go, N, hN, step⟩
  · refine wpAny_passesOwn hp (thn (T.done X rfl rfl rfl hc i pins s3 σ3 H3 X.xe I3 (stat fr3) st3 stop) fun r s4 ⟨hr, I4⟩ => ?_)
    subst hr
    exact wpAny_execs_nil ⟨σ3, H3, I4, qn⟩
  · refine wpAny_passesOwn hp (thn (T.item X rfl rfl rfl hc i pins s3 σ3 H3 X.xe I3 (stat fr3) st3 go) fun r s4 ⟨u, hr, h4⟩ => ?_)
    subst hr
    refine wpAny_passesOwn hp (thn h4 fun _ s5 ⟨x, H5, I5, r5, y5, st5, fr5⟩ => ?_)
    have I5' := I5.pinned (stat fr5) (T.obj _ _ st5)
    refine wpAny_passesOwn hp (thn (hg _ s5 σ3 H5 x u _ I5' r5 (step x H5 y5)) fun _ s6 ⟨σ6, H6, I6, q6⟩ => ?_)
    refine wpAny_passesOwn hp (thn (hb _ s6 σ6 H6 _ I6 q6) fun f s7 q7 => ?_)
    have again : ∀ {σ7 : St} {H7 : Hp}, Inv X (pins ++ pinsAt fp s5.heap) σ7 H7 s7 → N σ7 H7 → ∃ m, m < n ∧ ∃ i σ' H', Inv X pins σ' H' s7 ∧ tn i s7.heap ∧ (∀ b ∈ fp, H' b = none) ∧ W i m σ' H' := fun {σ7 H7} I7 n7 => by
      obtain ⟨m', hm, w7⟩ := hN σ7 H7 n7
      refine ⟨m', hm, i + 1, σ7, H7, I7.unpinned, T.keep _ _ _ st5 fun b hb o e => (I7.pin (b, o) (List.mem_append_right _ (List.mem_append_right _ (mem_pinsAt hb e)))).1, fun b hb => ?_, w7⟩
      obtain ⟨o, e, d⟩ := T.obj _ _ st5 b hb
      exact (I7.pin (b, o) (List.mem_append_right _ (List.mem_append_right _ (mem_pinsAt hb e)))).2.1
    cases f with
    | next => obtain ⟨σ7, H7, I7, n7⟩ := q7; exact again I7 n7
    | cont => obtain ⟨σ7, H7, I7, n7⟩ := q7; exact again I7 n7
    | brk => obtain ⟨σ7, H7, I7, q7⟩ := q7; exact ⟨σ7, H7, I7.unpinned, q7⟩
    | ret v => obtain ⟨x7, σ7, H7, I7, r7, q7⟩ := q7; exact ⟨x7, σ7, H7, I7.unpinned, r7, q7⟩
end

theorem for_list {K : PySem.W.Frag} {a : Addr} {xs : List V} {g : TG} {tb : TS} {D : Ends} {σ : St} {H : Hp} (Pv : Nat → St → Hp → Prop) (h0 : Pv 0 σ H) (hl : ∀ i σ H, i ≤ xs.length → Pv i σ H → SqL K H a xs)
    (hs : ∀ i x σ H, xs[i]? = some x → Pv i σ H → g x σ H fun σ2 H2 => tb { D with nx := Pv (i + 1), ct := Pv (i + 1), bk := D.nx } σ2 H2) (hd : ∀ σ H, Pv xs.length σ H → D.nx σ H) :
    ∃ W : Nat → Nat → St → Hp → Prop, (∃ m, W 0 m σ H) ∧ ∀ i m σ H, W i m σ H →
      ((Itl K a).stop i H ∧ D.nx σ H) ∨ ((Itl K a).go i H ∧ ∃ N : St → Hp → Prop, (∀ σ' H', N σ' H' → ∃ m', m' < m ∧ W (i + 1) m' σ' H') ∧ ∀ x H', (Itl K a).yld i H x H' → g x σ H' fun σ2 H2 => tb { D with nx := N, ct := N, bk := D.nx } σ2 H2) := by
  refine ⟨fun i m σ H => m = xs.length - i ∧ i ≤ xs.length ∧ Pv i σ H, ⟨xs.length, by simp, Nat.zero_le _, h0⟩, ?_⟩
  rintro i m σ H ⟨rfl, hi, p⟩
  have q := hl i σ H hi p
  by_cases hlt : i < xs.length
  · refine .inr ⟨⟨xs, xs[i], q, by simp [hlt]⟩, Pv (i + 1), fun σ' H' p' => ⟨xs.length - (i + 1), by omega, rfl, hlt, p'⟩, fun x H' y => ?_⟩
    obtain ⟨e, y⟩ := y
    subst e
    exact hs i x σ _ (y xs q) p
  · have e : i = xs.length := by omega
    subst e
    exact .inl ⟨⟨xs, q, Nat.le_refl _⟩, hd σ H p⟩
theorem for_range {lo : Int} {n : Nat} {g : TG} {tb : TS} {D : Ends} {σ : St} {H : Hp} (Pv : Nat → St → Hp → Prop) (h0 : Pv 0 σ H)
    (hs : ∀ i σ H, i < n → Pv i σ H → g (.int (lo + i)) σ H fun σ2 H2 => tb { D with nx := Pv (i + 1), ct := Pv (i + 1), bk := D.nx } σ2 H2) (hd : ∀ σ H, Pv n σ H → D.nx σ H) :
    ∃ W : Nat → Nat → St → Hp → Prop, (∃ m, W 0 m σ H) ∧ ∀ i m σ H, W i m σ H →
      ((Itr lo n).stop i H ∧ D.nx σ H) ∨ ((Itr lo n).go i H ∧ ∃ N : St → Hp → Prop, (∀ σ' H', N σ' H' → ∃ m', m' < m ∧ W (i + 1) m' σ' H') ∧ ∀ x H', (Itr lo n).yld i H x H' → g x σ H' fun σ2 H2 => tb { D with nx := N, ct := N, bk := D.nx } σ2 H2) := by
  refine ⟨fun i m σ H => m = n - i ∧ i ≤ n ∧ Pv i σ H, ⟨n, by simp, Nat.zero_le _, h0⟩, ?_⟩
  rintro i m σ H ⟨rfl, hi, p⟩
  by_cases hlt : i < n
  · refine .inr ⟨hlt, Pv (i + 1), fun σ' H' p' => ⟨n - (i + 1), by omega, rfl, hlt, p'⟩, fun x H' y => ?_⟩
    obtain ⟨e, y⟩ := y
    subst e y
    exact hs i σ _ hlt p
  · have e : i = n := by omega
    subst e
    exact .inl ⟨Nat.le_refl _, hd σ H p⟩
end L2

namespace L2
open PySem PySem.Spec PyProof.Rows

abbrev R2 := V → V → Hp → VK → Prop
def OpR (X : Cx) (f : Value → Value → Sem Value) (r : R2) : Prop :=
  ∀ (pins : List (Addr × Obj)) (s : Shared) (σ : St) (H : Hp) (x y : V) (v u : Value) (Q : VK), Inv X pins σ H s → RelV x v → RelV y u → r x y H Q →
    wpAny (model X.prog X.w) X.A (f v u) (EP X pins σ Q) X.xe s
def UnR (X : Cx) (f : Value → Sem Value) (r : V → Hp → VK → Prop) : Prop :=
  ∀ (pins : List (Addr × Obj)) (s : Shared) (σ : St) (H : Hp) (x : V) (v : Value) (Q : VK), Inv X pins σ H s → RelV x v → r x H Q →
    wpAny (model X.prog X.w) X.A (f v) (EP X pins σ Q) X.xe s
def CallR (X : Cx) (f : Value) (r : List V → Hp → VK → Prop) : Prop :=
  ∀ (pins : List (Addr × Obj)) (s : Shared) (σ : St) (H : Hp) (xs : List V) (us : List Value) (Q : VK), Inv X pins σ H s → Vals xs us → r xs H Q →
    wpAny (model X.prog X.w) X.A (call f us) (EP X pins σ Q) X.xe s
def tOp (r : R2) (ta tb : TE) : TE := fun σ H Q => ta σ H fun x H1 => tb σ H1 fun y H2 => r x y H2 Q
def tUn (r : V → Hp → VK → Prop) (ta : TE) : TE := fun σ H Q => ta σ H fun x H1 => r x H1 Q
def rI (C : Int → Int → Prop) (g : Int → Int → V) : R2 := fun x y H Q => ∃ i j, x = .int i ∧ y = .int j ∧ C i j ∧ Q (g i j) H
def rI0 (g : Int → Int → V) : R2 := fun x y H Q => ∃ i j, x = .int i ∧ y = .int j ∧ Q (g i j) H
def rU (g : Int → V) : V → Hp → VK → Prop := fun x H Q => ∃ i, x = .int i ∧ Q (g i) H

section
variable {X : Cx} {a b c : Expr} {ta tb tc : TE} {pos : Pos}

theorem binT (ha : PE X a ta) (hb : PE X b tb) {pins : List (Addr × Obj)} {s : Shared} {σ : St} {H : Hp} {R : V → V → Hp → Prop} (I : Inv X pins σ H s)
    (h : ta σ H fun x H1 => tb σ H1 fun y H2 => R x y H2) {Q : Value → Shared → Prop} {f : Value → Value → Sem Value}
    (hf : ∀ v u s2 x y H2, Inv X pins σ H2 s2 → RelV x v → RelV y u → R x y H2 → wpAny (model X.prog X.w) X.A (f v u) Q X.xe s2) :
    wpAny (model X.prog X.w) X.A (eval a X.env) (fun v s₁ => wpAny (model X.prog X.w) X.A (eval b X.env) (fun u s₂ => wpAny (model X.prog X.w) X.A (f v u) Q X.xe s₂) X.xe s₁) X.xe s := by
  refine thn (ha pins s σ H _ I h) fun v s1 ⟨x, H1, I1, r1, q1⟩ => ?_
  refine thn (hb pins s1 σ H1 _ I1 q1) fun u s2 ⟨y, H2, I2, r2, q2⟩ => ?_
  exact hf v u s2 x y H2 I2 r1 r2 q2

theorem pe_op {op : Operator} {r : R2} (ho : OpR X (binaryOp op) r) (ha : PE X a ta) (hb : PE X b tb) : PE X (.BinOp a op b pos) (tOp r ta tb) := by
  intro pins s σ H Q I h
  exact wpAny_BinOp (binT ha hb I h fun v u s2 x y H2 I2 rx ry q => ho pins s2 σ H2 x y v u Q I2 rx ry q)
theorem pe_un {op : UnaryOp} {r : V → Hp → VK → Prop} (ho : UnR X (unaryOp op) r) (ha : PE X a ta) : PE X (.UnaryOp op a pos) (tUn r ta) := by
  intro pins s σ H Q I h
  exact UnaryOp_ (thn (ha pins s σ H _ I h) fun v s1 ⟨x, H1, I1, r1, q1⟩ => ho pins s1 σ H1 x v Q I1 r1 q1)
theorem opI {f : Value → Value → Sem Value} {C : Int → Int → Prop} {g : Int → Int → Int}
    (rule : ∀ (i j : Int) (t u : Tok) (s : Shared) (Q : Value → Shared → Prop) (E : Value → Shared → Prop), C i j → Q (.int (g i j) s.toks) { s with toks := s.toks + 1 } → wpAny (model X.prog X.w) X.A (f (.int i t) (.int j u)) Q E s) :
    OpR X f (rI C fun i j => .int (g i j)) := by
  intro pins s σ H x y v u Q I rx ry h
  obtain ⟨i, j, rfl, rfl, hc, q⟩ := h
  obtain ⟨t, rfl⟩ := rx
  obtain ⟨t', rfl⟩ := ry
  exact rule i j t t' s _ _ hc ⟨.int (g i j), H, I.tok _, ⟨_, rfl⟩, q⟩
theorem opI0 {f : Value → Value → Sem Value} {g : Int → Int → Int}
    (rule : ∀ (i j : Int) (t u : Tok) (s : Shared) (Q : Value → Shared → Prop) (E : Value → Shared → Prop), Q (.int (g i j) s.toks) { s with toks := s.toks + 1 } → wpAny (model X.prog X.w) X.A (f (.int i t) (.int j u)) Q E s) :
    OpR X f (rI0 fun i j => .int (g i j)) := by
  intro pins s σ H x y v u Q I rx ry h
  obtain ⟨i, j, rfl, rfl, q⟩ := h
  obtain ⟨t, rfl⟩ := rx
  obtain ⟨t', rfl⟩ := ry
  exact rule i j t t' s _ _ ⟨.int (g i j), H, I.tok _, ⟨_, rfl⟩, q⟩
theorem opB0 {f : Value → Value → Sem Value} {g : Int → Int → Bool}
    (rule : ∀ (i j : Int) (t u : Tok) (s : Shared) (Q : Value → Shared → Prop) (E : Value → Shared → Prop), Q (.bool (g i j)) s → wpAny (model X.prog X.w) X.A (f (.int i t) (.int j u)) Q E s) :
    OpR X f (rI0 fun i j => .bl (g i j)) := by
  intro pins s σ H x y v u Q I rx ry h
  obtain ⟨i, j, rfl, rfl, q⟩ := h
  obtain ⟨t, rfl⟩ := rx
  obtain ⟨t', rfl⟩ := ry
  exact rule i j t t' s _ _ ⟨.bl (g i j), H, I, rfl, q⟩

def CDiv (i j : Int) : Prop := 0 < j ∧ j < 1073741824
def CPow (i j : Int) : Prop := 0 ≤ j ∧ j ≤ 1000000 ∧ i.natAbs < 2 ^ 64
def CMul (i j : Int) : Prop := (-(2 ^ 64) < i ∧ i < 2 ^ 64) ∨ (-(2 ^ 64) < j ∧ j < 2 ^ 64)
theorem CMul.ok {i j : Int} (h : CMul i j) : IntMulOk i j := by
  rcases h with ⟨h1, h2⟩ | ⟨h1, h2⟩
  · exact .of_left (intBits_le_64 h1 h2)
  · exact .of_right (intBits_le_64 h1 h2)
theorem op_add : OpR X (binaryOp .Add) (rI0 fun i j => .int (i + j)) := opI0 fun _ _ _ _ _ _ _ q => add_int q
theorem op_sub : OpR X (binaryOp .Sub) (rI0 fun i j => .int (i - j)) := opI0 fun _ _ _ _ _ _ _ q => sub_int q
theorem op_mul : OpR X (binaryOp .Mult) (rI CMul fun i j => .int (i * j)) := opI fun _ _ _ _ _ _ _ hc q => mul_int q hc.ok
theorem op_fdiv : OpR X (binaryOp .FloorDiv) (rI CDiv fun i j => .int (i / j)) := opI fun i j _ _ _ _ _ hc q => by
  have h1 : (0 : Int) < j := hc.1
  have h2 : j < 1073741824 := hc.2
  exact floordiv_int (by omega) (by rw [Int.fdiv_eq_ediv_of_nonneg i (by omega)]; exact q) (.inl (PyProof.noPylong_small (by omega)))
theorem op_mod : OpR X (binaryOp .Mod) (rI (fun _ j => 0 < j) fun i j => .int (i % j)) := opI fun i j _ _ _ _ _ hc q => by
  have h1 : (0 : Int) < j := hc
  exact mod_int' (by omega) (by rw [Int.fmod_eq_emod_of_nonneg i (by omega)]; exact q)
theorem op_pow : OpR X (binaryOp .Pow) (rI CPow fun i j => .int (i ^ j.toNat)) := opI fun _ _ _ _ _ _ _ hc q => pow_int_small hc.1 hc.2.1 hc.2.2 q
theorem unI {f : Value → Sem Value} {g : Int → Int}
    (rule : ∀ (i : Int) (t : Tok) (s : Shared) (Q : Value → Shared → Prop) (E : Value → Shared → Prop), Q (.int (g i) s.toks) { s with toks := s.toks + 1 } → wpAny (model X.prog X.w) X.A (f (.int i t)) Q E s) :
    UnR X f (rU fun i => .int (g i)) := by
  intro pins s σ H x v Q I rx h
  obtain ⟨i, rfl, q⟩ := h
  obtain ⟨t, rfl⟩ := rx
  exact rule i t s _ _ ⟨.int (g i), H, I.tok _, ⟨_, rfl⟩, q⟩
theorem un_neg : UnR X (unaryOp .USub) (rU fun i => .int (-i)) := unI fun _ _ _ _ _ q => neg_int q
end

def scal : V → V → Bool
  | .non, .non => true | .non, .int _ => true | .int _, .non => true | .non, .bl _ => true | .bl _, .non => true | .non, .str _ => true | .str _, .non => true
  | .int _, .int _ => true | .bl _, .bl _ => true | .str _, .str _ => true | .byt _, .byt _ => true
  | .int _, .str _ => true | .str _, .int _ => true | .bl _, .str _ => true | .str _, .bl _ => true
  | _, _ => false
def rEq : R2 := fun x y H Q => scal x y = true ∧ Q (.bl (decide (x = y))) H
def rNe : R2 := fun x y H Q => scal x y = true ∧ Q (.bl (!decide (x = y))) H

theorem dec_int {i j : Int} : decide (V.int i = V.int j) = (i == j) := by
  rw [Bool.eq_iff_iff]
  simp
theorem dec_bl {i j : Bool} : decide (V.bl i = V.bl j) = (i == j) := by
  rw [Bool.eq_iff_iff]
  simp
theorem dec_str {i j : Str} : decide (V.str i = V.str j) = (i == j) := by
  rw [Bool.eq_iff_iff]
  simp
theorem dec_byt {i j : Array UInt8} : decide (V.byt i = V.byt j) = (i.toList == j.toList) := by
  rw [Bool.eq_iff_iff]
  cases i
  cases j
  simp

section
variable {X : Cx} {a b c : Expr} {ta tb tc : TE} {pos : Pos}
theorem fin_bl {pins : List (Addr × Obj)} {σ : St} {H : Hp} {s : Shared} {Q : VK} {k k' : Bool} (I : Inv X pins σ H s) (q : Q (.bl k) H) (e : k = k') : EP X pins σ Q (.bool k') s := by
  subst e
  exact ⟨.bl k, H, I, rfl, q⟩
theorem op_eq : OpR X (compareOp .Eq) rEq := by
  intro pins s σ H x y v u Q I rx ry h
  obtain ⟨hs, q⟩ := h
  cases x with
  | non =>
    cases rx
    cases y with
    | non => cases ry; exact PySem.EqNone.eq_none_none (fin_bl I q (by simp))
    | bl j => cases ry; exact PySem.EqNone.eq_none_bool (fin_bl I q (by simp))
    | int j => obtain ⟨t', rfl⟩ := ry; exact PySem.EqNone.eq_none_int (fin_bl I q (by simp))
    | str j => obtain ⟨t', rfl⟩ := ry; exact PySem.EqNone.eq_none_str (fin_bl I q (by simp))
    | _ => exact absurd (show false = true from hs) Bool.false_ne_true
  | bl i =>
    cases rx
    cases y with
    | non => cases ry; exact PySem.EqNone.eq_bool_none (fin_bl I q (by simp))
    | bl j => cases ry; exact eq_bool (fin_bl I q dec_bl)
    | str j => obtain ⟨t', rfl⟩ := ry; exact PySem.EqMixed.eq_bool_str (fin_bl I q (by simp))
    | _ => exact absurd (show false = true from hs) Bool.false_ne_true
  | int i =>
    obtain ⟨t, rfl⟩ := rx
    cases y with
    | non => cases ry; exact PySem.EqNone.eq_int_none (fin_bl I q (by simp))
    | int j => obtain ⟨t', rfl⟩ := ry; exact eq_int (fin_bl I q dec_int)
    | str j => obtain ⟨t', rfl⟩ := ry; exact PySem.EqMixed.eq_int_str (fin_bl I q (by simp))
    | _ => exact absurd (show false = true from hs) Bool.false_ne_true
  | str i =>
    obtain ⟨t, rfl⟩ := rx
    cases y with
    | non => cases ry; exact PySem.EqNone.eq_str_none (fin_bl I q (by simp))
    | bl j => cases ry; exact PySem.EqMixed.eq_str_bool (fin_bl I q (by simp))
    | int j => obtain ⟨t', rfl⟩ := ry; exact PySem.EqMixed.eq_str_int (fin_bl I q (by simp))
    | str j => obtain ⟨t', rfl⟩ := ry; exact eq_str (fin_bl I q dec_str)
    | _ => exact absurd (show false = true from hs) Bool.false_ne_true
  | byt i =>
    obtain ⟨t, rfl⟩ := rx
    cases y with
    | byt j => obtain ⟨t', rfl⟩ := ry; exact PySem.W.eq_bytes (fin_bl I q dec_byt)
    | _ => exact absurd (show false = true from hs) Bool.false_ne_true
  | _ => cases y <;> exact absurd (show false = true from hs) Bool.false_ne_true
theorem op_ne : OpR X (compareOp .NotEq) rNe := by
  intro pins s σ H x y v u Q I rx ry h
  obtain ⟨hs, q⟩ := h
  cases x with
  | non =>
    cases rx
    cases y with
    | non => cases ry; exact PySem.EqNone.ne_none_none (fin_bl I q (by simp))
    | bl j => cases ry; exact PySem.EqNone.ne_none_bool (fin_bl I q (by simp))
    | int j => obtain ⟨t', rfl⟩ := ry; exact PySem.EqNone.ne_none_int (fin_bl I q (by simp))
    | str j => obtain ⟨t', rfl⟩ := ry; exact PySem.EqNone.ne_none_str (fin_bl I q (by simp))
    | _ => exact absurd (show false = true from hs) Bool.false_ne_true
  | bl i =>
    cases rx
    cases y with
    | non => cases ry; exact PySem.EqNone.ne_bool_none (fin_bl I q (by simp))
    | bl j => cases ry; exact ne_bool (fin_bl I q (congrArg not dec_bl))
    | str j => obtain ⟨t', rfl⟩ := ry; exact PySem.EqMixed.ne_bool_str (fin_bl I q (by simp))
    | _ => exact absurd (show false = true from hs) Bool.false_ne_true
  | int i =>
    obtain ⟨t, rfl⟩ := rx
    cases y with
    | non => cases ry; exact PySem.EqNone.ne_int_none (fin_bl I q (by simp))
    | int j => obtain ⟨t', rfl⟩ := ry; exact ne_int (fin_bl I q (congrArg not dec_int))
    | str j => obtain ⟨t', rfl⟩ := ry; exact PySem.EqMixed.ne_int_str (fin_bl I q (by simp))
    | _ => exact absurd (show false = true from hs) Bool.false_ne_true
  | str i =>
    obtain ⟨t, rfl⟩ := rx
    cases y with
    | non => cases ry; exact PySem.EqNone.ne_str_none (fin_bl I q (by simp))
    | bl j => cases ry; exact PySem.EqMixed.ne_str_bool (fin_bl I q (by simp))
    | int j => obtain ⟨t', rfl⟩ := ry; exact PySem.EqMixed.ne_str_int (fin_bl I q (by simp))
    | str j => obtain ⟨t', rfl⟩ := ry; exact ne_str (fin_bl I q (congrArg not dec_str))
    | _ => exact absurd (show false = true from hs) Bool.false_ne_true
  | byt i =>
    obtain ⟨t, rfl⟩ := rx
    cases y with
    | byt j => obtain ⟨t', rfl⟩ := ry; exact PySem.W.ne_bytes (fin_bl I q (congrArg not dec_byt))
    | _ => exact absurd (show false = true from hs) Bool.false_ne_true
  | _ => cases y <;> exact absurd (show false = true from hs) Bool.false_ne_true

theorem op_lt : OpR X (compareOp .Lt) (rI0 fun i j => .bl (decide (i < j))) := opB0 fun _ _ _ _ _ _ _ q => lt_int q
theorem op_le : OpR X (compareOp .LtE) (rI0 fun i j => .bl (decide (i ≤ j))) := opB0 fun _ _ _ _ _ _ _ q => le_int q
theorem op_gt : OpR X (compareOp .Gt) (rI0 fun i j => .bl (decide (j < i))) := opB0 fun _ _ _ _ _ _ _ q => gt_int q
theorem op_ge : OpR X (compareOp .GtE) (rI0 fun i j => .bl (decide (j ≤ i))) := opB0 fun _ _ _ _ _ _ _ q => ge_int q
theorem op_isN : OpR X (compareOp .Is) (fun x y H Q => y = .non ∧ Q (.bl (decide (x = .non))) H) := by
  intro pins s σ H x y v u Q I rx ry h
  obtain ⟨rfl, q⟩ := h
  cases ry
  refine is_none_gen (fin_bl I q ?_)
  cases x <;> first
    | (cases rx; rfl)
    | (obtain ⟨t, rfl⟩ := rx; rfl)
theorem op_notN : OpR X (compareOp .IsNot) (fun x y H Q => y = .non ∧ Q (.bl (!decide (x = .non))) H) := by
  intro pins s σ H x y v u Q I rx ry h
  obtain ⟨rfl, q⟩ := h
  cases ry
  refine isnot_none_gen (fin_bl I q ?_)
  cases x <;> first
    | (cases rx; rfl)
    | (obtain ⟨t, rfl⟩ := rx; rfl)

def isObj : HO → Bool
  | .lst _ => true
  | .ins _ _ _ => true
  | _ => false
theorem obj_there {pins : List (Addr × Obj)} {s : Shared} {σ : St} {H : Hp} {a : Addr} {o : HO} (I : Inv X pins σ H s) (h : H a = some o) (p : isObj o = true) : ∃ ob, s.heap.get? a = some ob ∧ ob.cls ≠ .type "tuple" := by
  cases o with
  | lst xs =>
    obtain ⟨_, its, n, _, e⟩ : xs.length ≤ sizeLine ∧ ∃ (its : List Value) (n : Nat), Vals xs its ∧ s.heap.get? a = some { cls := .type "list", data := .seq its.toArray n } := I.hok a _ h
    exact ⟨_, e, (by show Value.type "list" ≠ .type "tuple"; decide +kernel)⟩
  | ins C dx fs =>
    have x := I.hok a _ h
    obtain ⟨_, _, _, e, _⟩ := x
    exact ⟨_, e, (by show Value.ref C ≠ .type "tuple"; exact fun z => by cases z)⟩
  | _ => exact absurd (show false = true from p) Bool.false_ne_true
theorem nomark (b : Expr) {op : CmpOp} (h : op ≠ .In := by decide) (h2 : op ≠ .NotIn := by decide) : behindInMarks op b = false := by
  have e1 : (op == CmpOp.In) = false := by cases op <;> first | rfl | exact absurd rfl h
  have e2 : (op == CmpOp.NotIn) = false := by cases op <;> first | rfl | exact absurd rfl h2
  cases b <;> simp [behindInMarks, e1, e2]
theorem pe_cmpR {op : CmpOp} {r : R2} (ho : OpR X (compareOp op) r) (ha : PE X a ta) (hb : PE X b tb) (hm : behindInMarks op b = false) : PE X (.Compare a [op] [b] pos) (tOp r ta tb) := by
  intro pins s σ H Q I h
  exact wpAny_Compare1 (binT ha hb I h fun v u s2 x y H2 I2 rx ry q => ho pins s2 σ H2 x y v u Q I2 rx ry q) hm
def tTest (t : TE) : TT := fun σ H Q => t σ H fun x H' => ∃ k, x = .bl k ∧ Q k H'
theorem pt_cmpR {op : CmpOp} {r : R2} (ho : OpR X (compareOp op) r) (ha : PE X a ta) (hb : PE X b tb) (hm : behindInMarks op b = false) : PT X (.Compare a [op] [b] pos) (tTest (tOp r ta tb)) := by
  intro pins s σ H Q I h
  refine wpAny_isTrue_Compare1 (thn (ha pins s σ H _ I h) fun v s1 ⟨x, H1, I1, r1, q1⟩ => thn (hb pins s1 σ H1 _ I1 q1) fun u s2 ⟨y, H2, I2, r2, q2⟩ =>
    thn (ho pins s2 σ H2 x y v u _ I2 r1 r2 q2) fun c s3 ⟨z, H3, I3, r3, k, e, q3⟩ => ?_) hm
  subst e
  cases r3
  exact wpAny_truthy_bool ⟨H3, I3, q3⟩
def tChain (r r' : R2) (ta tb tc : TE) : TE := fun σ H Q => ta σ H fun x H1 => tb σ H1 fun y H2 => r x y H2 fun z H3 => ∃ k, z = .bl k ∧
  (if k = true then tc σ H3 fun w' H4 => r' y w' H4 Q else Q (.bl false) H3)
theorem line63 : (sizeLine : Nat) < 2 ^ 63 := by rw [sizeLine_eq]; decide
theorem vals1 {x : V} {us : List Value} (r : Vals [x] us) : ∃ u, us = [u] ∧ RelV x u := by
  cases r with
  | cons r1 r2 => cases r2; exact ⟨_, rfl, r1⟩
theorem vals2 {x y : V} {us : List Value} (r : Vals [x, y] us) : ∃ u w', us = [u, w'] ∧ RelV x u ∧ RelV y w' := by
  cases r with
  | cons r1 r2 =>
    cases r2 with
    | cons r3 r4 => cases r4; exact ⟨_, _, rfl, r1, r3⟩
end
end L2

namespace L2
open PySem PySem.Spec PyProof.Rows

structure ObjM (h : Heap) (x dx C : Addr) (mA : Str → Option Value) : Prop where
  obj : h.get? x = some (PySem.W.instObj C dx)
  ns : h.Ns1 dx mA
  ne : dx ≠ x

theorem lookIn_ns {h : Heap} {dx : Addr} {mA : Str → Option Value} (n : h.Ns1 dx mA) : ∃ od, h.get? dx = some od ∧ ∀ name, PySem.W.lookIn name od = some (mA name) := by
  obtain ⟨o, es, ep, ho, hd, hk, _, hm⟩ := n
  refine ⟨o, ho, fun name => ?_⟩
  have e := hm name
  unfold nsFind findBy at e
  rw [← Array.find?_toList] at e
  unfold PySem.W.lookIn
  rw [hd]
  dsimp only
  split
  · rename_i y q
    rw [q] at e
    exact congrArg some e
  · rename_i q
    rw [q] at e
    have a : es.toList.any (·.refKey) = false := by
      rw [List.any_eq_false]
      intro y hy
      obtain ⟨z, t, hkey⟩ := hk y (Array.mem_toList_iff.mp hy)
      simp [DictEntry.refKey, hkey]
    have a' : ¬ es.toList.any (·.refKey) = true := by rw [a]; exact Bool.false_ne_true
    rw [if_neg a']
    exact congrArg some e

theorem ObjM.look {h : Heap} {x dx C : Addr} {mA : Str → Option Value} (I : ObjM h x dx C mA) : ∃ od, PySem.W.InstAt h x (PySem.W.instObj C dx) C (some od) ∧ ∀ name, PySem.W.lookIn name od = some (mA name) :=
  let ⟨od, ho, hl⟩ := lookIn_ns I.ns
  ⟨od, ⟨I.obj, rfl, rfl, ho⟩, hl⟩

section
variable {prog : Program} {w : World} {A : Around} {E : Value → Shared → Prop} {s : Shared} {K : PySem.W.Frag} {x dx C f : Addr} {mA : Str → Option Value} {name : Str} {v : Value}

theorem get_map {expr : Bool} {Q : Value → Shared → Prop} (X : K.In s.heap) (I : ObjM s.heap x dx C mA) (hg : PySem.W.plainGet K C name = true) (hh : PySem.W.hasDictIn K C = true)
    (ha : PySem.W.findIn K (.ref C) name = some none) (hv : mA name = some v) (hv' : PySem.W.handedIn v = true) (h : Q v { s with toks := s.toks + 1 }) :
    wpAny (model prog w) A (getAttr (.ref x) name expr) Q E s := by
  obtain ⟨od, J, hl⟩ := I.look
  exact PySem.W.get_value X J (PySem.W.plainGet_of hg).1 (PySem.W.findObj_own hh ha rfl (by rw [hl, hv])) hv' h

theorem get_meth {pl : Sem Bool} {Q : Value × List Value → Shared → Prop} (X : K.In s.heap) (I : ObjM s.heap x dx C mA) (hg : PySem.W.plainGet K C name = true)
    (hf : PySem.W.findIn K (.ref C) name = some (some (.ref f))) (ht : PySem.W.isFn K (.ref f) = true) (hv : mA name = none) (h : Q (.ref f, [.ref x]) s) :
    wpAny (model prog w) A (getMethod (.ref x) name pl) Q E s := by
  obtain ⟨od, J, hl⟩ := I.look
  exact PySem.W.method_fn X J (PySem.W.plainGet_of hg).1 (PySem.W.plainGet_of hg).2 hf (beq_iff_eq.mp ht) (by show (PySem.W.lookIn name od).map (·.isSome) = some false; rw [hl, hv]; rfl) h

theorem set_map {ns : List Str} {Q : Unit → Shared → Prop} (X : K.In s.heap) (I : ObjM s.heap x dx C mA)
    (hs : PySem.W.findIn K (.ref C) "__setattr__" = some (some (.builtin "object.__setattr__"))) (hp : PySem.W.plainOver K C = true) (ht : PySem.W.takerIn K C name = some none) (hh : PySem.W.hasDictIn K C = true)
    (hw : PySem.Within mA ns) (hsz : ns.length ≤ sizeLine)
    (h : ∀ h', ObjM h' x dx C (fun y => if y = name then some v else mA y) → Heap.SameBut dx s.heap h' → Q () { s with heap := h', toks := s.toks + 2 }) :
    wpAny (model prog w) A (setAttr (.ref x) name v) Q E s := by
  obtain ⟨od, J, hl⟩ := I.look
  refine PySem.W.set_plain X J hs (PySem.W.osa_open (s := { s with toks := s.toks + 1 }) (r := none) X J hp ht fun b => ?_)
  obtain ⟨cd, hc, hd'⟩ := PySem.W.any_some hh
  have hx : s.heap.get? x = some ⟨.ref C, some dx, .plain, #[]⟩ := I.obj
  refine wpAny_bind (wpAny_pure (wpAny_bind (wpAny_bind (wpAny_loadPart hx (wpAny_bind (PySem.W.Looks.here (s := { s with toks := s.toks + 1 }) (PySem.W.looks_clsIn X hc) ?_))))))
  rw [hd']
  refine wpAny_pure (a := some dx) (wpAny_bind (wpAny_pure (wpAny_bind ?_)))
  refine wpAny_nsSet1 (s := { s with toks := s.toks + 1 }) I.ns fun h' hn2 hs2 => ?_
  obtain ⟨oD, esD, epD, hoD, hdD, hcD⟩ := hn2.count (PySem.Within.cons name v hw)
  refine wpAny_bind (wpAny_lookBehind hoD (by rw [hdD]; exact pastItsLine_dict (Nat.le_trans hcD (by rw [List.length_cons]; omega))) ?_)
  exact wpAny_pure (h _ ⟨(hs2.2 _ (Ne.symm I.ne)).trans I.obj, hn2, I.ne⟩ hs2)

theorem make_map {R : Result → Shared → Prop} {vs : List Value} {kw : List (Str × Value)} (X : K.In s.heap) (hm : PySem.W.makesIn K C = true)
    (hi : PySem.W.findIn K (.ref C) "__init__" = some (some (.ref f))) (hf : PySem.W.typeIn K (.ref f) = some (.type "function"))
    (h : codeAny (model prog w) (A.under (.builtin "type.__call__" ⟨.ref C :: vs, kw⟩)) (.call (.ref f) ⟨.ref (s.heap.objs.size + 1) :: vs, kw⟩) (PySem.W.InitBack (s.heap.objs.size + 1) R)
      { s with heap := (s.heap.push PySem.W.emptyDict).push (PySem.W.instObj C s.heap.objs.size) }) :
    codeAny (model prog w) A (.call (.ref C) ⟨vs, kw⟩) R s := by
  obtain ⟨hh, g, d, t, os⟩ := s
  exact PySem.W.make_core (PySem.W.makes_of X hm) (PySem.W.looks_findIn X hi) (fun self => PySem.W.bind_fn X self hf) (.inl rfl) h
end

def putF (f : Str) (v : V) : List (Str × V) → List (Str × V)
  | [] => [(f, v)]
  | (g, x) :: r => if g = f then (g, v) :: r else (g, x) :: putF f v r
theorem lookup_putF (f g : Str) (v : V) : ∀ fs : List (Str × V), (putF f v fs).lookup g = if g = f then some v else fs.lookup g
  | [] => by
    show List.lookup g [(f, v)] = _
    by_cases h : g = f
    · have hb : (g == f) = true := beq_iff_eq.mpr h
      simp only [List.lookup, hb, if_pos h]
    · have hb : (g == f) = false := beq_eq_false_iff_ne.mpr h
      simp only [List.lookup, hb, if_neg h]
  | (k, x) :: r => by
    have ih := lookup_putF f g v r
    rw [show putF f v ((k, x) :: r) = (if k = f then (k, v) :: r else (k, x) :: putF f v r) from rfl]
    by_cases hk : k = f
    · rw [if_pos hk]
      by_cases h : g = k
      · have hb : (g == k) = true := beq_iff_eq.mpr h
        simp only [List.lookup, hb, if_pos (h.trans hk)]
      · have hb : (g == k) = false := beq_eq_false_iff_ne.mpr h
        simp only [List.lookup, hb, if_neg (fun e : g = f => h (e.trans hk.symm))]
    · rw [if_neg hk]
      by_cases h : g = k
      · have hb : (g == k) = true := beq_iff_eq.mpr h
        simp only [List.lookup, hb, if_neg (fun e : g = f => hk (h.symm.trans e))]
      · have hb : (g == k) = false := beq_eq_false_iff_ne.mpr h
        simp only [List.lookup, hb]
        exact ih
theorem keys_putF (f : Str) (v : V) : ∀ fs : List (Str × V), f ∈ (putF f v fs).map (·.1) ∧ ∀ g, g ∈ fs.map (·.1) → g ∈ (putF f v fs).map (·.1)
  | [] => ⟨by simp [putF], fun g h => by simp at h⟩
  | (k, x) :: r => by
    obtain ⟨i1, i2⟩ := keys_putF f v r
    rw [show putF f v ((k, x) :: r) = (if k = f then (k, v) :: r else (k, x) :: putF f v r) from rfl]
    by_cases hk : k = f
    · rw [if_pos hk]
      subst hk
      exact ⟨by simp, fun g h => by simpa using h⟩
    · rw [if_neg hk]
      refine ⟨?_, fun g h => ?_⟩
      · rw [List.map_cons]
        exact List.mem_cons_of_mem _ i1
      · rw [List.map_cons] at h ⊢
        rcases List.mem_cons.mp h with e | e
        · exact List.mem_cons.mpr (.inl e)
        · exact List.mem_cons_of_mem _ (i2 g e)
theorem length_putF (f : Str) (v : V) : ∀ fs : List (Str × V), (putF f v fs).length ≤ fs.length + 1
  | [] => by simp [putF]
  | (k, x) :: r => by
    have ih := length_putF f v r
    rw [show putF f v ((k, x) :: r) = (if k = f then (k, v) :: r else (k, x) :: putF f v r) from rfl]
    by_cases hk : k = f
    · rw [if_pos hk, List.length_cons, List.length_cons]; omega
    · rw [if_neg hk, List.length_cons, List.length_cons]; omega

theorem RelO.some_of {v : V} {o : Option Value} (r : RelO (some v) o) : ∃ u, o = some u ∧ RelV v u := by
  cases o with
  | none => exact (show False from r).elim
  | some u => exact ⟨u, rfl, r⟩
theorem RelO.none_of {o : Option Value} (r : RelO none o) : o = none := by
  cases o with
  | none => rfl
  | some u => exact (show False from r).elim
theorem handed_of {v : V} {u : Value} (r : RelV v u) : PySem.W.handedIn u = true := by
  cases v with
  | non => cases (show u = Value.none from r); rfl
  | bl b => cases (show u = Value.bool b from r); rfl
  | int i => obtain ⟨t, e⟩ := (show ∃ t, u = Value.int i t from r); cases e; rfl
  | str x => obtain ⟨t, e⟩ := (show ∃ t, u = Value.str x t from r); cases e; rfl
  | byt b => obtain ⟨t, e⟩ := (show ∃ t, u = Value.bytes b t from r); cases e; rfl
  | flt b => obtain ⟨t, e⟩ := (show ∃ t, u = Value.float b t from r); cases e; rfl
  | ref a => cases (show u = Value.ref a from r); rfl
  | ty n => cases (show u = Value.type n from r); rfl

section
variable {P : Program} {w : World} {H H' : Hp} {h h' : Heap} {a C dx : Addr} {fs fs' : List (Str × V)}
theorem ins_get (hok : HOk P w H h) (e : H a = some (.ins C dx fs)) : ∃ mA, ObjM h a dx C mA ∧ (∀ f, RelO (fs.lookup f) (mA f)) ∧ PySem.Within mA (fs.map (·.1)) ∧ fs.length ≤ 1000 ∧ H dx = some (.own a) := by
  obtain ⟨d, z, ne, ob, mA, n, r, q⟩ := (show ObjOk P w H h a (.ins C dx fs) from hok a _ e)
  exact ⟨mA, ⟨ob, n, ne⟩, r, q, z, d⟩
end

structure Cls (K : PySem.W.Frag) (C : Addr) : Prop where
  pg : PySem.W.plainGet K C Str.empty = true
  hd : PySem.W.hasDictIn K C = true
  po : PySem.W.plainOver K C = true
  sa : PySem.W.findIn K (.ref C) "__setattr__" = some (some (.builtin "object.__setattr__"))
theorem Cls.get {K : PySem.W.Frag} {C : Addr} (c : Cls K C) (f : Str) : PySem.W.plainGet K C f = true := c.pg
def NoAttr (K : PySem.W.Frag) (C : Addr) (f : Str) : Prop := PySem.W.findIn K (.ref C) f = some none
theorem NoAttr.taker {K : PySem.W.Frag} {C : Addr} {f : Str} (n : NoAttr K C f) : PySem.W.takerIn K C f = some none := by
  unfold PySem.W.takerIn
  rw [show PySem.W.findIn K (.ref C) f = some none from n]
  rfl
structure Con (K : PySem.W.Frag) (C : Addr) (f : Str) (v : V) (u : Value) : Prop where
  at_ : PySem.W.findIn K (.ref C) f = some (some u)
  rel : RelV v u
  get : PySem.W.specialIn K u "__get__" = some none
  cp : PySem.W.copiedNames.contains f = false
structure Meth (K : PySem.W.Frag) (C : Addr) (m : Str) (f : Addr) : Prop where
  at_ : PySem.W.findIn K (.ref C) m = some (some (.ref f))
  fn : PySem.W.isFn K (.ref f) = true
  kp : PySem.W.keepIn K (.ref f) = true

section
variable {X : Cx} {pins : List (Addr × Obj)} {σ : St} {H : Hp} {s : Shared} {a C dx : Addr} {fs : List (Str × V)} {f : Str} {v : V} {A : Around} {E : Value → Shared → Prop}

theorem getattr_ok {b : Bool} {Q : Value → Shared → Prop} (I : Inv X pins σ H s) (e : H a = some (.ins C dx fs)) (c : Cls X.K C) (n : NoAttr X.K C f) (l : fs.lookup f = some v)
    (h : ∀ u s', Inv X pins σ H s' → RelV v u → Q u s') : wpAny (model X.prog X.w) A (getAttr (.ref a) f b) Q E s := by
  obtain ⟨mA, O, r, _, _, _⟩ := ins_get I.hok e
  obtain ⟨u, hu, ru⟩ := RelO.some_of (v := v) (o := mA f) (by rw [← l]; exact r f)
  exact get_map I.kIn O (c.get f) c.hd n hu (handed_of ru) (h u _ (I.tok _) ru)

theorem getmeth_ok {m : Str} {g : Addr} {pl : Sem Bool} {Q : Value × List Value → Shared → Prop} (I : Inv X pins σ H s) (e : H a = some (.ins C dx fs)) (c : Cls X.K C) (k : Meth X.K C m g) (l : fs.lookup m = none)
    (h : Q (.ref g, [.ref a]) s) : wpAny (model X.prog X.w) A (getMethod (.ref a) m pl) Q E s := by
  obtain ⟨mA, O, r, _, _, _⟩ := ins_get I.hok e
  have hn : mA m = none := RelO.none_of (by rw [← l]; exact r m)
  exact get_meth I.kIn O (c.get m) k.at_ k.fn hn h

theorem setattr_ok {y : V} {u : Value} {Q : Unit → Shared → Prop} (I : Inv X pins σ H s) (e : H a = some (.ins C dx fs)) (c : Cls X.K C) (n : NoAttr X.K C f) (hl : fs.length < 1000) (ry : RelV y u)
    (h : ∀ s', Inv X pins σ (upd H a (.ins C dx (putF f y fs))) s' → Q () s') : wpAny (model X.prog X.w) A (setAttr (.ref a) f u) Q E s := by
  obtain ⟨mA, O, r, wi, _, ho⟩ := ins_get I.hok e
  have hz : (fs.map (·.1)).length ≤ sizeLine := by rw [List.length_map, sizeLine_eq]; omega
  refine set_map I.kIn O c.sa c.po n.taker c.hd wi hz fun h' O' sb => h _ ?_
  have hd : ∃ o, h'.get? dx = some o := let ⟨o, _, _, e', _⟩ := O'.ns; ⟨o, e'⟩
  refine I.write (x := a) (e := dx) (by rw [e]; exact True.intro) (.inr ho) (fun b q hb z => (sb.2 b hb).trans z) hd ?_
  refine ⟨by rw [upd_ne O.ne]; exact ho, ?_, O.ne, O'.obj, _, O'.ns, fun g => ?_, fun g hg => ?_⟩
  · have := length_putF f y fs; omega
  · show RelO ((putF f y fs).lookup g) (if g = f then some u else mA g)
    rw [lookup_putF]
    by_cases q : g = f
    · rw [if_pos q, if_pos q]; exact ry
    · rw [if_neg q, if_neg q]; exact r g
  · by_cases q : g = f
    · rw [q]; exact (keys_putF f y fs).1
    · refine (keys_putF f y fs).2 g (wi g fun z => hg ?_)
      show (if g = f then some u else mA g) = none
      rw [if_neg q]; exact z

theorem Inv.made (I : Inv X pins σ H s) : Inv X pins σ (upd (upd H s.heap.objs.size (.own (s.heap.objs.size + 1))) (s.heap.objs.size + 1) (.ins C s.heap.objs.size []))
    { s with heap := (s.heap.push PySem.W.emptyDict).push (PySem.W.instObj C s.heap.objs.size) } := by
  have e1 : (s.heap.push PySem.W.emptyDict).get? s.heap.objs.size = some PySem.W.emptyDict := Heap.get?_push_size s.heap rfl
  have e2 : ((s.heap.push PySem.W.emptyDict).push (PySem.W.instObj C s.heap.objs.size)).get? (s.heap.objs.size + 1) = some (PySem.W.instObj C s.heap.objs.size) := by
    have := Heap.get?_push_size (s.heap.push PySem.W.emptyDict) (o := PySem.W.instObj C s.heap.objs.size) rfl
    rwa [Heap.size_push] at this
  have e3 : (s.heap.push PySem.W.emptyDict).Ns s.heap.objs.size (fun _ => none) := ⟨PySem.W.emptyDict, #[], _, e1, rfl, (fun e he => absurd he (by simp)), fun _ => rfl⟩
  have I1 := I.laid (a := s.heap.objs.size) (o := .own (s.heap.objs.size + 1)) (h' := s.heap.push PySem.W.emptyDict) (t' := s.toks) (fun b u q => Heap.get?_push_of_some _ q) (Nat.le_refl _) ⟨_, e1⟩
  refine I1.laid (a := s.heap.objs.size + 1) (o := .ins C s.heap.objs.size []) (t' := s.toks) (fun b u q => Heap.get?_push_of_some _ q) (Nat.le_of_eq (Heap.size_push _ _)) ?_
  have ne : s.heap.objs.size ≠ s.heap.objs.size + 1 := Nat.ne_of_lt (Nat.lt_succ_self _)
  refine ⟨by rw [upd_ne ne, upd_same], Nat.zero_le _, ne, e2, fun _ => none, (Heap.Ns1.of_empty e3).at fun o q => Heap.get?_push_of_some _ q, fun _ => True.intro, fun y hy => absurd rfl hy⟩

theorem attr_of {prog : Program} {w : World} {env : Env} {e : Expr} {f : Str} {pos : Pos} {s : Shared} {Q : Value → Shared → Prop} (hb : attributeBase e f env (eval e env) = eval e env)
    (h : wpAny (model prog w) A (eval e env) (fun o s₁ => wpAny (model prog w) A (getAttr o f true) Q E s₁) E s) : wpAny (model prog w) A (eval (.Attribute e f pos) env) Q E s :=
  Attribute_any_ h (by rw [arm_eval_Attribute, hb])
end

def tFld (K : PySem.W.Frag) (ta : TE) (f : Str) : TE := fun σ H Q => ta σ H fun x H1 => ∃ a C dx fs v, x = .ref a ∧ H1 a = some (.ins C dx fs) ∧ Cls K C ∧ NoAttr K C f ∧ fs.lookup f = some v ∧ Q v H1
def sFld (K : PySem.W.Frag) (ta tv : TE) (f : Str) : TS := fun D σ H => tv σ H fun y H1 => ta σ H1 fun x H2 => ∃ a C dx fs, x = .ref a ∧ H2 a = some (.ins C dx fs) ∧ Cls K C ∧ NoAttr K C f ∧ fs.length < 1000 ∧
  D.nx σ (upd H2 a (.ins C dx (putF f y fs)))
section
variable {X : Cx} {o e value : Expr} {f : Str} {pos pos' tpos : Pos} {ta tv : TE}
theorem pe_fld (he : PE X e ta) (hb : attributeBase e f X.env (eval e X.env) = eval e X.env) : PE X (.Attribute e f pos) (tFld X.K ta f) := by
  intro pins s σ H Q I h
  refine attr_of hb (thn (he pins s σ H _ I h) fun u s1 ⟨x, H1, I1, rx, a, C, dx, fs, v, ex, ea, c, n, l, q⟩ => ?_)
  subst ex
  obtain rfl : u = Value.ref a := rx
  exact getattr_ok I1 ea c n l fun u' s2 I2 ru => ⟨v, H1, I2, ru, q⟩
theorem ps_fld (ha : PE X o ta) (hv : PE X value tv) (hs : swapsWith value (some (.Attribute o f pos')) pos.line X.env = pure false) : PS X (.Assign [.Attribute o f pos'] value pos) (sFld X.K ta tv f) := by
  intro pins s σ H D I h
  refine plainObj_wpAny_Assign_Attribute (thn (hv pins s σ H _ I h) fun u s1 ⟨y, H1, I1, ry, q⟩ => thn (ha pins s1 σ H1 _ I1 q) fun ov s2 ⟨x, H2, I2, rx, a, C, dx, fs, ex, ea, c, n, l, q2⟩ => ?_) hs
  subst ex
  obtain rfl : ov = Value.ref a := rx
  exact setattr_ok I2 ea c n l ry fun s3 I3 => ⟨σ, _, I3, q2⟩
end

section
variable {X : Cx} {pins : List (Addr × Obj)} {σ : St} {H : Hp} {s : Shared} {A : Around} {E : Value → Shared → Prop} {Q : Value → Shared → Prop} {c : Value} {b : Bool}
inductive TyOf (K : PySem.W.Frag) (H : Hp) : V → Value → Prop where
  | non : TyOf K H .non (.type "NoneType")
  | bl (x : Bool) : TyOf K H (.bl x) (.type "bool")
  | int (i : Int) : TyOf K H (.int i) (.type "int")
  | str (x : Str) : TyOf K H (.str x) (.type "str")
  | flt (x : UInt64) : TyOf K H (.flt x) (.type "float")
  | lst {a : Addr} {xs : List V} (e : H a = some (.lst xs)) : TyOf K H (.ref a) (.type "list")
  | frz {a : Addr} {o : Obj} {xs : List V} (e : H a = some (.frz o (.lst xs))) : TyOf K H (.ref a) (.type "list")
  | tup {a : Addr} {xs : List V} (e : H a = some (.tup xs)) : TyOf K H (.ref a) (.type "tuple")
  | dK {a : Addr} {kvs : List (Key × V)} (e : H a = some (.dK kvs)) : TyOf K H (.ref a) (.type "dict")
  | dT {a : Addr} {kvs : List (List Key × V)} (e : H a = some (.dT kvs)) : TyOf K H (.ref a) (.type "dict")
  | ins {a C dx : Addr} {fs : List (Str × V)} (e : H a = some (.ins C dx fs)) (cl : Cls K C) (ha : PySem.W.findIn K (.ref C) "__class__" = some (some (.builtin "object.__class__")))
      (hn : PySem.W.specialIn K (.builtin "object.__class__") "__get__" = some (some (.builtin "getset_descriptor.__get__"))) (htk : PySem.W.takesIn K (.builtin "object.__class__") = some true)
      (hm : PySem.W.mroIn K C (.type "object") = some true) : TyOf K H (.ref a) (.ref C)
theorem isinst_ok {x : V} {u t : Value} (I : Inv X pins σ H s) (rx : RelV x u) (ty : TyOf X.K H x t) (e : PySem.W.kitOne X.K t c = some b) (h : ∀ tk, Q (.bool b) { s with toks := tk }) :
    wpAny (model X.prog X.w) A (call (.builtin "isinstance") [u, c]) Q E s := by
  cases ty with
  | non => cases (show u = Value.none from rx); exact PySem.W.kia_one PySem.W.kitx_none I.kIn True.intro e (fun z => nomatch z) h
  | bl y => cases (show u = Value.bool y from rx); exact PySem.W.kia_one PySem.W.kitx_bool I.kIn True.intro e (fun z => nomatch z) h
  | int i => obtain ⟨t, q⟩ := (show ∃ t, u = Value.int i t from rx); cases q; exact PySem.W.kia_one PySem.W.kitx_int I.kIn True.intro e (fun z => nomatch z) h
  | str y => obtain ⟨t, q⟩ := (show ∃ t, u = Value.str y t from rx); cases q; exact PySem.W.kia_one PySem.W.kitx_str I.kIn True.intro e (fun z => nomatch z) h
  | flt y => obtain ⟨t, q⟩ := (show ∃ t, u = Value.float y t from rx); cases q; exact PySem.W.kia_one PySem.W.kitx_float I.kIn True.intro e (fun z => nomatch z) h
  | @lst a xs ea =>
    cases (show u = Value.ref a from rx)
    obtain ⟨_, _, n, _, h1⟩ := (show ObjOk X.prog X.w H s.heap a (.lst xs) from I.hok a _ ea)
    exact PySem.W.kia_one PySem.W.kitx_list I.kIn ⟨_, h1, rfl⟩ e (fun z => nomatch z) h
  | @frz a ob xs ea =>
    cases (show u = Value.ref a from rx)
    obtain ⟨_, _, _, n, _, h1⟩ := (show ObjOk X.prog X.w H s.heap a (.frz ob (.lst xs)) from I.hok a _ ea)
    exact PySem.W.kia_one PySem.W.kitx_list I.kIn ⟨_, h1, rfl⟩ e (fun z => nomatch z) h
  | @tup a xs ea =>
    cases (show u = Value.ref a from rx)
    obtain ⟨_, _, _, p⟩ := (show ObjOk X.prog X.w H s.heap a (.tup xs) from I.hok a _ ea)
    obtain ⟨o, h1, h2, _⟩ := p
    exact PySem.W.kia_one PySem.W.kitx_tuple I.kIn ⟨o, h1, h2⟩ e (fun z => nomatch z) h
  | @dK a kvs ea =>
    cases (show u = Value.ref a from rx)
    obtain ⟨_, _, vs, _, p⟩ := (show ObjOk X.prog X.w H s.heap a (.dK kvs) from I.hok a _ ea)
    obtain ⟨o, es, ep, h1, h2, _⟩ := p
    exact PySem.W.kia_one PySem.W.kitx_dict I.kIn ⟨o, h1, h2.1⟩ e (fun z => nomatch z) h
  | @dT a kvs ea =>
    cases (show u = Value.ref a from rx)
    obtain ⟨_, _, xs, _, o, es, ep, h1, h2, _⟩ := (show ObjOk X.prog X.w H s.heap a (.dT kvs) from I.hok a _ ea)
    exact PySem.W.kia_one PySem.W.kitx_dict I.kIn ⟨o, h1, h2.1⟩ e (fun z => nomatch z) h
  | @ins a C dx fs ea cl ha hn htk hm =>
    cases (show u = Value.ref a from rx)
    obtain ⟨mA, O, _⟩ := ins_get I.hok ea
    obtain ⟨od, J, _⟩ := O.look
    exact PySem.W.kia_one (PySem.W.kitx_own (cl.get _) cl.hd ha hn htk hm) I.kIn J e (fun z => nomatch z) h
end
end L2

namespace L2
open PySem PySem.Spec PyProof.Rows

structure Room (k : Nat) (A : Around) : Prop where
  hd : A.handled = none
  dp : A.depth + 3 * k + 5 < recursionLimit
  un : A.units + 16 * k + 200 < cLine
theorem Room.mono {j k : Nat} {A : Around} (r : Room k A) (h : j ≤ k) : Room j A := ⟨r.hd, by have := r.dp; omega, by have := r.un; omega⟩
theorem Room.deeper {k : Nat} {A : Around} (r : Room (k + 1) A) (env : Env) : Room k (A.deeper env) :=
  ⟨r.hd, by have := r.dp; show A.depth + 1 + 3 * k + 5 < _; omega, by have := r.un; show A.units + 3 + 16 * k + 200 < _; omega⟩
theorem make_depth {A : Around} {C : Addr} {us : List Value} {kw : List (Str × Value)} : (A.under (.builtin "type.__call__" ⟨.ref C :: us, kw⟩)).depth = A.depth + 1 := by
  first | rfl | simp [Around.under, Code.weight, Code.isCreation, Code.isGuard, Code.isCaller, Code.frames, Code.isFrame, guardIds]
theorem make_units {A : Around} {C : Addr} {us : List Value} {kw : List (Str × Value)} : (A.under (.builtin "type.__call__" ⟨.ref C :: us, kw⟩)).units = A.units + 1 := by
  first | rfl | simp [Around.under, Code.cUnits, Code.frames, Code.isFrame]
theorem Room.make {k : Nat} {A : Around} (r : Room (k + 1) A) (C : Addr) (us : List Value) (kw : List (Str × Value)) : Room k (A.under (.builtin "type.__call__" ⟨.ref C :: us, kw⟩)) :=
  ⟨r.hd, by have := r.dp; rw [make_depth]; omega, by have := r.un; rw [make_units]; omega⟩
theorem Room.depth {k : Nat} {A : Around} (r : Room k A) : A.depth < recursionLimit := by have := r.dp; omega
theorem Room.units {k : Nat} {A : Around} (r : Room k A) : A.units + 64 < cLine := by have := r.un; omega
def tNil : TA := fun _ H Q => Q [] H
def tCons (ta : TE) (tr : TA) : TA := fun σ H Q => ta σ H fun x H1 => tr σ H1 fun xs H2 => Q (x :: xs) H2
section
variable {X : Cx} {e : Expr} {es : List Expr} {te : TE} {t : TA} {pos : Pos}
theorem pa_nil : PA X [] tNil := fun _ _ _ _ H Q I h => Calls.spliced_nil ⟨[], H, I, .nil, h⟩
theorem pa_cons (ha : PE X e te) (hr : PA X es t) (hs : starEach (e :: es) X.env = (false, eval e X.env) :: starEach es X.env := by rfl) : PA X (e :: es) (tCons te t) := by
  intro pos pins s σ H Q I h
  rw [hs]
  show wpAny _ _ (spliced ((false, eval e X.env) :: backTo pos (starEach es X.env))) _ _ s
  refine Calls.spliced_cons (thn (ha pins s σ H _ I h) fun u s1 ⟨x, H1, I1, r1, q1⟩ => ?_)
  exact thn (hr pos pins s1 σ H1 _ I1 q1) fun us s2 ⟨xs, H2, I2, r2, q2⟩ => ⟨x :: xs, H2, I2, .cons r1 r2, q2⟩

def tTup (t : TA) : TE := fun σ H Q => t σ H fun xs H1 => xs.length ≤ sizeLine ∧ ∀ p, H1 p = none → Q (.ref p) (upd H1 p (.tup xs))
def tLst (t : TA) : TE := fun σ H Q => t σ H fun xs H1 => xs.length ≤ sizeLine ∧ ∀ p, H1 p = none → Q (.ref p) (upd H1 p (.lst xs))
theorem pe_lst (h : PA X es t) : PE X (.List es pos) (tLst t) := by
  intro pins s σ H Q I hq
  refine wpAny_List_spliced (thn (h pos pins s σ H _ I hq) fun us s1 ⟨xs, H1, I1, r, z, q⟩ => ⟨by rw [← r.length]; exact z, ?_⟩)
  have hf : H1 s1.heap.objs.size = none := I1.hok.fresh (Nat.le_refl _)
  refine ⟨.ref s1.heap.objs.size, upd H1 s1.heap.objs.size (.lst xs), I1.laid (t' := s1.toks) (fun b u e => Heap.get?_push_of_some _ e) (Nat.le_refl _) ?_, rfl, q _ hf⟩
  exact ⟨z, us, 0, r, Heap.get?_push_size _ rfl⟩
end

abbrev Sp := List V → Hp → VK → XK → Prop
abbrev CXT := List Env → Hp → Shared → XK → Value → Shared → Prop

structure Env0 (P : Program) (w : World) (K : PySem.W.Frag) (mg : Str → Option Value) (base : Heap) (A : Around) (outer : List Env) (s : Shared) (H : Hp) : Prop where
  frames : A.frames = some outer
  mod : Mod K mg base
  bs : ∀ b o, base.get? b = some o → s.heap.get? b = some o ∧ H b = none
  bsz : base.objs.size ≤ s.heap.objs.size
  funs : s.heap.FunFrames base outer
  frf : ∀ b ∈ frs outer, H b = none
  hok : HOk P w H s.heap
  bare : AllBare s.gens
def CE (outer : List Env) (P : Program) (w : World) (H : Hp) (s : Shared) (Q : VK) (u : Value) (s' : Shared) : Prop :=
  ∃ v H', s'.os = s.os ∧ AllBare s'.gens ∧ Un (frs outer) [] H H' s.heap s'.heap ∧ HOk P w H' s'.heap ∧ RelV v u ∧ Q v H'
def CR (CX : CXT) (outer : List Env) (P : Program) (w : World) (H : Hp) (s : Shared) (Q : VK) (E : XK) (r : Result) (s' : Shared) : Prop :=
  match r with
  | .ok (.ret u) => CE outer P w H s Q u s'
  | .ok _ => False
  | .error e => CX outer H s E e s'
structure FnOk (P : Program) (w : World) (K : PySem.W.Frag) (mg : Str → Option Value) (base : Heap) (CX : CXT) (k : Nat) (f : Addr) (fd : FuncData) (ps : List Str) (sp : Sp) : Prop where
  len : ∀ vs H Q E, sp vs H Q E → vs.length = ps.length
  run : ∀ (A : Around) (outer : List Env) (s : Shared) (H : Hp) (args : Args) (us : List Value) (vs : List V) (Q : VK) (E : XK), Room k A → Env0 P w K mg base A outer s H → BindsTo s fd args (ps.zip us) → Vals vs us → sp vs H Q E →
    codeAny (model P w) A (.call (.ref f) args) (CR CX outer P w H s Q E) s
theorem FnOk.mono {P : Program} {w : World} {K : PySem.W.Frag} {mg : Str → Option Value} {base : Heap} {CX : CXT} {j k : Nat} {f : Addr} {fd : FuncData} {ps : List Str} {sp : Sp} (F : FnOk P w K mg base CX j f fd ps sp) (h : j ≤ k) :
    FnOk P w K mg base CX k f fd ps sp := ⟨F.len, fun A outer s H args us vs Q E hr => F.run A outer s H args us vs Q E (hr.mono h)⟩
theorem Env0.make {P : Program} {w : World} {K : PySem.W.Frag} {mg : Str → Option Value} {base : Heap} {A : Around} {outer : List Env} {s : Shared} {H : Hp} (e : Env0 P w K mg base A outer s H) (C : Addr) (us : List Value) (kw : List (Str × Value)) :
    Env0 P w K mg base (A.under (.builtin "type.__call__" ⟨.ref C :: us, kw⟩)) outer s H := ⟨by first | exact e.frames | (simpa [Around.under, Code.envs, Code.isFrame, pushEnvs] using e.frames), e.mod, e.bs, e.bsz, e.funs, e.frf, e.hok, e.bare⟩
section
variable {X : Cx} {pins : List (Addr × Obj)} {σ : St} {H : Hp} {s s' : Shared}
theorem Inv.env0 (I : Inv X pins σ H s) : Env0 X.prog X.w X.K X.mg X.base X.A X.stack s H :=
  ⟨I.ok.frames, I.ok.mod, I.bs, Nat.le_trans I.ok.bsz I.sz, I.stack, I.stkFree, I.hok, I.bare⟩
theorem Inv.after {Q : VK} {u : Value} (I : Inv X pins σ H s) (h : CE X.stack X.prog X.w H s Q u s') : EP X pins σ Q u s' := by
  obtain ⟨v, H', os, bare, un, hok, r, q⟩ := h
  obtain ⟨hh, g, d, t, os'⟩ := s'
  obtain rfl : os' = s.os := os
  exact ⟨v, H', I.call (h' := hh) (g' := g) (d' := d) (t' := t) (ch := []) un hok bare (fun b z => absurd z (by simp)), r, q⟩
end

def tCall (sp : Sp) (dvs : List V) (E : XK) (t : TA) : TE := fun σ H Q => t σ H fun vs H1 => sp (vs ++ dvs) H1 Q E
def tMeth (C : Addr) (m : Str) (sp : Sp) (dvs : List V) (E : XK) (ta : TE) (t : TA) : TE := fun σ H Q => ta σ H fun x H1 => ∃ a dx fs, x = .ref a ∧ H1 a = some (.ins C dx fs) ∧ fs.lookup m = none ∧
  t σ H1 fun vs H2 => sp (x :: (vs ++ dvs)) H2 Q E
def tMake (C : Addr) (sp : Sp) (dvs : List V) (E : XK) (t : TA) : TE := fun σ H Q => t σ H fun vs H1 => ∀ x dx, H1 x = none → H1 dx = none → dx ≠ x →
  sp (.ref x :: (vs ++ dvs)) (upd (upd H1 dx (.own x)) x (.ins C dx [])) (fun v H2 => v = .non ∧ Q (.ref x) H2) E

def Binds (K : PySem.W.Frag) (fd : FuncData) (ps : List Str) (ds : List Value) : Prop :=
  ∀ (s : Shared) (us : List Value), K.In s.heap → (us ++ ds).length = ps.length → BindsTo s fd ⟨us, []⟩ (ps.zip (us ++ ds))
theorem Binds.all {K : PySem.W.Frag} {fd : FuncData} {ps : List Str} (h : ∀ us : List Value, us.length = ps.length → bindArgs fd ⟨us, []⟩ = pure (ps.zip us)) : Binds K fd ps [] := fun s us _ hl => by
  rw [List.append_nil] at hl ⊢
  exact .of_eq (h us hl)

def Passes (CX : CXT) (X : Cx) (E : XK) : Prop := ∀ (pins : List (Addr × Obj)) (σ : St) (H : Hp) (s : Shared) (e : Value) (s' : Shared), Inv X pins σ H s → CX X.stack H s E e s' → X.xe e s'

section
variable {X : Cx} {CX : CXT} {k : Nat} {f C : Addr} {fd : FuncData} {ps : List Str} {sp : Sp} {dvs : List V} {ds : List Value} {E : XK} {x m : Str} {p pos apos : Pos} {e o : Expr} {es : List Expr} {ta : TE} {t : TA}

theorem run_fn {pins : List (Addr × Obj)} {σ : St} {H : Hp} {s : Shared} {Q : VK} {us : List Value} {vs : List V} (F : FnOk X.prog X.w X.K X.mg X.base CX k f fd ps sp) (hr : Room k X.A) (hb : Binds X.K fd ps ds) (hd : Vals dvs ds) (hx : Passes CX X E)
    (I : Inv X pins σ H s) (r : Vals vs us) (h : sp (vs ++ dvs) H Q E) : wpAny (model X.prog X.w) X.A (call (.ref f) us) (EP X pins σ Q) X.xe s := by
  have r2 : Vals (vs ++ dvs) (us ++ ds) := r.append hd
  have hl : (us ++ ds).length = ps.length := by rw [← r2.length]; exact F.len _ _ _ _ h
  refine wpAny_call (codeAny_mono (F.run X.A X.stack s H ⟨us, []⟩ (us ++ ds) (vs ++ dvs) Q E hr I.env0 (hb s us I.kIn hl) r2 h) fun r s' hq => ?_)
  cases r with
  | error e => exact hx pins σ H s e s' I hq
  | ok fl =>
    cases fl with
    | ret u => exact I.after hq
    | next => exact False.elim hq
    | brk => exact False.elim hq
    | cont => exact False.elim hq

theorem pe_call (F : FnOk X.prog X.w X.K X.mg X.base CX k f fd ps sp) (hr : Room k X.A) (hg : Gl X x) (hm : X.mg x = some (.ref f)) (hk : PySem.W.keepIn X.K (.ref f) = true) (hb : Binds X.K fd ps ds) (hd : Vals dvs ds) (hx : Passes CX X E)
    (ha : PA X (e :: es) t) (hdb : (x == ("__debug__" : Str)) = false := by decide) (he : starEach (e :: es) X.env = (false, eval e X.env) :: starEach es X.env := by rfl) (hpl : (backTo pos (starEach es X.env)).any (·.1) = false := by rfl) :
    PE X (.Call (.Name x p) (e :: es) [] pos) (tCall sp dvs E t) := by
  intro pins s σ H Q I h
  refine wpAny_Call_Name_kw (ld_glob I hg hm ?_ hdb)
  refine PySem.W.callWith_K (h₀ := X.base) I.ok.mod.kin hk (thn (ha pos pins s σ H _ I h) fun us s1 ⟨vs, H1, I1, r, q⟩ => ⟨I1.kIn, ?_⟩) he hpl
  exact run_fn F hr hb hd hx I1 r q
theorem pe_meth {pl : Sem Bool} (he : PE X o ta) (c : Cls X.K C) (hm : Meth X.K C m f) (F : FnOk X.prog X.w X.K X.mg X.base CX k f fd ps sp) (hr : Room k X.A) (hb : Binds X.K fd ps ds) (hd : Vals dvs ds) (hx : Passes CX X E) (ha : PA X (e :: es) t)
    (hst : starEach (e :: es) X.env = (false, eval e X.env) :: starEach es X.env := by rfl) (hpl : (backTo pos (starEach es X.env)).any (·.1) = false := by rfl)
    (ht : eval (.Call (.Attribute o m apos) (e :: es) [] pos) X.env = (do
      let ov ← eval o X.env
      standAt apos.atName
      let (f, first) ← holding [ov] (getMethod ov m pl)
      callWith pos f first (backTo pos (starEach (e :: es) X.env)) (backToKw pos (keywordEach [] X.env))) := by rfl) :
    PE X (.Call (.Attribute o m apos) (e :: es) [] pos) (tMeth C m sp dvs E ta t) := by
  intro pins s σ H Q I h
  refine PySem.W.methodCall_KW (pl := pl) (thn (he pins s σ H _ I h) fun u s1 ⟨x, H1, I1, rx, a, dx, fs, ex, ea, l, q⟩ => ?_) ht
  subst ex
  obtain rfl : u = Value.ref a := rx
  refine getmeth_ok I1 ea c hm l ?_
  refine PySem.W.callWith_K (first := [.ref a]) (h₀ := X.base) I.ok.mod.kin hm.kp (thn (ha pos pins s1 σ H1 _ I1 q) fun us s2 ⟨vs, H2, I2, r, q2⟩ => ⟨I2.kIn, ?_⟩) hst hpl
  exact run_fn (us := .ref a :: us) (vs := .ref a :: vs) F hr hb hd hx I2 (.cons rfl r) q2
theorem pe_meth0 {pl : Sem Bool} (he : PE X o ta) (c : Cls X.K C) (hm : Meth X.K C m f) (F : FnOk X.prog X.w X.K X.mg X.base CX k f fd ps sp) (hr : Room k X.A) (hb : Binds X.K fd ps ds) (hd : Vals dvs ds) (hx : Passes CX X E)
    (ht : eval (.Call (.Attribute o m apos) [] [] pos) X.env = (do
      let ov ← eval o X.env
      standAt apos.atName
      let (f, first) ← holding [ov] (getMethod ov m pl)
      callWith pos f first (backTo pos (starEach [] X.env)) (backToKw pos (keywordEach [] X.env))) := by rfl) :
    PE X (.Call (.Attribute o m apos) [] [] pos) (tMeth C m sp dvs E ta tNil) := by
  intro pins s σ H Q I h
  refine PySem.W.methodCall_KW (pl := pl) (thn (he pins s σ H _ I h) fun u s1 ⟨x, H1, I1, rx, a, dx, fs, ex, ea, l, q⟩ => ?_) ht
  subst ex
  obtain rfl : u = Value.ref a := rx
  refine getmeth_ok I1 ea c hm l ?_
  exact PySem.W.callWith_K0 (first := [.ref a]) I1.kIn hm.kp (run_fn (us := [.ref a]) (vs := [.ref a]) F hr hb hd hx I1 (.cons rfl .nil) q)

structure Mk (K : PySem.W.Frag) (C f : Addr) : Prop where
  makes : PySem.W.makesIn K C = true
  init : PySem.W.findIn K (.ref C) "__init__" = some (some (.ref f))
  fn : PySem.W.isFn K (.ref f) = true
  kp : PySem.W.keepIn K (.ref C) = true

theorem run_make {pins : List (Addr × Obj)} {σ : St} {H : Hp} {s : Shared} {Q : VK} {us : List Value} {vs : List V} (M : Mk X.K C f) (F : FnOk X.prog X.w X.K X.mg X.base CX k f fd ps sp) (hr : Room (k + 1) X.A) (hb : Binds X.K fd ps ds) (hd : Vals dvs ds)
    (hx : Passes CX X E) (I : Inv X pins σ H s) (r : Vals vs us)
    (h : ∀ x dx, H x = none → H dx = none → dx ≠ x → sp (.ref x :: (vs ++ dvs)) (upd (upd H dx (.own x)) x (.ins C dx [])) (fun v H2 => v = .non ∧ Q (.ref x) H2) E) :
    wpAny (model X.prog X.w) X.A (call (.ref C) us) (EP X pins σ Q) X.xe s := by
  have hq := h (s.heap.objs.size + 1) s.heap.objs.size (I.hok.fresh (Nat.le_succ _)) (I.hok.fresh (Nat.le_refl _)) (Nat.ne_of_lt (Nat.lt_succ_self _))
  have I2 := Inv.made (C := C) I
  have r2 : Vals (V.ref (s.heap.objs.size + 1) :: (vs ++ dvs)) (Value.ref (s.heap.objs.size + 1) :: (us ++ ds)) := .cons rfl (r.append hd)
  have hl : (Value.ref (s.heap.objs.size + 1) :: us ++ ds).length = ps.length := by
    have e := r2.length
    rw [F.len _ _ _ _ hq] at e
    exact e.symm
  refine wpAny_call (make_map (f := f) I.kIn M.makes M.init (beq_iff_eq.mp M.fn) (codeAny_mono (F.run _ X.stack _ _ ⟨Value.ref (s.heap.objs.size + 1) :: us, []⟩ (Value.ref (s.heap.objs.size + 1) :: (us ++ ds)) _ _ E (hr.make C us [])
    (I2.env0.make C us []) (hb _ (Value.ref (s.heap.objs.size + 1) :: us) I2.kIn hl) r2 hq) fun r s' hq' => ?_))
  cases r with
  | error e => exact hx pins σ _ _ e s' I2 hq'
  | ok fl =>
    cases fl with
    | ret u =>
      obtain ⟨v, H', I3, rv, ev, q3⟩ := I2.after hq'
      subst ev
      exact ⟨rv, ⟨V.ref (s.heap.objs.size + 1), H', I3, rfl, q3⟩⟩
    | next => exact False.elim hq'
    | brk => exact False.elim hq'
    | cont => exact False.elim hq'
theorem pe_make (M : Mk X.K C f) (F : FnOk X.prog X.w X.K X.mg X.base CX k f fd ps sp) (hr : Room (k + 1) X.A) (hg : Gl X x) (hm : X.mg x = some (.ref C)) (hb : Binds X.K fd ps ds) (hd : Vals dvs ds) (hx : Passes CX X E)
    (ha : PA X (e :: es) t) (hdb : (x == ("__debug__" : Str)) = false := by decide) (he : starEach (e :: es) X.env = (false, eval e X.env) :: starEach es X.env := by rfl) (hpl : (backTo pos (starEach es X.env)).any (·.1) = false := by rfl) :
    PE X (.Call (.Name x p) (e :: es) [] pos) (tMake C sp dvs E t) := by
  intro pins s σ H Q I h
  refine wpAny_Call_Name_kw (ld_glob I hg hm ?_ hdb)
  refine PySem.W.callWith_K (h₀ := X.base) I.ok.mod.kin M.kp (thn (ha pos pins s σ H _ I h) fun us s1 ⟨vs, H1, I1, r, q⟩ => ⟨I1.kIn, ?_⟩) he hpl
  exact run_make M F hr hb hd hx I1 r q
end

section
variable {X : Cx} {CX : CXT} {k : Nat} {f C : Addr} {fd : FuncData} {ps ks : List Str} {sp : Sp} {E : XK} {x m : Str} {p pos apos kpos : Pos} {e o : Expr} {es : List Expr} {kws : List Keyword} {te ta : TE} {t tk : TA} {nm : Option Str}
structure KBinds (K : PySem.W.Frag) (fd : FuncData) (ps ks : List Str) (g : List Value → List Value → List Value) (gV : List V → List V → List V) : Prop where
  to : ∀ (s : Shared) (us ws : List Value), K.In s.heap → (g us ws).length = ps.length → BindsTo s fd ⟨us, ks.zip ws⟩ (ps.zip (g us ws))
  rel : ∀ {vs : List V} {us : List Value} {zs : List V} {ws : List Value}, Vals vs us → Vals zs ws → Vals (gV vs zs) (g us ws)
variable {g : List Value → List Value → List Value} {gV : List V → List V → List V}
end

structure FnScope (N P : List Str) (sc : Scope) : Prop where
  kind : sc.kind = .function
  co : sc.isCoroutine = false
  gen : sc.isGenerator = false
  nd : N.Nodup
  pre : N.take P.length = P
  par : ∀ x ∈ P, sc.names.lookup x = some .local ∨ sc.names.lookup x = some .cell
  nofree : ∀ y ∈ sc.names, y.2 ≠ .free

theorem bindL_out {kindOf : Str → Option NameKind} {x : Str} : ∀ {binds : List (Str × Value)} {m : Str → Option Value}, (∀ v, (x, v) ∉ binds) → bindL kindOf binds m x = m x
  | [], _, _ => rfl
  | (n, v) :: r, m, h => by
    unfold bindL
    rw [bindL_out fun w hw => h w (List.mem_cons_of_mem _ hw)]
    split
    · have : x ≠ n := by rintro rfl; exact h v List.mem_cons_self
      simp [this]
    · rfl
theorem bindC_out {kindOf : Str → Option NameKind} {x : Str} : ∀ {binds : List (Str × Value)} {m : Str → Option Value}, (∀ v, (x, v) ∉ binds) → bindC kindOf binds m x = m x
  | [], _, _ => rfl
  | (n, v) :: r, m, h => by
    unfold bindC
    rw [bindC_out fun w hw => h w (List.mem_cons_of_mem _ hw)]
    split
    · rfl
    · have : x ≠ n := by rintro rfl; exact h v List.mem_cons_self
      simp [this]
theorem bindL_get {kindOf : Str → Option NameKind} {x : Str} {v : Value} : ∀ {P : List Str} {vs : List Value} {i : Nat} {m : Str → Option Value}, P.Nodup → P[i]? = some x → vs[i]? = some v → kindOf x = some .local →
    bindL kindOf (P.zip vs) m x = some v
  | [], _, _, _, _, h, _, _ => by simp at h
  | _ :: _, [], _, _, _, _, h, _ => by simp at h
  | p :: P, w :: vs, 0, m, nd, h1, h2, hk => by
    simp at h1 h2; subst h1; subst h2
    show bindL kindOf ((p, w) :: P.zip vs) m p = _
    unfold bindL
    rw [bindL_out fun v hv => (List.nodup_cons.mp nd).1 (List.of_mem_zip hv).1, if_pos hk]
    simp
  | p :: P, w :: vs, i + 1, m, nd, h1, h2, hk => by
    show bindL kindOf ((p, w) :: P.zip vs) m x = _
    unfold bindL
    exact bindL_get (i := i) (List.nodup_cons.mp nd).2 (by simpa using h1) (by simpa using h2) hk
theorem bindC_get {kindOf : Str → Option NameKind} {x : Str} {v : Value} : ∀ {P : List Str} {vs : List Value} {i : Nat} {m : Str → Option Value}, P.Nodup → P[i]? = some x → vs[i]? = some v → kindOf x ≠ some .local →
    bindC kindOf (P.zip vs) m x = some v
  | [], _, _, _, _, h, _, _ => by simp at h
  | _ :: _, [], _, _, _, _, h, _ => by simp at h
  | p :: P, w :: vs, 0, m, nd, h1, h2, hk => by
    simp at h1 h2; subst h1; subst h2
    show bindC kindOf ((p, w) :: P.zip vs) m p = _
    unfold bindC
    rw [bindC_out fun v hv => (List.nodup_cons.mp nd).1 (List.of_mem_zip hv).1, if_neg hk]
    simp
  | p :: P, w :: vs, i + 1, m, nd, h1, h2, hk => by
    show bindC kindOf ((p, w) :: P.zip vs) m x = _
    unfold bindC
    exact bindC_get (i := i) (List.nodup_cons.mp nd).2 (by simpa using h1) (by simpa using h2) hk

def start (N : List Str) (vs : List V) : St := vs.map some ++ List.replicate (N.length - vs.length) none

def cxOf (CX : CXT) (P : Program) (w : World) (K : PySem.W.Frag) (mg : Str → Option Value) (base : Heap) (N : List Str) (qual : Str) (scope : Scope) (f : Addr) (cd : Value) (A : Around) (outer : List Env) (s : Shared) (H : Hp) (E : XK) : Cx where
  prog := P
  w := w
  K := K
  mg := mg
  base := base
  A := A.deeper (envOfC qual scope s.heap.objs.size f cd)
  N := N
  s₀ := s
  H₀ := H
  env := envOfC qual scope s.heap.objs.size f cd
  outer := outer
  stack := envOfC qual scope s.heap.objs.size f cd :: outer
  ex := []
  calm := true
  fn := fun _ => true
  pn := []
  xe := fun e s' => wpAny (model P w) (A.deeper (envOfC qual scope s.heap.objs.size f cd)) (leaving (envOfC qual scope s.heap.objs.size f cd) e) (fun _ s'' => CX outer H s E e s'') (fun e' s'' => CX outer H s E e' s'') s'

theorem cell_has {sc : Scope} {n : Nat} {x : Str} (h : sc.names.lookup x = some .cell) : ∃ c, (cellsFrom n sc.names []).lookup x = some c := by
  have q := PySem.W.cellsFrom_some sc.names n [] (.inl h)
  exact Option.isSome_iff_exists.mp q

theorem inv_start {CX : CXT} {P : Program} {w : World} {K : PySem.W.Frag} {mg : Str → Option Value} {base : Heap} {N ps : List Str} {qual : Str} {scope : Scope} {f : Addr} {cd : Value} {A : Around} {outer : List Env} {s s1 : Shared} {H : Hp} {E : XK} {us : List Value} {vs : List V}
    (S : FnScope N ps scope) (hd : A.handled = none) (e0 : Env0 P w K mg base A outer s H) (hl : vs.length = ps.length) (r : Vals vs us)
    (x : InCallC s s.heap.objs.size (bindL (envOfC qual scope s.heap.objs.size f cd).kindOf (ps.zip us) fun _ => none) (cellsFrom (s.heap.objs.size + 1) scope.names []) (bindC (envOfC qual scope s.heap.objs.size f cd).kindOf (ps.zip us) fun _ => none) s1) :
    Inv (cxOf CX P w K mg base N qual scope f cd A outer s H E) [] (start N vs) H s1 := by
  have hpl : ps.length ≤ N.length := by have := congrArg List.length S.pre; rw [List.length_take] at this; omega
  obtain ⟨h1, tk, rfl, hk⟩ := x.done
  have noA : ∀ b : Addr, b ∉ (cxOf CX P w K mg base N qual scope f cd A outer s H E).ex := fun b z => absurd (show b ∈ ([] : List Addr) from z) (by simp)
  refine ⟨⟨e0.mod, S.kind, rfl, rfl, Nat.le_refl _, fun y z c h1 h2 => ?_, fun y hy => ?_, fun y c _ h => ?_, fun _ => hd, Around.frames_deeper e0.frames, .inr ⟨rfl, rfl⟩, fun b z => absurd z (noA b), e0.bs, e0.bsz, fun b _ _ => noA b, fun b z => absurd z (noA b), e0.funs, e0.frf⟩,
    rfl, e0.bare, Un.kept hk, ⟨_, x.toInCall.ns, fun i y v h1 h2 h3 => ?_⟩, fun y c h => ⟨_, x.cell y c h⟩, e0.hok.fresh (Nat.le_refl _), fun y c h => ?_, fun p hp => absurd (show p ∈ ([] : List (Addr × Obj)) from hp) (by simp), e0.hok.kept hk, ?_⟩
  · exact name_of_addr x.apart (PySem.mem_of_lookup h1) (PySem.mem_of_lookup h2)
  · have hy : scope.names.lookup y = some .cell ∨ scope.names.lookup y = some .free := hy
    rcases hy with hy | hy
    · exact cell_has hy
    · exact absurd rfl (S.nofree _ (PySem.mem_of_lookup hy))
  · exact Nat.le_of_lt (x.above y c (PySem.mem_of_lookup h))
  · have hi : i < vs.length := by
      unfold start at h2
      by_cases hi : i < vs.length
      · exact hi
      · rw [List.getElem?_append_right (by simpa using hi)] at h2
        rw [List.getElem?_replicate] at h2
        split at h2 <;> cases h2
    have ha : vs[i]? = some v := by
      unfold start at h2
      rw [List.getElem?_append_left (by simpa using hi), List.getElem?_map] at h2
      cases e : vs[i]? with
      | none => rw [e] at h2; cases h2
      | some a => rw [e] at h2; cases h2; rfl
    obtain ⟨u, hu, rv⟩ := r.get ha
    have hp : ps[i]? = some y := by
      rw [← S.pre, List.getElem?_take_of_lt (by omega)]; exact h1
    have ndP : ps.Nodup := by rw [← S.pre]; exact S.nd.sublist (List.take_sublist _ _)
    refine ⟨u, rv, ?_⟩
    rcases S.par y (List.mem_of_getElem? hp) with k | k
    · exact .inl ⟨k, bindL_get ndP hp hu k⟩
    · obtain ⟨c, e⟩ := cell_has (n := s.heap.objs.size + 1) k
      refine .inr ⟨.inl k, c, e, ?_⟩
      have q := x.cell y c e
      rw [bindC_get ndP hp hu (by show scope.names.lookup y ≠ _; rw [k]; decide)] at q
      exact q
  · exact e0.hok.fresh (Nat.le_of_lt (x.above y c (PySem.mem_of_lookup h)))
  · unfold start
    show _ = N.length
    rw [List.length_append, List.length_map, List.length_replicate]
    omega

theorem fn_of {CX : CXT} {P : Program} {w : World} {K : PySem.W.Frag} {mg : Str → Option Value} {base : Heap} {k : Nat} {f : Addr} {name qual : Str} {params : Arguments} {body : List Stmt} {scope : Scope} {dV kV doc pm cdv ct oc : Value} {an od : Option Addr}
    {osl : Array (Option Value)} {N ps : List Str} {sp : Sp} (lk : K.lookup f = some ⟨oc, od, .func (PySem.W.fnOf name qual params body scope dV kV doc pm an cdv ct), osl⟩) (hcd : PySem.W.codeIn K cdv qual = true) (S : FnScope N ps scope)
    (len : ∀ vs H Q E, sp vs H Q E → vs.length = ps.length)
    (hbody : ∀ (A : Around) (outer : List Env) (s : Shared) (H : Hp) (vs : List V) (Q : VK) (E : XK), Room k (A.deeper (envOfC qual scope s.heap.objs.size f cdv)) → sp vs H Q E →
      ∃ t, PSs (cxOf CX P w K mg base N qual scope f cdv A outer s H E) body t ∧ t { nx := fun _ H' => Q .non H', rt := Q } (start N vs) H) :
    FnOk P w K mg base CX (k + 1) f (PySem.W.fnOf name qual params body scope dV kV doc pm an cdv ct) ps sp := by
  refine ⟨len, fun A outer s H args us vs Q E hr e0 hb r hsp => ?_⟩
  have hl := len _ _ _ _ hsp
  have KX : K.In s.heap := e0.mod.kin.keeps fun b o e => (e0.bs b o e).1
  have lim : s.heap.NoLimit := e0.mod.nolimit.keeps fun b o e => (e0.bs b o e).1
  have hkind : ∀ y ∈ ps.zip us, scope.names.lookup y.1 = some .local ∨ (scope.names.lookup y.1 = some .cell ∧ ((cellsFrom (s.heap.objs.size + 1) scope.names []).lookup y.1).isSome = true) := fun ⟨n, v⟩ hy => by
    rcases S.par n (List.of_mem_zip hy).1 with q | q
    · exact .inl q
    · exact .inr ⟨q, PySem.W.cellsFrom_some _ _ _ (.inl q)⟩
  refine codeAny_call_function hr.depth (KX _ _ lk) rfl S.co S.gen rfl (PySem.W.codeRec_of KX hcd) (hb _ _ _ _ ?_)
  refine wpAny_newFunctionEnv_cells S.kind hkind fun env he s1 x => ?_
  subst he
  refine ⟨lim.keeps x.toInCall.keep, codeAny_func ?_⟩
  obtain ⟨t, ht, hq⟩ := hbody A outer s H vs Q E (hr.deeper _) hsp
  have I : Inv (cxOf CX P w K mg base N qual scope f cdv A outer s H E) [] (start N vs) H s1 := inv_start S hr.hd e0 hl r x
  refine wpAny_mono (ht [] s1 (start N vs) H _ I hq) (fun fl s' hs => ?_) fun e s' hs => hs
  have fin : ∀ {σ' : St} {H' : Hp} {v : V} {u : Value}, Inv (cxOf CX P w K mg base N qual scope f cdv A outer s H E) [] σ' H' s' → RelV v u → Q v H' → CE outer P w H s Q u s' :=
    fun {σ' H' v u} J rv q => ⟨v, H', J.os, J.bare, J.base, J.hok, rv, q⟩
  cases fl with
  | ret u =>
    obtain ⟨v, σ', H', J, rv, q⟩ := hs
    exact fin J rv q
  | next =>
    obtain ⟨σ', H', J, q⟩ := hs
    exact fin (v := V.non) (u := Value.none) J rfl q
  | brk =>
    obtain ⟨_, _, _, q⟩ := hs
    exact False.elim q
  | cont =>
    obtain ⟨_, _, _, q⟩ := hs
    exact False.elim q
end L2

namespace L2
open PySem PySem.Spec PyProof.Rows
section
variable {X : Cx} {x : Str} {p pos : Pos} {e : Expr} {es : List Expr} {t : TA} {id T : String} {r : List V → Hp → VK → Prop}

def tCB (r : List V → Hp → VK → Prop) (t : TA) : TE := fun σ H Q => t σ H fun vs H1 => r vs H1 Q
theorem pe_callB (hc : CallR X (.builtin id) r) (hg : Gl X x) (hm : X.mg x = none) (hv : bootBuiltins x = some (.builtin id)) (ha : PA X (e :: es) t) (hn : x ≠ "__name__" := by decide) (hdb : (x == ("__debug__" : Str)) = false := by decide)
    (he : starEach (e :: es) X.env = (false, eval e X.env) :: starEach es X.env := by rfl) (hpl : (backTo pos (starEach es X.env)).any (·.1) = false := by rfl) : PE X (.Call (.Name x p) (e :: es) [] pos) (tCB r t) := by
  intro pins s σ H Q I h
  refine wpAny_Call_Name_kw (ld_blt I hg hm hv ?_ hn hdb)
  exact PyProof.Rows.callWith_builtin1 (thn (ha pos pins s σ H _ I h) fun us s1 ⟨vs, H1, I1, r1, q1⟩ => hc pins s1 σ H1 vs us Q I1 r1 q1) he hpl
theorem pe_callTy (hc : CallR X (.type T) r) (hg : Gl X x) (hm : X.mg x = none) (hv : bootBuiltins x = some (.type T)) (ha : PA X (e :: es) t) (hn : x ≠ "__name__" := by decide) (hdb : (x == ("__debug__" : Str)) = false := by decide)
    (he : starEach (e :: es) X.env = (false, eval e X.env) :: starEach es X.env := by rfl) (hpl : (backTo pos (starEach es X.env)).any (·.1) = false := by rfl) : PE X (.Call (.Name x p) (e :: es) [] pos) (tCB r t) := by
  intro pins s σ H Q I h
  refine wpAny_Call_Name_kw (ld_blt I hg hm hv ?_ hn hdb)
  exact PyProof.Rows.callWith_type1 (thn (ha pos pins s σ H _ I h) fun us s1 ⟨vs, H1, I1, r1, q1⟩ => hc pins s1 σ H1 vs us Q I1 r1 q1) he hpl
end
end L2

namespace HT
open PySem PyProof.Rows

section
open PySem.SeqAt
open PySem.AutoSeq1 (wpAny_loadPart')
open PySem.MeetsSeq PySem.MeetsSeq2 PySem.MeetsSeq3

end

section
variable {prog : Program} {w : World} {A : Around} {E : Value → Shared → Prop} {s : Shared}

def sIx (n d : Nat) : Option Int → Nat
  | none => d
  | some v => if v < 0 then (v + (n : Int)).toNat else min v.toNat n
end
end HT

namespace L2
open PySem PySem.Spec PyProof.Rows

abbrev TO := St → Hp → (Option Int → Hp → Prop) → Prop
def PO (X : Cx) (e : Option Expr) (t : TO) : Prop :=
  ∀ (pins : List (Addr × Obj)) (s : Shared) (σ : St) (H : Hp) (Q : Option Int → Hp → Prop), Inv X pins σ H s → t σ H Q →
    wpAny (model X.prog X.w) X.A (evalPart e X.env) (fun u s' => ∃ o H', Inv X pins σ H' s' ∧ IsPart u o ∧ Q o H') X.xe s
def tNoPart : TO := fun _ H Q => Q none H
def tPart (t : TE) : TO := fun σ H Q => t σ H fun x H1 => ∃ i, x = .int i ∧ Q (some i) H1

section
variable {X : Cx} {e : Expr} {te : TE} {lo hi : Option Expr} {tl th : TO} {pos p2 : Pos}

theorem po_none : PO X none tNoPart := by
  intro pins s σ H Q I h
  rw [evalPart_none]
  exact wpAny_pure ⟨none, H, I, .none, h⟩
theorem po_some (h : PE X e te) : PO X (some e) (tPart te) := by
  intro pins s σ H Q I hw
  rw [evalPart_some]
  refine thn (h pins s σ H _ I hw) fun u s1 ⟨x, H1, I1, r1, q1⟩ => ?_
  obtain ⟨i, rfl, q⟩ := q1
  obtain ⟨t, rfl⟩ := r1
  exact ⟨some i, H1, I1, .int i t, q⟩

def SlR (X : Cx) (r : V → Option Int → Option Int → Hp → VK → Prop) : Prop :=
  ∀ (pins : List (Addr × Obj)) (s : Shared) (σ : St) (H : Hp) (x : V) (v vl vu : Value) (lo hi : Option Int) (sl : Addr) (Q : VK), Inv X pins σ H s → RelV x v → s.heap.IsSliceOf sl vl vu .none → IsPart vl lo → IsPart vu hi → r x lo hi H Q →
    ∃ T id, typeLookup (.type T) "__getitem__" = pure (some (.builtin id)) ∧ s.TypeIs v T ∧ wpAny (model X.prog X.w) X.A (getItem v (.ref sl)) (EP X pins σ Q) X.xe s
def tSl (r : V → Option Int → Option Int → Hp → VK → Prop) (te : TE) (tl th : TO) : TE := fun σ H Q => te σ H fun x H1 => tl σ H1 fun l H2 => th σ H2 fun u H3 => r x l u H3 Q
theorem pe_slice {r : V → Option Int → Option Int → Hp → VK → Prop} (hr : SlR X r) (he : PE X e te) (hl : PO X lo tl) (hu : PO X hi th) : PE X (.Subscript e (.Slice lo hi none p2) pos) (tSl r te tl th) := by
  intro pins s σ H Q I h
  refine Subscript_ (thn (he pins s σ H _ I h) fun v s1 ⟨x, H1, I1, r1, q1⟩ => ?_)
  refine wpAny_Slice (thn (hl pins s1 σ H1 _ I1 q1) fun vl s2 ⟨l, H2, I2, pl, q2⟩ => thn (hu pins s2 σ H2 _ I2 q2) fun vu s3 ⟨u, H3, I3, pu, q3⟩ => ?_)
  rw [evalPart_none]
  refine wpAny_pure ?_
  have I4 : Inv X pins σ H3 { s3 with heap := s3.heap.push { cls := .type "slice", data := .fields #[vl, vu, .none] } } := I3.kept (t' := s3.toks) fun b ob q => Heap.get?_push_of_some _ q
  obtain ⟨T, id, hT, ht, hg⟩ := hr pins { s3 with heap := s3.heap.push { cls := .type "slice", data := .fields #[vl, vu, .none] } } σ H3 x v vl vu l u s3.heap.objs.size Q I4 r1 (Heap.IsSliceOf.new ..) pl pu q3
  show wpAny (model X.prog X.w) X.A (subscriptTail e (.Slice lo hi none p2) v (.ref s3.heap.objs.size)) (EP X pins σ Q) X.xe { s3 with heap := s3.heap.push { cls := .type "slice", data := .fields #[vl, vu, .none] } }
  exact tail_any (ops := [.ref s3.heap.objs.size, v]) ht hT hg (by with_unfolding_all rfl)

def cutV (xs : List V) (lo hi : Option Int) : List V := (xs.drop (HT.sIx xs.length 0 lo)).take (HT.sIx xs.length xs.length hi - HT.sIx xs.length 0 lo)
theorem cutV_length (xs : List V) (lo hi : Option Int) : (cutV xs lo hi).length ≤ xs.length := by
  unfold cutV
  rw [List.length_take, List.length_drop]
  omega
end
end L2

namespace L2
open PySem PySem.Spec PyProof.Rows

def ixN (n : Nat) (i : Int) : Option Nat := if 0 ≤ i then (if i < n then some i.toNat else none) else if -(n : Int) ≤ i then some (i + n).toNat else none
def atI {α : Type} (xs : List α) (i : Int) : Option α := (ixN xs.length i).bind fun j => xs[j]?
theorem ixN_seq {n : Nat} {i : Int} {j : Nat} (h : ixN n i = some j) : seqIndex? i n = some j ∧ j < n ∧ -(n : Int) ≤ i ∧ i < n := by
  unfold ixN at h
  by_cases h0 : 0 ≤ i
  · rw [if_pos h0] at h
    by_cases h1 : i < n
    · rw [if_pos h1] at h
      have e : i.toNat = j := Option.some.inj h
      exact ⟨by rw [seqIndex_of h0 h1, e], by omega, by omega, h1⟩
    · rw [if_neg h1] at h; cases h
  · rw [if_neg h0] at h
    by_cases h1 : -(n : Int) ≤ i
    · rw [if_pos h1] at h
      have e : (i + n).toNat = j := Option.some.inj h
      exact ⟨by rw [seqIndex_neg (by omega) h1, e], by omega, h1, by omega⟩
    · rw [if_neg h1] at h; cases h
theorem atI_get {α : Type} {xs : List α} {i : Int} {v : α} (h : atI xs i = some v) : ∃ j, seqIndex? i xs.length = some j ∧ xs[j]? = some v ∧ j < xs.length ∧ -(xs.length : Int) ≤ i ∧ i < xs.length := by
  unfold atI at h
  cases e : ixN xs.length i with
  | none => rw [e] at h; cases h
  | some j =>
    rw [e] at h
    obtain ⟨h1, h2, h3, h4⟩ := ixN_seq e
    exact ⟨j, h1, h, h2, h3, h4⟩
theorem atI_nat {α : Type} {xs : List α} {j : Nat} {v : α} (h : xs[j]? = some v) : atI xs (j : Int) = some v := by
  have hj : j < xs.length := (List.getElem?_eq_some_iff.mp h).1
  have e : ixN xs.length (j : Int) = some j := by
    unfold ixN
    rw [if_pos (by omega), if_pos (by omega)]; simp
  unfold atI; rw [e]; exact h
def PlainIx (b : Expr) : Prop := ∀ o i, subscripted b false o i = operate [o, i] (getItem o i)
def IxR (X : Cx) (r : R2) : Prop :=
  ∀ (value slice : Expr) (pins : List (Addr × Obj)) (s : Shared) (σ : St) (H : Hp) (x y : V) (v u : Value) (Q : VK), Inv X pins σ H s → RelV x v → RelV y u → r x y H Q →
    subscripted slice false v u = operate [v, u] (getItem v u) → wpAny (model X.prog X.w) X.A (subscriptTail value slice v u) (EP X pins σ Q) X.xe s
def MtR (X : Cx) (id : String) (r : V → List V → Hp → VK → Prop) : Prop :=
  ∀ (pins : List (Addr × Obj)) (s : Shared) (σ : St) (H : Hp) (x : V) (xs : List V) (v : Value) (us : List Value) (Q : VK), Inv X pins σ H s → RelV x v → Vals xs us → r x xs H Q →
    wpAny (model X.prog X.w) X.A (call (.builtin id) (v :: us)) (EP X pins σ Q) X.xe s
section
variable {X : Cx} {a b : Expr} {ta tb : TE} {pos : Pos}
theorem pe_ix {r : R2} (hr : IxR X r) (ha : PE X a ta) (hb : PE X b tb) (hs : PlainIx b) : PE X (.Subscript a b pos) (tOp r ta tb) := by
  intro pins s σ H Q I h
  exact Subscript_ (binT ha hb I h fun v u s2 x y H2 I2 rx ry q => hr a b pins s2 σ H2 x y v u Q I2 rx ry q (hs _ _))

def rIxL (K : PySem.W.Frag) : R2 := fun x y H Q => ∃ p xs i v, x = .ref p ∧ y = .int i ∧ SqL K H p xs ∧ atI xs i = some v ∧ Q v H
theorem ix_list : IxR X (rIxL X.K) := by
  intro value slice pins s σ H x y v u Q I rx ry h hs
  obtain ⟨p, xs, i, z, rfl, rfl, hq, he, q⟩ := h
  cases rx
  obtain ⟨t, rfl⟩ := ry
  obtain ⟨its, r, pl, hz⟩ := I.list hq
  obtain ⟨j, h1, h2, h3, h4, h5⟩ := atI_get he
  obtain ⟨w, ew, rw'⟩ := r.get h2
  have hl := r.length
  have hn := line63
  have fin : EP X pins σ Q w s := ⟨z, H, I, rw', q⟩
  by_cases h0 : 0 ≤ i
  · have hj : i.toNat = j := by
      rw [seqIndex_of h0 h5] at h1
      exact Option.some.inj h1
    exact item_listR pl.isList h0 (by omega) (by rw [hj]; simpa using ew) fin hs
  · have hj : (i + (its.toArray.size : Int)).toNat = j := by
      rw [seqIndex_neg (by omega) h4] at h1
      rw [List.size_toArray, ← hl]
      exact Option.some.inj h1
    exact subscriptTail_builtinR (x := w) pl.isList.typeIs slot_list_getitem.lookup
      (wpAny_getItem_list_neg (Q := fun r s' => r = w ∧ EP X pins σ Q r s') pl.isList (by omega) (by rw [List.size_toArray] <;> omega) (by omega) (by rw [hj]; simpa using ew) ⟨rfl, fin⟩) hs
theorem mapSeq_set (its : List Value) (n j : Nat) (u : Value) : Obj.mapSeq (·.setIfInBounds j u) { cls := .type "list", data := .seq its.toArray n } = { cls := .type "list", data := .seq (its.set j u).toArray n } := by
  simp [Obj.mapSeq]
theorem Inv.lst {pins : List (Addr × Obj)} {σ : St} {H : Hp} {s : Shared} {p : Addr} {xs : List V} (I : Inv X pins σ H s) (h : H p = some (.lst xs)) :
    ∃ (its : List Value) (n : Nat), Vals xs its ∧ s.heap.get? p = some { cls := .type "list", data := .seq its.toArray n } ∧ xs.length ≤ sizeLine := by
  obtain ⟨z, its, n, r, e⟩ := I.hok p _ h
  exact ⟨its, n, r, e, z⟩
theorem Inv.lstUpd {pins : List (Addr × Obj)} {σ : St} {H : Hp} {s : Shared} {p : Addr} {xs ys : List V} {its its' : List Value} {n n' : Nat} {f : Obj → Obj} (I : Inv X pins σ H s) (h : H p = some (.lst xs))
    (ho : s.heap.get? p = some { cls := .type "list", data := .seq its.toArray n }) (hf : f { cls := .type "list", data := .seq its.toArray n } = { cls := .type "list", data := .seq its'.toArray n' }) (r : Vals ys its') (hz : ys.length ≤ sizeLine) (t : Nat) :
    Inv X pins σ (upd H p (.lst ys)) { s with heap := s.heap.update p f, toks := t } := by
  have e : (s.heap.update p f).get? p = some { cls := .type "list", data := .seq its'.toArray n' } := by
    rw [Heap.get?_update_self f ho (by rw [hf] <;> rfl), hf]
  refine I.write (x := p) (e := p) (by rw [h]; trivial) (.inl rfl) (fun b u hb q => (Heap.get?_update_other _ _ (Ne.symm hb)).trans q) ⟨_, e⟩ ?_
  exact ⟨hz, its', n', r, e⟩
def rSetL : V → V → V → Hp → (Hp → Prop) → Prop := fun o i v H Q => ∃ p xs k j, o = .ref p ∧ i = .int k ∧ H p = some (.lst xs) ∧ ixN xs.length k = some j ∧ Q (upd H p (.lst (xs.set j v)))
theorem set_list : PSet X rSetL := by
  intro pins s σ H o i v ov iv u Q I ro ri rv h
  obtain ⟨p, xs, k, j, rfl, rfl, hp, hj, q⟩ := h
  cases ro
  obtain ⟨t, rfl⟩ := ri
  obtain ⟨its, n, r, ho, hz⟩ := I.lst hp
  obtain ⟨h1, h2, h3, h4⟩ := ixN_seq hj
  have hl := r.length
  have hn := line63
  have I' : Inv X pins σ (upd H p (.lst (xs.set j v))) { s with heap := s.heap.update p (Obj.mapSeq (·.setIfInBounds j u)) } :=
    I.lstUpd hp ho (mapSeq_set its n j u) (r.set rv j) (by rw [List.length_set]; exact hz) s.toks
  by_cases h0 : 0 ≤ k
  · have hk : k.toNat = j := by
      rw [seqIndex_of h0 h4] at h1
      exact Option.some.inj h1
    exact PySem.W.ki_setAt ho h0 (by omega) (by rw [List.size_toArray, ← hl]; exact h4) (by rw [hk]; exact ⟨_, I', q⟩)
  · have hk : (k + (its.toArray.size : Int)).toNat = j := by
      rw [seqIndex_neg (by omega) h3] at h1
      rw [List.size_toArray, ← hl]
      exact Option.some.inj h1
    exact PySem.W.ki_setBack ho (by omega) (by rw [List.size_toArray, ← hl]; exact h3) (by omega) (by rw [hk]; exact ⟨_, I', q⟩)

theorem slice_bounds (lo hi : Option Int) (n : Nat) : (sliceBounds lo hi none n).1 = ((HT.sIx n 0 lo : Nat) : Int) ∧ (sliceBounds lo hi none n).2.1 = ((HT.sIx n n hi : Nat) : Int) ∧ (sliceBounds lo hi none n).2.2 = 1 := by
  refine ⟨?_, ?_, rfl⟩
  · cases lo with
    | none => simp [sliceBounds, HT.sIx]
    | some i =>
      simp only [sliceBounds, HT.sIx, Option.getD_none, show (1 : Int) > 0 by decide, if_true]
      by_cases h : i < 0
      · simp only [h, if_true] <;> omega
      · simp only [h, if_false] <;> omega
  · cases hi with
    | none => simp [sliceBounds, HT.sIx]
    | some i =>
      simp only [sliceBounds, HT.sIx, Option.getD_none, show (1 : Int) > 0 by decide, if_true]
      by_cases h : i < 0
      · simp only [h, if_true] <;> omega
      · simp only [h, if_false] <;> omega
theorem slicePick_cut (its : List Value) (lo hi : Option Int) : slicePick its.toArray lo hi none = ((its.drop (HT.sIx its.length 0 lo)).take (HT.sIx its.length its.length hi - HT.sIx its.length 0 lo)).toArray := by
  obtain ⟨h1, h2, h3⟩ := slice_bounds lo hi its.toArray.size
  unfold slicePick
  rw [h1, h2, h3]
  simp only [sliceRange_one, pick_run, List.size_toArray] <;> rfl
def rSlL (K : PySem.W.Frag) : V → Option Int → Option Int → Hp → VK → Prop := fun x lo hi H Q => ∃ a xs, x = .ref a ∧ SqL K H a xs ∧ ∀ p, H p = none → Q (.ref p) (upd H p (.lst (cutV xs lo hi)))
theorem sl_list : SlR X (rSlL X.K) := by
  intro pins s σ H x v vl vu lo hi sl Q I rx hs pl pu h
  obtain ⟨a, xs, rfl, hx, q⟩ := h
  cases rx
  obtain ⟨its, r, ht, hz⟩ := I.list hx
  have hlen := r.length
  refine ⟨"list", _, slot_list_getitem.lookup, ht.isList.typeIs, ?_⟩
  refine wpAny_getItem_list_slice ht.isList hs pl pu .none (by simp) ?_ (by rw [List.size_toArray] <;> omega)
  rw [slicePick_cut, ← hlen]
  refine ⟨.ref s.heap.objs.size, _, I.laid (t' := s.toks) (o := .lst (cutV xs lo hi)) (fun b ob q => Heap.get?_push_of_some _ q) (Nat.le_refl _) ?_, rfl, q _ (I.hok.fresh (Nat.le_refl _))⟩
  exact ⟨Nat.le_trans (cutV_length xs lo hi) hz, _, 0, (r.drop (HT.sIx xs.length 0 lo)).take (HT.sIx xs.length xs.length hi - HT.sIx xs.length 0 lo), Heap.get?_push_size _ rfl⟩

def flatV : V → Bool
  | .non => true
  | .bl _ => true
  | .int _ => true
  | .str _ => true
  | _ => false
def eqV : V → V → Bool
  | .non, .non => true
  | .bl a, .bl b => a == b
  | .bl a, .int b => (if a then 1 else 0) == b
  | .int a, .bl b => a == (if b then 1 else 0)
  | .int a, .int b => a == b
  | .str a, .str b => a == b
  | _, _ => false
theorem eqAt_V {A : Around} {s : Shared} {y x : V} {u v : Value} (ry : RelV y u) (rx : RelV x v) (fy : flatV y = true) (fx : flatV x = true) : SeqAt.EqAt A s u v (eqV y x) := by
  cases y with
  | non =>
    cases ry
    cases x with
    | non => cases rx; exact SeqAt.EqAt.same _
    | bl b => cases rx; exact SeqAt.EqAt.none_bool b
    | int b => obtain ⟨t, rfl⟩ := rx; exact SeqAt.EqAt.none_int b t
    | str b => obtain ⟨t, rfl⟩ := rx; exact SeqAt.EqAt.none_str b t
    | _ => exact absurd (show false = true from fx) Bool.false_ne_true
  | bl a =>
    cases ry
    cases x with
    | non => cases rx; exact SeqAt.EqAt.bool_none a
    | bl b => cases rx; exact SeqAt.EqAt.bool_bool a b
    | int b => obtain ⟨t, rfl⟩ := rx; exact SeqAt.EqAt.bool_int a b t
    | str b => obtain ⟨t, rfl⟩ := rx; exact SeqAt.EqAt.bool_str a b t
    | _ => exact absurd (show false = true from fx) Bool.false_ne_true
  | int a =>
    obtain ⟨t', rfl⟩ := ry
    cases x with
    | non => cases rx; exact SeqAt.EqAt.int_none a t'
    | bl b => cases rx; exact SeqAt.EqAt.int_bool a t' b
    | int b => obtain ⟨t, rfl⟩ := rx; exact SeqAt.EqAt.int_int a t' b t
    | str b => obtain ⟨t, rfl⟩ := rx; exact SeqAt.EqAt.int_str a t' b t
    | _ => exact absurd (show false = true from fx) Bool.false_ne_true
  | str a =>
    obtain ⟨t', rfl⟩ := ry
    cases x with
    | non => cases rx; exact SeqAt.EqAt.str_none a t'
    | bl b => cases rx; exact SeqAt.EqAt.str_bool a t' b
    | int b => obtain ⟨t, rfl⟩ := rx; exact SeqAt.EqAt.str_int a t' b t
    | str b => obtain ⟨t, rfl⟩ := rx; exact SeqAt.EqAt.str_str a t' b t
    | _ => exact absurd (show false = true from fx) Bool.false_ne_true
  | _ => exact absurd (show false = true from fy) Bool.false_ne_true
theorem call_len_seq : CallR X (.builtin "len") (fun xs H Q => ∃ p ys, xs = [.ref p] ∧ (SqL X.K H p ys ∨ SqT X.K H p ys) ∧ Q (.int ys.length) H) := by
  intro pins s σ H xs us Q I r h
  obtain ⟨p, ys, rfl, hq, q⟩ := h
  obtain ⟨u, rfl, rx⟩ := vals1 r
  cases rx
  have hn := line63
  rcases hq with hq | hq
  · obtain ⟨its, r', pl, hz⟩ := I.list hq
    have hlen := r'.length
    exact Calls.call_len_list pl.isList (by simp only [List.size_toArray] <;> omega) ⟨.int ys.length, H, I.tok _, ⟨s.toks + 1, by rw [List.size_toArray, hlen]⟩, q⟩
  · obtain ⟨its, r', pl, hz⟩ := I.tuple hq
    have hlen := r'.length
    exact len_tuple pl (by simp only [List.size_toArray] <;> omega) ⟨.int ys.length, H, I.tok _, ⟨s.toks + 1, by rw [List.size_toArray, hlen]⟩, q⟩
theorem call_list_of : CallR X (.type "list") (fun xs H Q => ∃ p ys, xs = [.ref p] ∧ (SqL X.K H p ys ∨ SqT X.K H p ys) ∧ ∀ l, H l = none → Q (.ref l) (upd H l (.lst ys))) := by
  intro pins s σ H xs us Q I r h
  obtain ⟨p, ys, rfl, hq, q⟩ := h
  obtain ⟨u, rfl, rx⟩ := vals1 r
  cases rx
  have fin : ∀ (its : List Value), Vals ys its → ys.length ≤ sizeLine → ∀ (h' : Heap) (c' : Nat), (∀ b o', s.heap.get? b = some o' → h'.get? b = some o') →
      h'.get? s.heap.objs.size = some { cls := .type "list", dict := none, data := .seq its.toArray c', slots := #[] } → EP X pins σ Q (.ref s.heap.objs.size) { s with heap := h' } := fun its r' hz h' c' kp e =>
    ⟨.ref s.heap.objs.size, _, I.laid (t' := s.toks) kp (Nat.le_refl _) (show ObjOk X.prog X.w _ h' _ (.lst ys) from ⟨hz, its, c', r', e⟩), rfl, q _ (I.hok.fresh (Nat.le_refl _))⟩
  rcases hq with hq | hq
  · obtain ⟨its, r', pl, hz⟩ := I.list hq
    have hlen := r'.length
    obtain ⟨o, ho, hc, n, hd⟩ := pl.isList
    exact call_list_seq p (.inl rfl) ho hc hd (fun h' c' kp e => fin its r' hz h' c' kp e) (by simp only [List.size_toArray] <;> omega)
  · obtain ⟨its, r', pl, hz⟩ := I.tuple hq
    have hlen := r'.length
    obtain ⟨o, ho, hc, n, hd⟩ := pl
    exact call_list_seq p (.inr rfl) ho hc hd (fun h' c' kp e => fin its r' hz h' c' kp e) (by simp only [List.size_toArray] <;> omega)
def tyV (K : PySem.W.Frag) (T : String) (x : V) (H : Hp) : Prop := match x with
  | .str _ => T = "str"
  | .int _ => T = "int"
  | .ref p => (T = "list" ∧ ∃ xs, SqL K H p xs) ∨ (T = "tuple" ∧ ∃ o, K.lookup p = some o ∧ o.cls = .type "tuple" ∧ o.dict = none) ∨
      (T = "dict" ∧ ((∃ kvs, H p = some (.dK kvs)) ∨ ∃ kvs, H p = some (.dT kvs))) ∨ (T = "set" ∧ ∃ S n, H p = some (.set S n))
  | _ => False
theorem tyV_is {pins : List (Addr × Obj)} {σ : St} {H : Hp} {s : Shared} {T : String} {x : V} {v : Value} (I : Inv X pins σ H s) (r : RelV x v) (ty : tyV X.K T x H) :
    s.TypeIs v T ∧ ∀ a, v = .ref a → ∃ ob, s.heap.get? a = some ob ∧ ob.dict = none := by
  cases x with
  | str z =>
    obtain ⟨t, rfl⟩ := r
    cases (show T = "str" from ty)
    exact ⟨typeIs_str s z t, fun _ e => nomatch e⟩
  | int i =>
    obtain ⟨t, rfl⟩ := r
    cases (show T = "int" from ty)
    exact ⟨typeIs_int s i t, fun _ e => nomatch e⟩
  | ref p =>
    cases r
    rcases ty with ⟨rfl, xs, hq⟩ | ⟨rfl, o, hk, hc, hd⟩ | ⟨rfl, hk⟩ | ⟨rfl, S, n, hk⟩
    · obtain ⟨its, _, pl, _⟩ := I.list hq
      refine ⟨pl.isList.typeIs, fun a e => ?_⟩
      cases e
      obtain ⟨o, n, e, c, hd, _⟩ := pl
      exact ⟨o, e, hd⟩
    · refine ⟨⟨o, I.kIn p o hk, hc⟩, fun a e => ?_⟩
      cases e
      exact ⟨o, I.kIn _ o hk, hd⟩
    · have z : ∃ o, s.heap.get? p = some o ∧ o.ExactDict := by
        rcases hk with ⟨kvs, hk⟩ | ⟨kvs, hk⟩
        · obtain ⟨_, _, _, _, o, _, _, e, ex, _⟩ := I.hok p _ hk
          exact ⟨o, e, ex⟩
        · obtain ⟨_, _, _, _, o, _, _, e, ex, _⟩ := I.hok p _ hk
          exact ⟨o, e, ex⟩
      obtain ⟨o, e, ex⟩ := z
      refine ⟨⟨o, e, ex.1⟩, fun a e2 => ?_⟩
      cases e2
      exact ⟨o, e, ex.2.1⟩
    · obtain ⟨o, _, _, _, e, ex, _⟩ := I.hok p _ hk
      refine ⟨⟨o, e, ex.1⟩, fun a e2 => ?_⟩
      cases e2
      exact ⟨o, e, ex.2.1⟩
  | _ => exact False.elim ty
def tBM0 (K : PySem.W.Frag) (T : String) (r : V → List V → Hp → VK → Prop) (to : TE) : TE := fun σ H Q => to σ H fun x H1 => tyV K T x H1 ∧ r x [] H1 Q
def tBM (K : PySem.W.Frag) (T : String) (r : V → List V → Hp → VK → Prop) (to : TE) (t : TA) : TE := fun σ H Q => to σ H fun x H1 => tyV K T x H1 ∧ t σ H1 fun xs H2 => r x xs H2 Q
variable {o e : Expr} {es : List Expr} {to : TE} {t : TA} {name : Str} {apos cpos : Pos} {T id : String} {r : V → List V → Hp → VK → Prop}
theorem pe_bm0 (pa : PlainAttrs T) (slot : Slot T name id) (hty : typeOf (.builtin id) = pure (.type "method_descriptor")) (hm : MtR X id r) (ho : PE X o to)
    (hbase : attributeBase o name X.env (eval o X.env) = eval o X.env := by rfl) (hline : (apos.endLine == cpos.line) = true := by rfl) : PE X (.Call (.Attribute o name apos) [] [] cpos) (tBM0 X.K T r to) := by
  intro pins s σ H Q I h
  refine wpAny_Call_method0_late hbase hline (thn (ho pins s σ H _ I h) fun v s1 ⟨x, H1, I1, r1, ty, q1⟩ => ?_)
  obtain ⟨h1, h2⟩ := tyV_is I1 r1 ty
  exact ⟨T, id, pa, slot, hty, h1, h2, Calls.callWith_builtin rfl (PySem.evalArgs_none (hm pins s1 σ H1 x [] v [] Q I1 r1 .nil q1))⟩
theorem pe_bm (pa : PlainAttrs T) (slot : Slot T name id) (hty : typeOf (.builtin id) = pure (.type "method_descriptor")) (hm : MtR X id r) (ho : PE X o to) (ha : PA X (e :: es) t)
    (hbase : attributeBase o name X.env (eval o X.env) = eval o X.env := by rfl)
    (hfew : ((backTo cpos (starEach (e :: es) X.env)).all (fun x => !x.1) && (backToKw cpos (keywordEach [] X.env)).all (fun x => x.1.isSome)
      && decide ((e :: es).length + ([] : List Keyword).length + (if ([] : List Keyword).isEmpty then 0 else 1) < 30)) = true := by rfl)
    (hline : (apos.endLine == cpos.line) = true := by rfl) (hs : starEach (e :: es) X.env = (false, eval e X.env) :: starEach es X.env := by rfl) (hplain : (backTo cpos (starEach es X.env)).any (·.1) = false := by rfl) :
    PE X (.Call (.Attribute o name apos) (e :: es) [] cpos) (tBM X.K T r to t) := by
  intro pins s σ H Q I h
  refine wpAny_Call_method_late hbase hfew hline rfl (thn (ho pins s σ H _ I h) fun v s1 ⟨x, H1, I1, r1, ty, q1⟩ => ?_)
  obtain ⟨h1, h2⟩ := tyV_is I1 r1 ty
  refine ⟨T, id, pa, slot, hty, h1, h2, ?_⟩
  have hA := ha cpos pins s1 σ H1 _ I1 q1
  rw [hs] at hA ⊢
  refine Calls.callWith_builtin (by show (false || (backTo cpos (starEach es X.env)).any (·.1)) = false; rw [hplain] <;> rfl) (Calls.evalArgs_plain ?_)
  exact thn hA fun us s2 ⟨vs, H2, I2, r2, q2⟩ => hm pins s2 σ H2 x vs v us Q I2 r1 r2 q2
end
end L2

namespace L2
open PySem PySem.Spec PyProof.Rows

def MtM (X : Cx) (id : String) (r : V → List V → Hp → VK → Prop) : Prop :=
  ∀ (pins : List (Addr × Obj)) (s : Shared) (σ : St) (H : Hp) (x : V) (xs : List V) (v : Value) (us : List Value) (Q : VK), Inv X pins σ H s → RelV x v → Vals xs us → r x xs H Q →
    wpAny (model X.prog X.w) X.A (call (.builtin id) (v :: us)) (EP X pins σ Q) X.xe s

theorem Vals.one : ∀ {x : V} {us : List Value}, Vals [x] us → ∃ u, us = [u] ∧ RelV x u
  | _, _, .cons r .nil => ⟨_, rfl, r⟩
theorem Vals.zero : ∀ {us : List Value}, Vals [] us → us = []
  | _, .nil => rfl
theorem Vals.reverse {xs : List V} {us : List Value} (h : Vals xs us) : Vals xs.reverse us.reverse := by
  induction h with
  | nil => exact .nil
  | cons r t ih => rw [List.reverse_cons, List.reverse_cons]; exact Vals.append ih (.cons r .nil)
theorem Vals.rep {xs : List V} {us : List Value} (h : Vals xs us) : ∀ k : Nat, Vals (List.replicate k xs).flatten (List.replicate k us).flatten
  | 0 => .nil
  | k + 1 => by
    rw [List.replicate_succ, List.replicate_succ, List.flatten_cons, List.flatten_cons]
    exact Vals.append h (Vals.rep h k)
theorem foldl_rep (its : List Value) : ∀ (k : Nat) (acc : List Value),
    List.foldl (fun x1 x2 => x1 ++ x2) acc.toArray (List.replicate k its.toArray) = (acc ++ (List.replicate k its).flatten).toArray
  | 0, acc => by simp
  | k + 1, acc => by
    have e : acc.toArray ++ its.toArray = (acc ++ its).toArray := by simp
    have e2 : (acc ++ its) ++ (List.replicate k its).flatten = acc ++ (List.replicate (k + 1) its).flatten := by
      rw [List.replicate_succ, List.flatten_cons, List.append_assoc]
    rw [← e2, ← foldl_rep its k (acc ++ its), ← e, List.replicate_succ, List.foldl_cons]

section
variable {X : Cx} {pins : List (Addr × Obj)} {σ : St} {H : Hp} {s : Shared} {l b : Addr} {xs ys zs : List V}

theorem Inv.lset {its its' : List Value} {n : Nat} {f : Array Value → Array Value} {t' : Nat} (I : Inv X pins σ H s) (hH : H l = some (.lst xs))
    (e : s.heap.get? l = some { cls := .type "list", data := .seq its.toArray n }) (hf : f its.toArray = its'.toArray) (hv : Vals ys its') (hz : ys.length ≤ sizeLine) :
    Inv X pins σ (upd H l (.lst ys)) { s with heap := s.heap.update l (Obj.mapSeq f), toks := t' } := by
  have q := PySem.IsL.update e f
  rw [hf] at q
  refine I.write (x := l) (e := l) (by rw [hH]; exact trivial) (.inl rfl) (fun b' u hb hu => (Heap.get?_update_other s.heap (Obj.mapSeq f) (Ne.symm hb)).trans hu) ⟨_, q⟩ ?_
  exact ⟨hz, its', _, hv, q⟩
theorem Inv.lnew {its : List Value} {t' : Nat} (I : Inv X pins σ H s) (hv : Vals ys its) (hz : ys.length ≤ sizeLine) :
    Inv X pins σ (upd H s.heap.objs.size (.lst ys)) { s with heap := s.heap.push { cls := .type "list", data := .seq its.toArray }, toks := t' } :=
  I.laid (fun _ _ q => Heap.get?_push_of_some _ q) (Nat.le_refl _) ⟨hz, its, 0, hv, Heap.get?_push_size _ rfl⟩
theorem Inv.fresh (I : Inv X pins σ H s) : H s.heap.objs.size = none := I.hok.fresh (Nat.le_refl _)
theorem Inv.lstM (I : Inv X pins σ H s) (hH : H l = some (.lst xs)) : xs.length ≤ sizeLine ∧ ∃ (its : List Value) (n : Nat), Vals xs its ∧ xs.length = its.length ∧ s.heap.get? l = some { cls := .type "list", data := .seq its.toArray n } := by
  obtain ⟨z, its, n, r, e⟩ := I.hok l _ hH
  exact ⟨z, its, n, r, r.length, e⟩

theorem notLongL {n : Nat} (h : n ≤ sizeLine) : Builtin.List.listTooLong n = false := by
  unfold Builtin.List.listTooLong
  exact decide_eq_false (by omega)
end

section
variable {X : Cx}

def rAppend : V → List V → Hp → VK → Prop := fun x vs H Q => ∃ l xs y, x = .ref l ∧ vs = [y] ∧ H l = some (.lst xs) ∧ xs.length < sizeLine ∧ Q .non (upd H l (.lst (xs ++ [y])))
theorem mt_append : MtM X "list.append" rAppend := by
  intro pins s σ H x vs v us Q I rx rv h
  obtain ⟨l, xs, y, rfl, rfl, hH, hz, q⟩ := h
  cases rx
  obtain ⟨u, rfl, ru⟩ := rv.one
  obtain ⟨z, its, n, r, hl, e⟩ := I.lstM hH
  refine call_meets F.slot_list_append ⟨_, e, rfl⟩ F.entry_list_append (F.args_list_append_2 _ _) (PySem.list_append l its.toArray n u (by rw [List.size_toArray]; omega)) ⟨e, ?_⟩
  refine ⟨.non, _, I.lset (its' := its ++ [u]) hH e (by simp) (r.append (.cons ru .nil)) ?_, rfl, q⟩
  rw [List.length_append, List.length_singleton]
  omega

def rReverse : V → List V → Hp → VK → Prop := fun x vs H Q => ∃ l xs, x = .ref l ∧ vs = [] ∧ H l = some (.lst xs) ∧ Q .non (upd H l (.lst xs.reverse))
theorem mt_reverse : MtM X "list.reverse" rReverse := by
  intro pins s σ H x vs v us Q I rx rv h
  obtain ⟨l, xs, rfl, rfl, hH, q⟩ := h
  cases rx
  have hus := rv.zero
  subst hus
  obtain ⟨z, its, n, r, hl, e⟩ := I.lstM hH
  refine call_meets F.slot_list_reverse ⟨_, e, rfl⟩ F.entry_list_reverse (F.args_list_reverse_1 _) (AutoSeq1.list_reverse_list_0 l its.toArray n (by rw [List.size_toArray]; omega)) ⟨e, ?_⟩
  refine ⟨.non, _, I.lset (its' := its.reverse) hH e (by simp) r.reverse ?_, rfl, q⟩
  rw [List.length_reverse]
  omega

def rCat : R2 := fun x y H Q => ∃ l b xs zs, x = .ref l ∧ y = .ref b ∧ H l = some (.lst xs) ∧ H b = some (.lst zs) ∧ xs.length + zs.length ≤ sizeLine ∧ ∀ p, H p = none → Q (.ref p) (upd H p (.lst (xs ++ zs)))
theorem op_cat : OpR X (binaryOp .Add) rCat := by
  intro pins s σ H x y v u Q I rx ry h
  obtain ⟨l, b, xs, zs, rfl, rfl, hH, hB, hz, q⟩ := h
  cases rx
  cases ry
  obtain ⟨z, its, n, r, hl, e⟩ := I.lstM hH
  obtain ⟨z2, its2, n2, r2, hl2, e2⟩ := I.lstM hB
  refine PySem.P.add_list e e2 ?_ (by rw [List.size_toArray, List.size_toArray]; omega)
  have ea : its.toArray ++ its2.toArray = (its ++ its2).toArray := by simp
  rw [ea]
  exact ⟨.ref _, _, I.lnew (t' := s.toks) (r.append r2) (by rw [List.length_append]; omega), rfl, q _ I.fresh⟩
def rRep : R2 := fun x y H Q => ∃ l k xs, x = .ref l ∧ y = .int k ∧ H l = some (.lst xs) ∧ -(2 ^ 63) ≤ k ∧ k < 2 ^ 63 ∧ xs.length * k.toNat ≤ sizeLine ∧
  ∀ p, H p = none → Q (.ref p) (upd H p (.lst (List.replicate k.toNat xs).flatten))
theorem len_rep {α : Type} (xs : List α) (k : Nat) : (List.replicate k xs).flatten.length = k * xs.length := by
  induction k with
  | zero => simp
  | succ k ih => rw [List.replicate_succ, List.flatten_cons, List.length_append, ih, Nat.succ_mul, Nat.add_comm]
theorem op_rep : OpR X (binaryOp .Mult) rRep := by
  intro pins s σ H x y v u Q I rx ry h
  obtain ⟨l, k, xs, rfl, rfl, hH, h1, h2, hz, q⟩ := h
  cases rx
  obtain ⟨t, rfl⟩ := ry
  obtain ⟨z, its, n, r, hl, e⟩ := I.lstM hH
  have hlen : its.toArray.size * k.toNat ≤ sizeLine := by rw [List.size_toArray, ← hl]; exact hz
  have hcap : ¬ its.toArray.size * k.toNat > (2 ^ 63 - 1) / 8 := by
    have : (sizeLine : Nat) ≤ (2 ^ 63 - 1) / 8 := by decide
    omega
  have hfit : ¬ (!Builtin.List.listFitsIndex k) = true := by
    rw [fitsIndex_both h1 h2]
    exact Bool.false_ne_true
  have hlong : ¬ Builtin.List.listTooLong (its.toArray.size * k.toNat) = true := by
    rw [notLongL hlen]
    exact Bool.false_ne_true
  have hnew : List.foldl (fun x1 x2 => x1 ++ x2) #[] (List.replicate (if its.toArray.isEmpty = true then 0 else k.toNat) its.toArray) = (List.replicate k.toNat its).flatten.toArray := by
    have f0 : ∀ m : Nat, List.foldl (fun x1 x2 => x1 ++ x2) #[] (List.replicate m its.toArray) = (List.replicate m its).flatten.toArray := fun m => by
      have := foldl_rep its m []
      rw [List.nil_append] at this
      exact this
    rw [f0]
    cases its with
    | nil => simp
    | cons a r' => rw [if_neg (by simp)]
  refine wpAny_binaryOp_repeat_ref (T := "list") (U := "int") (by decide) ⟨_, e, rfl⟩ (fun s' => typeIs_int s' k t) noFill_list_mul F.fills_int_mul F.slot_int_rmul repeat_list F.slot_int_index.lookup
    (call_meets F.slot_int_rmul (typeIs_int s k t) F.entry_int_rmul (F.args_int_rmul_2 _ _) (int___rmul___int_list k t l its.toArray n)
      ⟨e, rfl, ⟨_, e, rfl⟩, call_meets F.slot_list_mul ⟨_, e, rfl⟩ F.entry_list_mul (F.args_list_mul_2 _ _) (AutoListH.list___mul___list_int_3 l its.toArray n k t hfit hcap hlong) ⟨e, ?_⟩⟩)
  rw [hnew]
  exact ⟨.ref _, _, I.lnew (t' := s.toks) (r.rep k.toNat) (by rw [len_rep, Nat.mul_comm]; exact hz), rfl, q _ I.fresh⟩

end

section
variable {prog : Program} {w : World} {A : Around} {E : Value → Shared → Prop} {s : Shared}
end

section
variable {X : Cx}
end
end L2

namespace Att
open PySem PySem.W PySem.Calls PyProof.Rows

theorem ints_of_wellAll {P : Params} {h : Heap} : ∀ (ns : List Int) (vs : List Value), WellAll P h vs (ns.map WData.int) → IntsAre vs ns := by
  intro ns
  induction ns with
  | nil =>
    intro vs w
    rw [List.map_nil] at w
    cases w
    exact .nil
  | cons n ns ih =>
    intro vs w
    rw [List.map_cons] at w
    cases w with
    | cons a b =>
      cases a
      exact .cons _ _ (ih _ b)

theorem script_of {l : OpenLaw} {n : Nat} (hn : l.most = some n) {P : Params} {h : Heap} {args : List WData} {vals : List Value}
    (hpre : l.row.toRowW.claim.pre args = true) (hwl : WellAll P h vals args) :
    ∃ a vs ns, vals = [Value.ref a] ∧ args = [WData.list (ns.map WData.int)] ∧ h.get? a = some { cls := .type "list", data := .seq vs.toArray } ∧ IntsAre vs ns ∧ ns.length ≤ n := by
  have hsh : WShape.hasAll [] args [.list .int] = true := (pre_splitW hpre).1
  have hc : l.pre.holds [] { args := args } = true := (pre_splitW hpre).2
  obtain ⟨d, r, rfl, h1, h2⟩ := hasAllW_cons hsh
  obtain rfl := hasAllW_nil h2
  obtain ⟨xs, rfl, h3⟩ := hasW_list h1
  obtain ⟨ns, rfl⟩ := items_int h3
  have hlen : ns.length ≤ n := by
    unfold OpenLaw.pre at hc
    have h4 : (WTm.not (.lt (.lit (.int (n : Int))) (.len (.arg 0)))).holds [] { args := [.list (ns.map .int)] } = true := by
      have h4 := (holds_andW hc).1
      rw [hn] at h4
      exact h4
    have h5 := condW_of h4 (w_not (w_lt w_lit (w_len_list (w_arg rfl))))
    rw [List.length_map] at h5
    refine Nat.le_of_not_lt fun q => ?_
    have q' : (n : Int) < ((ns.length : Nat) : Int) := by omega
    first
      | (rw [decide_eq_true q'] at h5; exact absurd h5 (by decide))
      | (simp at h5; omega)
  cases hwl with
  | cons w1 w2 =>
    cases w2
    cases w1 with
    | list ho hall => exact ⟨_, _, ns, rfl, rfl, ho, ints_of_wellAll ns _ hall, hlen⟩

theorem post_true (l : OpenLaw) (args : List WData) : l.row.toRowW.claim.post args (.bool true) args = true :=
  postW_of (r := l.row.toRowW) (X := (true == true))
    (show WShape.has [] (.bool true) .bool = true by first | rfl | decide | simp [WShape.has, WShape.arms, WShape.armsAll])
    (show (WTm.eq .res (.lit (.bool true))).value [] { args := args, res := some (.bool true), after := args } = some (.bool (true == true)) from w_eq_bool (w_res rfl) w_lit) rfl

theorem attach_call {l : OpenLaw} {n : Nat} {q : Program} {loose : List Str} {XP : (Str → Option Value) → Heap → Prop} {YP : World → Heap → Prop} {d : DefRec}
    (hn : l.most = some n) (hdf : d.params.defaults = [])
    (call : ∀ (w : World) (s₀ s₁ : Shared) (mg mb : Str → Option Value) (fa : Addr) (o : Obj) (pm cd doc : Value) (a : Addr) (vs : List Value) (ns : List Int),
      Ground q loose [] XP w s₀ mg mb s₁.heap → YP w s₁.heap →
      s₁.heap.get? fa = some o → o.data = .func (docDef d.name d.params d.body d.scope pm cd doc) → s₁.heap.CodeRec cd d.name → mg d.name = some (.ref fa) →
      s₁.heap.get? a = some { cls := .type "list", data := .seq vs.toArray } → IntsAre vs ns → ns.length ≤ n → s₁.gens = #[] →
      codeAny (model l.prog w) callerA (.call (.ref fa) ⟨[.ref a], []⟩) (fun r s' => r = .ok (.ret (.bool true)) ∧ OldK s₁.heap s'.heap ∧ s'.os = s₁.os ∧ AllBare s'.gens) s₁) :
    WalkO q loose XP YP l.row.toRowW d [] (fun f vs => PySem.call f vs) := by
  intro w s₀ s₁ mg mb G Y fa o pm cd doc dV kV ho hd hcd hD hmg hg args vals as hpre hlay hrd hwl hlo
  obtain rfl : dV = .none := Dflts.none hD hdf
  obtain rfl : kV = .none := Dflts.noKw hD
  obtain ⟨a, vs, ns, rfl, rfl, hobj, hints, hlen⟩ := script_of hn hpre hwl
  refine enter_call (codeAny_mono (call w s₀ s₁ mg mb fa o pm cd doc a vs ns G Y ho (fd_plain hd) hcd hmg hobj hints hlen hg) fun r s' hq => ?_)
  obtain ⟨rfl, h2, h3, h4⟩ := hq
  exact ⟨.inl ⟨.bool true, .bool true, [], rfl, fun _ => rfl, .bool true, post_true l _, fun _ => ⟨List.Pairwise.nil, fun _ hm => (nomatch hm)⟩⟩, h2, h3, h4⟩

section
variable {prog : Program} {w : World} {A : Around} {E : Value → Shared → Prop} {s : Shared} {K : Frag}

end
end Att

namespace L2
open PySem PySem.Spec PyProof.Rows

theorem vals_ints : ∀ {vs : List Value} {ns : List Int}, IntsAre vs ns → Vals (ns.map V.int) vs
  | _, _, .nil => .nil
  | _, _, .cons n t h => .cons ⟨t, rfl⟩ (vals_ints h)

def Only (H : Hp) : Prop := ∀ b, H b = none ∨ ∃ o xs, H b = some (.frz o (.lst xs))

theorem law_call {P : Program} {w : World} {K : PySem.W.Frag} {mg mb : Str → Option Value} {CX : CXT} {k : Nat} {fa a : Addr} {fd : FuncData} {x : Str} {sp : Sp} {s₁ : Shared} {vs : List Value} {ns : List Int}
    (KX : K.In s₁.heap) (hns : s₁.heap.Ns mainGlobals mg) (hb : s₁.heap.Ns builtinsNs mb) (hbb : ∀ x : Str, x ≠ "__name__" → mb x = bootBuiltins x) (hlim : s₁.heap.NoLimit) (hg : s₁.gens = #[])
    (ha : s₁.heap.get? a = some { cls := .type "list", data := .seq vs.toArray }) (hi : IntsAre vs ns) (hl : ns.length ≤ sizeLine) (hr : Room k callerA)
    (F : ∀ base : Heap, K.In base → base.Ns mainGlobals mg → FnOk P w K mg base CX k fa fd [x] sp) (hbind : ∀ (s : Shared) (u : Value), BindsTo s fd ⟨[u], []⟩ [(x, u)])
    (hsp : ∀ H : Hp, Only H → SqL K H a (ns.map V.int) → sp [.ref a] H (fun v _ => v = .bl true) fun _ _ _ => False)
    (hCX : ∀ H e s', CX [] H s₁ (fun _ _ _ => False) e s' → False) :
    codeAny (model P w) callerA (.call (.ref fa) ⟨[.ref a], []⟩) (fun r s' => r = .ok (.ret (.bool true)) ∧ OldK s₁.heap s'.heap ∧ s'.os = s₁.os ∧ AllBare s'.gens) s₁ := by
  have rv := vals_ints hi
  have lenV := hi.length
  -- from an abstract heap in which nothing but the script may be tracked
  have core : ∀ H : Hp, Only H → SqL K H a (ns.map V.int) → HOk P w H s₁.heap → (∀ b, H b ≠ none → b = a) → (H a ≠ none → K.lookup a = none) →
      codeAny (model P w) callerA (.call (.ref fa) ⟨[.ref a], []⟩) (fun r s' => r = .ok (.ret (.bool true)) ∧ OldK s₁.heap s'.heap ∧ s'.os = s₁.os ∧ AllBare s'.gens) s₁ := by
    intro H hO hS hok hA hK
    have base_of : ∀ {b : Addr} {o : Obj}, s₁.heap.get? b = some o → H b = none → (hidT s₁.heap H).get? b = some o := fun e n => hidT_get e n
    have noA : ∀ {b : Addr} {o : Obj} {es : Array DictEntry} {ep : Nat}, s₁.heap.get? b = some o → o.data = .dict es ep → H b = none := fun {b o es ep} e d => by
      cases q : H b with
      | none => rfl
      | some u =>
        have e' : b = a := hA b (by rw [q]; simp)
        subst e'
        rw [ha] at e; cases e
        have d' : Data.seq vs.toArray _ = Data.dict es ep := d
        cases d'
    have nsK : ∀ {b : Addr} {m : Str → Option Value}, s₁.heap.Ns b m → (hidT s₁.heap H).Ns b m := fun {b m} ⟨o, es, ep, e, d, r⟩ => ⟨o, es, ep, base_of e (noA e d), d, r⟩
    have hKb : K.In (hidT s₁.heap H) := fun b o e => base_of (KX b o e) (by
      cases q : H b with
      | none => rfl
      | some u =>
        have e' : b = a := hA b (by rw [q]; simp)
        subst e'
        rw [hK (by rw [q]; simp)] at e; cases e)
    have hM : Mod K mg (hidT s₁.heap H) := ⟨hKb, nsK hns, ⟨mb, nsK hb, hbb⟩, let ⟨mc, h1, h2⟩ := hlim; ⟨mc, nsK h1, h2⟩⟩
    have e0 : Env0 P w K mg (hidT s₁.heap H) callerA [] s₁ H := ⟨rfl, hM, fun b o e => of_hidT e, Nat.le_of_eq (hidT_size _ _), trivial, fun b hb => absurd (show b ∈ ([] : List Addr) from hb) (by simp), hok, .of_eq hg⟩
    refine codeAny_mono ((F _ hKb (nsK hns)).run callerA [] s₁ H ⟨[.ref a], []⟩ [.ref a] [.ref a] _ _ hr e0 (hbind s₁ (.ref a)) (.cons rfl .nil) (hsp H hO hS)) fun r s' h => ?_
    cases r with
    | error e => exact (hCX H e s' h).elim
    | ok fl =>
      cases fl with
      | next => exact False.elim h
      | brk => exact False.elim h
      | cont => exact False.elim h
      | ret u =>
        obtain ⟨v, H', os, bare, un, hok', r', q⟩ := h
        have q' : v = .bl true := q
        subst q'
        obtain rfl : u = Value.bool true := r'
        refine ⟨rfl, OldK.of_keep fun b o e => ?_, os, bare⟩
        cases q : H b with
        | none => exact un.keep b o e q (by intro z; exact absurd (show b ∈ ([] : List Addr) from z) (by simp)) (by simp)
        | some u =>
          rcases hO b with z | ⟨ob, xs, z⟩
          · rw [q] at z; cases z
          · have z2 := un.frzs b ob _ z
            obtain ⟨e1, _⟩ := hok b _ z
            obtain ⟨e2, _⟩ := hok' b _ z2
            rw [e] at e1; cases e1
            exact e2
  cases hk : K.lookup a with
  | some o =>
    -- the script is one of the module's own objects
    have e := KX a o hk
    rw [ha] at e
    cases e
    refine core (fun _ => none) (fun _ => .inl rfl) (.inr ⟨_, vs.toArray, _, hk, rfl, rfl, rfl, by rw [List.size_toArray, lenV]; exact hl, by simpa using rv⟩) (fun b u z => by have z' : (none : Option HO) = some u := z; cases z') (fun b z => absurd rfl z) fun z => absurd rfl z
  | none =>
    refine core (fun b => if b = a then some (.frz { cls := .type "list", data := .seq vs.toArray } (.lst (ns.map V.int))) else none) (fun b => ?_) (.inl (.inr ⟨{ cls := .type "list", data := .seq vs.toArray }, if_pos rfl⟩)) (fun b u z => ?_) (fun b z => ?_) fun _ => hk
    · by_cases hb : b = a
      · exact .inr ⟨_, _, if_pos hb⟩
      · exact .inl (if_neg hb)
    · by_cases hb : b = a
      · have z' := (if_pos hb).symm.trans z
        cases z'
        subst hb
        exact ⟨ha, by rw [List.length_map]; exact hl, vs, _, rv, ha⟩
      · have z' := (if_neg hb).symm.trans z
        cases z'
    · by_cases hb : b = a
      · exact hb
      · exact absurd (if_neg hb) z
end L2

namespace L2
open PySem PySem.Spec PyProof.Rows

theorem walk_of {l : PySem.W.OpenLaw} {n k : Nat} {q : Program} {loose : List Str} {XP : (Str → Option Value) → Heap → Prop} {YP : World → Heap → Prop} {d : DefRec} {K : Params → PySem.W.Frag} {CX : World → CXT} {sp : World → Sp} {x : Str}
    (hn : l.most = some n) (hn2 : n ≤ sizeLine) (hdf : d.params.defaults = []) (hr : Room k callerA)
    (hY : ∀ (w : World) (h : Heap), YP w h → (K w.params).In h)
    (F : ∀ (w : World) (mg : Str → Option Value) (fa : Addr) (h : Heap), (K w.params).In h → h.Ns mainGlobals mg → mg d.name = some (.ref fa) →
      ∃ fd : FuncData, (∀ (s : Shared) (u : Value), BindsTo s fd ⟨[u], []⟩ [(x, u)]) ∧
        ∀ base : Heap, (K w.params).In base → base.Ns mainGlobals mg → FnOk l.prog w (K w.params) mg base (CX w) k fa fd [x] (sp w))
    (hsp : ∀ (w : World) (H : Hp) (a : Addr) (ns : List Int), ns.length ≤ n → Only H → SqL (K w.params) H a (ns.map V.int) → sp w [.ref a] H (fun v _ => v = .bl true) fun _ _ _ => False)
    (hCX : ∀ (w : World) (H : Hp) (s : Shared) (e : Value) (s' : Shared), CX w [] H s (fun _ _ _ => False) e s' → False) :
    PySem.W.WalkO q loose XP YP l.row.toRowW d [] (fun f vs => PySem.call f vs) := by
  refine Att.attach_call hn hdf fun w s₀ s₁ mg mb fa o pm cd doc a vs ns G Y ho hd hcd hmg hobj hints hlen hg => ?_
  have KX := hY w _ Y
  obtain ⟨fd, hb, hF⟩ := F w mg fa _ KX G.T.g hmg
  exact law_call KX G.T.g G.T.b G.T.builtins G.T.nolimit hg hobj hints (Nat.le_trans hlen hn2) hr hF hb (fun H hO hS => hsp w H a ns hlen hO hS) fun H e s' => hCX w H s₁ e s'
end L2


namespace L2
open PySem PySem.Spec PyProof.Rows

def inClass (s : Stmt) (j : Nat) : Stmt := match s with
  | .ClassDef _ _ _ body _ _ _ _ _ _ _ => body.getD j (.Pass ⟨0, 0, 0, 0⟩)
  | _ => .Pass ⟨0, 0, 0, 0⟩
def defArgs (s : Stmt) : Arguments := match s with
  | .FunctionDef _ a _ _ _ _ _ _ _ _ => a
  | _ => { posonlyargs := [], args := [], vararg := none, kwonlyargs := [], kw_defaults := [], kwarg := none, defaults := [] }
def defBody (s : Stmt) : List Stmt := match s with
  | .FunctionDef _ _ b _ _ _ _ _ _ _ => b
  | _ => []
def defScope (s : Stmt) : Scope := match s with
  | .FunctionDef _ _ _ _ _ _ sc _ _ _ => sc
  | _ => { kind := .function, names := [], isGenerator := false, isCoroutine := false }

abbrev CX0 : CXT := fun _ _ _ _ _ _ => False
abbrev E0 : XK := fun _ _ _ => False
structure Fun (K : PySem.W.Frag) (x qual : Str) (st : Stmt) (f : Addr) (fd : FuncData) : Prop where
  ex : ∃ (oc : Value) (od : Option Addr) (kV doc pm : Value) (an : Option Addr) (cdv ct : Value) (osl : Array (Option Value)),
    fd = PySem.W.fnOf x qual (defArgs st) (defBody st) (defScope st) .none kV doc pm an cdv ct ∧ K.lookup f = some ⟨oc, od, .func fd, osl⟩ ∧ PySem.W.codeIn K cdv qual = true
  kp : PySem.W.keepIn K (.ref f) = true
section
variable {P : Program} {w : World} {K : PySem.W.Frag} {mg : Str → Option Value} {base : Heap}
theorem Fun.ok {x qual : Str} {st : Stmt} {f : Addr} {fd : FuncData} {N ps : List Str} {k : Nat} {sp : Sp} (F : Fun K x qual st f fd) (S : FnScope N ps (defScope st)) (len : ∀ vs H Q E, sp vs H Q E → vs.length = ps.length)
    (hbody : ∀ (cdv : Value) (A : Around) (outer : List Env) (s : Shared) (H : Hp) (vs : List V) (Q : VK) (E : XK), Room k (A.deeper (envOfC qual (defScope st) s.heap.objs.size f cdv)) → sp vs H Q E →
      ∃ t, PSs (cxOf CX0 P w K mg base N qual (defScope st) f cdv A outer s H E).nox (defBody st) t ∧ t { nx := fun _ H' => Q .non H', rt := Q } (start N vs) H) : FnOk P w K mg base CX0 (k + 1) f fd ps sp := by
  obtain ⟨oc, od, kV, doc, pm, an, cdv, ct, osl, rfl, lk, hcd⟩ := F.ex
  refine fn_of lk hcd S len fun A outer s H vs Q E hr hsp => ?_
  obtain ⟨t, h, q⟩ := hbody cdv A outer s H vs Q E hr hsp
  exact ⟨t, h.nox, q⟩
theorem Fun.binds {x qual : Str} {st : Stmt} {f : Addr} {fd : FuncData} {ps : List Str} (F : Fun K x qual st f fd)
    (h : ∀ (kV doc pm : Value) (an : Option Addr) (cdv ct : Value) (us : List Value), us.length = ps.length → bindArgs (PySem.W.fnOf x qual (defArgs st) (defBody st) (defScope st) .none kV doc pm an cdv ct) ⟨us, []⟩ = pure (ps.zip us)) : Binds K fd ps [] := by
  obtain ⟨oc, od, kV, doc, pm, an, cdv, ct, osl, rfl, lk, hcd⟩ := F.ex
  exact .all (h kV doc pm an cdv ct)
theorem fun_mk {x qual : Str} {st : Stmt} {f : Addr} {oc : Value} {od an : Option Addr} {osl : Array (Option Value)} {kV doc pm cdv ct : Value} (l : K.lookup f = some ⟨oc, od, .func (PySem.W.fnOf x qual (defArgs st) (defBody st) (defScope st) .none kV doc pm an cdv ct), osl⟩)
    (c : PySem.W.codeIn K cdv qual = true) (k : PySem.W.keepIn K (.ref f) = true) : Fun K x qual st f (PySem.W.fnOf x qual (defArgs st) (defBody st) (defScope st) .none kV doc pm an cdv ct) := ⟨⟨oc, od, kV, doc, pm, an, cdv, ct, osl, rfl, l, c⟩, k⟩
end
theorem hu_of {A : Around} {k : Nat} (hr : Room k A) : A.units + 1 < cLine := Nat.lt_of_le_of_lt (Nat.add_le_add_left (by decide : 1 ≤ 64) _) hr.units
section
variable {X : Cx}
theorem pv (i : Nat) {x : Str} {pos : Pos} (hN : X.N[i]? = some x := by rfl) (hv : Vis X.env.scope x := by first | exact Or.inl rfl | exact Or.inr (Or.inl rfl) | exact Or.inr (Or.inr rfl)) (hd : (x == ("__debug__" : Str)) = false := by decide)
    (hcd : (x == ("__classdict__" : Str)) = false := by decide) : PE X (.Name x pos) (tVar i) := pe_var hN hv hd hcd
end

theorem iteF {A B : Prop} (h : B) : if false = true then A else B := by
  rw [if_neg Bool.false_ne_true]
  exact h
theorem iteT {A B : Prop} (h : A) : if true = true then A else B := by
  rw [if_pos rfl]
  exact h
theorem ite2 {c A B : Prop} [Decidable c] (h1 : c → A) (h2 : ¬ c → B) : if c then A else B := by
  by_cases h : c
  · rw [if_pos h]
    exact h1 h
  · rw [if_neg h]
    exact h2 h
def Same (H H' : Hp) : Prop := ∀ b o, H b = some o → H' b = some o
theorem Same.refl (H : Hp) : Same H H := fun _ _ h => h
theorem Same.trans {H H1 H2 : Hp} (a : Same H H1) (b : Same H1 H2) : Same H H2 := fun c o h => b c o (a c o h)
theorem Same.free {H H' : Hp} (e : Same H H') {l : Addr} (h : H' l = Option.none) : H l = Option.none := by
  cases q : H l with
  | none => rfl
  | some o =>
    rw [e l o q] at h
    cases h
theorem Same.seq {K : PySem.W.Frag} {H H' : Hp} {a : Addr} {xs : List V} (e : Same H H') (h : SqL K H a xs) : SqL K H' a xs := by
  rcases h with (h | ⟨o, h⟩) | h
  · exact .inl (.inl (e _ _ h))
  · exact .inl (.inr ⟨o, e _ _ h⟩)
  · exact .inr h

end L2

set_option maxHeartbeats 4000000
namespace G
open PySem L2
section
variable {D : Ends} {σ : St} {H H1 : Hp} {Q : VK} {t u : TS} {ta tb tc te : TE} {n : St → Hp → Prop} {r : VK} {b c : St → Hp → Prop}
theorem i_seq (h : t ⟨u ⟨n, r, b, c⟩, r, b, c⟩ σ H) : tSeq t u ⟨n, r, b, c⟩ σ H := h
theorem i_next (h : n σ H) : tNext ⟨n, r, b, c⟩ σ H := h
theorem i_break (h : b σ H) : tBreak ⟨n, r, b, c⟩ σ H := h
theorem i_cont (h : c σ H) : tCont ⟨n, r, b, c⟩ σ H := h
theorem i_drop (h : te σ H fun _ H1 => n σ H1) : tDrop te ⟨n, r, b, c⟩ σ H := h
theorem i_ret (h : te σ H r) : tRet te ⟨n, r, b, c⟩ σ H := h
theorem i_retN (h : r .non H) : tRetN ⟨n, r, b, c⟩ σ H := h
theorem i_if {c' : TT} (h : c' σ H fun k H1 => if k = true then t ⟨n, r, b, c⟩ σ H1 else u ⟨n, r, b, c⟩ σ H1) : tIfS c' t u ⟨n, r, b, c⟩ σ H := h
theorem i_asg {g : TG} (h : te σ H fun x H1 => g x σ H1 n) : tAsg te g ⟨n, r, b, c⟩ σ H := h
theorem i_C {v : V} (h : Q v H) : tC v σ H Q := h
theorem i_op {f : R2} (h : ta σ H fun x H1 => tb σ H1 fun y H2 => f x y H2 Q) : tOp f ta tb σ H Q := h
theorem i_un {f : V → Hp → VK → Prop} (h : ta σ H fun x H1 => f x H1 Q) : tUn f ta σ H Q := h
def kB (q : Bool → Hp → Prop) : VK := fun x H' => ∃ k, x = .bl k ∧ q k H'
theorem i_B {k : Bool} {q : Bool → Hp → Prop} (h : q k H) : kB q (.bl k) H := ⟨k, rfl, h⟩
theorem i_test {q : Bool → Hp → Prop} (h : te σ H (kB q)) : tTest te σ H q := h
theorem i_tB {q : Bool → Hp → Prop} (h : te σ H (kB q)) : tB te σ H q := h
theorem i_and {t u : TT} {q : Bool → Hp → Prop} (h : t σ H fun k H1 => if k = true then u σ H1 q else q false H1) : tAnd t u σ H q := h
theorem i_or {t u : TT} {q : Bool → Hp → Prop} (h : t σ H fun k H1 => if k = true then q true H1 else u σ H1 q) : tOr t u σ H q := h
theorem i_not {t : TT} {q : Bool → Hp → Prop} (h : t σ H fun k H1 => q (!k) H1) : tNot t σ H q := h
theorem i_andV (h : ta σ H (kB fun k H1 => if k = true then tb σ H1 Q else Q (.bl false) H1)) : tAndV ta tb σ H Q := h
theorem i_orV (h : ta σ H (kB fun k H1 => if k = true then Q (.bl true) H1 else tb σ H1 Q)) : tOrV ta tb σ H Q := h
theorem i_notV (h : ta σ H (kB fun k H1 => Q (.bl (!k)) H1)) : tNotV ta σ H Q := h
theorem i_ifx {t : TT} (h : t σ H fun k H1 => if k = true then ta σ H1 Q else tb σ H1 Q) : tIf t ta tb σ H Q := h
theorem i_I0 {g : Int → Int → V} {i j : Int} (h : Q (g i j) H) : rI0 g (.int i) (.int j) H Q := ⟨i, j, rfl, rfl, h⟩
theorem i_I {C : Int → Int → Prop} {g : Int → Int → V} {i j : Int} (hc : C i j) (h : Q (g i j) H) : rI C g (.int i) (.int j) H Q := ⟨i, j, rfl, rfl, hc, h⟩
theorem i_U {g : Int → V} {i : Int} (h : Q (g i) H) : rU g (.int i) H Q := ⟨i, rfl, h⟩
theorem i_eqI {i j : Int} (h : Q (.bl (decide (i = j))) H) : rEq (.int i) (.int j) H Q := ⟨rfl, by rw [show decide (V.int i = V.int j) = decide (i = j) from decide_eq_decide.mpr ⟨fun e => V.int.inj e, fun e => by rw [e]⟩]; exact h⟩
theorem i_eqS {i j : Str} (h : Q (.bl (decide (i = j))) H) : rEq (.str i) (.str j) H Q := ⟨rfl, by rw [show decide (V.str i = V.str j) = decide (i = j) from decide_eq_decide.mpr ⟨fun e => V.str.inj e, fun e => by rw [e]⟩]; exact h⟩
theorem i_eqB {i j : Bool} (h : Q (.bl (decide (i = j))) H) : rEq (.bl i) (.bl j) H Q := ⟨rfl, by rw [show decide (V.bl i = V.bl j) = decide (i = j) from decide_eq_decide.mpr ⟨fun e => V.bl.inj e, fun e => by rw [e]⟩]; exact h⟩
theorem i_eqNI {j : Int} (h : Q (.bl false) H) : rEq .non (.int j) H Q := ⟨rfl, h⟩
theorem i_eqIN {j : Int} (h : Q (.bl false) H) : rEq (.int j) .non H Q := ⟨rfl, h⟩
theorem i_neI {i j : Int} (h : Q (.bl (!decide (i = j))) H) : rNe (.int i) (.int j) H Q := ⟨rfl, by rw [show decide (V.int i = V.int j) = decide (i = j) from decide_eq_decide.mpr ⟨fun e => V.int.inj e, fun e => by rw [e]⟩]; exact h⟩
theorem i_neS {i j : Str} (h : Q (.bl (!decide (i = j))) H) : rNe (.str i) (.str j) H Q := ⟨rfl, by rw [show decide (V.str i = V.str j) = decide (i = j) from decide_eq_decide.mpr ⟨fun e => V.str.inj e, fun e => by rw [e]⟩]; exact h⟩
theorem i_neB {i j : Bool} (h : Q (.bl (!decide (i = j))) H) : rNe (.bl i) (.bl j) H Q := ⟨rfl, by rw [show decide (V.bl i = V.bl j) = decide (i = j) from decide_eq_decide.mpr ⟨fun e => V.bl.inj e, fun e => by rw [e]⟩]; exact h⟩
def rIsN : R2 := fun x y H Q => y = .non ∧ Q (.bl (decide (x = .non))) H
def rNotN : R2 := fun x y H Q => y = .non ∧ Q (.bl (!decide (x = .non))) H
theorem i_isN0 (h : Q (.bl true) H) : rIsN .non .non H Q := ⟨rfl, h⟩
theorem i_isN1 {i : Int} (h : Q (.bl false) H) : rIsN (.int i) .non H Q := ⟨rfl, h⟩
theorem i_isN2 {i : Str} (h : Q (.bl false) H) : rIsN (.str i) .non H Q := ⟨rfl, h⟩
theorem i_isN3 {i : Addr} (h : Q (.bl false) H) : rIsN (.ref i) .non H Q := ⟨rfl, h⟩
theorem i_isN4 {i : Bool} (h : Q (.bl false) H) : rIsN (.bl i) .non H Q := ⟨rfl, h⟩
theorem i_notN0 (h : Q (.bl false) H) : rNotN .non .non H Q := ⟨rfl, h⟩
theorem i_notN1 {i : Int} (h : Q (.bl true) H) : rNotN (.int i) .non H Q := ⟨rfl, h⟩
theorem i_notN2 {i : Str} (h : Q (.bl true) H) : rNotN (.str i) .non H Q := ⟨rfl, h⟩
theorem i_notN3 {i : Addr} (h : Q (.bl true) H) : rNotN (.ref i) .non H Q := ⟨rfl, h⟩
theorem i_notN4 {i : Bool} (h : Q (.bl true) H) : rNotN (.bl i) .non H Q := ⟨rfl, h⟩
theorem i_iteT {A B : Prop} (h : A) : if true = true then A else B := iteT h
theorem i_iteF {A B : Prop} (h : B) : if false = true then A else B := iteF h
theorem i_iteNT {A B : Prop} (h : B) : if (!true) = true then A else B := iteF h
theorem i_iteNF {A B : Prop} (h : A) : if (!false) = true then A else B := iteT h
theorem ifd {p A B : Prop} [Decidable p] (h1 : p → A) (h2 : ¬ p → B) : if decide p = true then A else B := ite2 (fun e => h1 (of_decide_eq_true e)) (fun e => h2 (fun q => e (decide_eq_true q)))
theorem ifnd {p A B : Prop} [Decidable p] (h1 : ¬ p → A) (h2 : p → B) : if (!decide p) = true then A else B := ite2 (fun e => h1 (by simpa using e)) (fun e => h2 (by simpa using e))
theorem i_nil {q : List V → Hp → Prop} (h : q [] H) : tNil σ H q := h
theorem i_cons {q : List V → Hp → Prop} {t : TA} (h : ta σ H fun x H1 => t σ H1 fun xs H2 => q (x :: xs) H2) : tCons ta t σ H q := h
theorem i_lst {t : TA} (h : t σ H fun xs H1 => xs.length ≤ sizeLine ∧ ∀ p, H1 p = none → Q (.ref p) (upd H1 p (.lst xs))) : tLst t σ H Q := h
theorem i_tup {t : TA} (h : t σ H fun xs H1 => xs.length ≤ sizeLine ∧ ∀ p, H1 p = none → Q (.ref p) (upd H1 p (.tup xs))) : tTup t σ H Q := h
theorem i_call {t : TA} {sp : Sp} {dvs : List V} {E : XK} (h : t σ H fun vs H1 => sp (vs ++ dvs) H1 Q E) : tCall sp dvs E t σ H Q := h
theorem i_CB {t : TA} {f : List V → Hp → VK → Prop} (h : t σ H fun vs H1 => f vs H1 Q) : tCB f t σ H Q := h
theorem i_make {t : TA} {sp : Sp} {dvs : List V} {E : XK} {C : Addr} (h : t σ H fun vs H1 => ∀ x dx, H1 x = none → H1 dx = none → dx ≠ x → sp (.ref x :: (vs ++ dvs)) (upd (upd H1 dx (.own x)) x (.ins C dx [])) (fun v H2 => v = .non ∧ Q (.ref x) H2) E) : tMake C sp dvs E t σ H Q := h
def kFld (K : PySem.W.Frag) (f : Str) (Q : VK) : VK := fun x H1 => ∃ a C dx fs v, x = .ref a ∧ H1 a = some (.ins C dx fs) ∧ Cls K C ∧ NoAttr K C f ∧ fs.lookup f = some v ∧ Q v H1
theorem i_fld {K : PySem.W.Frag} {f : Str} (h : ta σ H (kFld K f Q)) : tFld K ta f σ H Q := h
theorem i_fldK {K : PySem.W.Frag} {f : Str} {a C dx : Addr} {fs : List (Str × V)} {v : V} (h : H a = some (.ins C dx fs)) (hc : Cls K C) (hn : NoAttr K C f) (hl : fs.lookup f = some v) (q : Q v H) : kFld K f Q (.ref a) H := ⟨a, C, dx, fs, v, rfl, h, hc, hn, hl, q⟩
theorem i_sfld {K : PySem.W.Frag} {f : Str} {tv : TE} (h : tv σ H fun y H1 => ta σ H1 fun x H2 => ∃ a C dx fs, x = .ref a ∧ H2 a = some (.ins C dx fs) ∧ Cls K C ∧ NoAttr K C f ∧ fs.length < 1000 ∧ n σ (upd H2 a (.ins C dx (putF f y fs)))) : sFld K ta tv f ⟨n, r, b, c⟩ σ H := h
theorem i_meth {C : Addr} {m : Str} {sp : Sp} {dvs : List V} {E : XK} {t : TA} (h : ta σ H fun x H1 => ∃ a dx fs, x = .ref a ∧ H1 a = some (.ins C dx fs) ∧ fs.lookup m = none ∧ t σ H1 fun vs H2 => sp (x :: (vs ++ dvs)) H2 Q E) : tMeth C m sp dvs E ta t σ H Q := h
theorem i_noPart {q : Option Int → Hp → Prop} (h : q none H) : tNoPart σ H q := h
def kI (q : Int → Hp → Prop) : VK := fun x H1 => ∃ i, x = .int i ∧ q i H1
theorem i_part {q : Option Int → Hp → Prop} (h : te σ H (kI fun i => q (some i))) : tPart te σ H q := h
theorem i_kI {i : Int} {q : Int → Hp → Prop} (h : q i H) : kI q (.int i) H := ⟨i, rfl, h⟩
theorem i_sl {f : V → Option Int → Option Int → Hp → VK → Prop} {tl th : TO} (h : te σ H fun x H1 => tl σ H1 fun l H2 => th σ H2 fun u H3 => f x l u H3 Q) : tSl f te tl th σ H Q := h
theorem i_bm {K : PySem.W.Frag} {T : String} {f : V → List V → Hp → VK → Prop} {to : TE} {t : TA} (h : to σ H fun x H1 => tyV K T x H1 ∧ t σ H1 fun xs H2 => f x xs H2 Q) : tBM K T f to t σ H Q := h
theorem i_bm0 {K : PySem.W.Frag} {T : String} {f : V → List V → Hp → VK → Prop} {to : TE} (h : to σ H fun x H1 => tyV K T x H1 ∧ f x [] H1 Q) : tBM0 K T f to σ H Q := h
theorem i_for {wi : TI} {g : TG} {tb : TS} (h : wi σ H fun J H1 => ∃ W : Nat → Nat → St → Hp → Prop, (∃ m, W 0 m σ H1) ∧ ∀ i m σ H, W i m σ H →
  (J.stop i H ∧ n σ H) ∨ (J.go i H ∧ ∃ N : St → Hp → Prop, (∀ σ' H', N σ' H' → ∃ m', m' < m ∧ W (i + 1) m' σ' H') ∧ ∀ x H', J.yld i H x H' → g x σ H' fun σ2 H2 => tb ⟨N, r, n, N⟩ σ2 H2)) : tFor wi g tb ⟨n, r, b, c⟩ σ H := h
theorem i_iL {K : PySem.W.Frag} {R : It → Hp → Prop} (h : te σ H fun x H1 => ∃ a, x = .ref a ∧ (∃ xs, SqL K H1 a xs) ∧ R (Itl K a) H1) : iList K te σ H R := h
theorem i_iR {ta : TA} {R : It → Hp → Prop} (h : ta σ H fun vs H1 => ∃ j : Int, vs = [.int j] ∧ -(2 ^ 62) ≤ j ∧ j < 2 ^ 62 ∧ R (Itr 0 j.toNat) H1) : iRng1 ta σ H R := h
end
theorem i_v0 {v : V} {l : St} {H : Hp} {Q : VK} (h : Q v H) : tVar 0 (some v :: l) H Q := ⟨v, rfl, h⟩
theorem i_g0 {y : Option V} {v : V} {l : St} {H : Hp} {Q : St → Hp → Prop} (h : Q (some v :: l) H) : gName 0 v (y :: l) H Q := h
theorem i_v1 {x0 : Option V} {v : V} {l : St} {H : Hp} {Q : VK} (h : Q v H) : tVar 1 (x0 :: some v :: l) H Q := ⟨v, rfl, h⟩
theorem i_g1 {x0 : Option V} {y : Option V} {v : V} {l : St} {H : Hp} {Q : St → Hp → Prop} (h : Q (x0 :: some v :: l) H) : gName 1 v (x0 :: y :: l) H Q := h
theorem i_v2 {x0 x1 : Option V} {v : V} {l : St} {H : Hp} {Q : VK} (h : Q v H) : tVar 2 (x0 :: x1 :: some v :: l) H Q := ⟨v, rfl, h⟩
theorem i_g2 {x0 x1 : Option V} {y : Option V} {v : V} {l : St} {H : Hp} {Q : St → Hp → Prop} (h : Q (x0 :: x1 :: some v :: l) H) : gName 2 v (x0 :: x1 :: y :: l) H Q := h
theorem i_v3 {x0 x1 x2 : Option V} {v : V} {l : St} {H : Hp} {Q : VK} (h : Q v H) : tVar 3 (x0 :: x1 :: x2 :: some v :: l) H Q := ⟨v, rfl, h⟩
theorem i_g3 {x0 x1 x2 : Option V} {y : Option V} {v : V} {l : St} {H : Hp} {Q : St → Hp → Prop} (h : Q (x0 :: x1 :: x2 :: some v :: l) H) : gName 3 v (x0 :: x1 :: x2 :: y :: l) H Q := h
theorem i_v4 {x0 x1 x2 x3 : Option V} {v : V} {l : St} {H : Hp} {Q : VK} (h : Q v H) : tVar 4 (x0 :: x1 :: x2 :: x3 :: some v :: l) H Q := ⟨v, rfl, h⟩
theorem i_g4 {x0 x1 x2 x3 : Option V} {y : Option V} {v : V} {l : St} {H : Hp} {Q : St → Hp → Prop} (h : Q (x0 :: x1 :: x2 :: x3 :: some v :: l) H) : gName 4 v (x0 :: x1 :: x2 :: x3 :: y :: l) H Q := h
theorem i_v5 {x0 x1 x2 x3 x4 : Option V} {v : V} {l : St} {H : Hp} {Q : VK} (h : Q v H) : tVar 5 (x0 :: x1 :: x2 :: x3 :: x4 :: some v :: l) H Q := ⟨v, rfl, h⟩
theorem i_g5 {x0 x1 x2 x3 x4 : Option V} {y : Option V} {v : V} {l : St} {H : Hp} {Q : St → Hp → Prop} (h : Q (x0 :: x1 :: x2 :: x3 :: x4 :: some v :: l) H) : gName 5 v (x0 :: x1 :: x2 :: x3 :: x4 :: y :: l) H Q := h
theorem i_v6 {x0 x1 x2 x3 x4 x5 : Option V} {v : V} {l : St} {H : Hp} {Q : VK} (h : Q v H) : tVar 6 (x0 :: x1 :: x2 :: x3 :: x4 :: x5 :: some v :: l) H Q := ⟨v, rfl, h⟩
theorem i_g6 {x0 x1 x2 x3 x4 x5 : Option V} {y : Option V} {v : V} {l : St} {H : Hp} {Q : St → Hp → Prop} (h : Q (x0 :: x1 :: x2 :: x3 :: x4 :: x5 :: some v :: l) H) : gName 6 v (x0 :: x1 :: x2 :: x3 :: x4 :: x5 :: y :: l) H Q := h
theorem i_v7 {x0 x1 x2 x3 x4 x5 x6 : Option V} {v : V} {l : St} {H : Hp} {Q : VK} (h : Q v H) : tVar 7 (x0 :: x1 :: x2 :: x3 :: x4 :: x5 :: x6 :: some v :: l) H Q := ⟨v, rfl, h⟩
theorem i_g7 {x0 x1 x2 x3 x4 x5 x6 : Option V} {y : Option V} {v : V} {l : St} {H : Hp} {Q : St → Hp → Prop} (h : Q (x0 :: x1 :: x2 :: x3 :: x4 :: x5 :: x6 :: some v :: l) H) : gName 7 v (x0 :: x1 :: x2 :: x3 :: x4 :: x5 :: x6 :: y :: l) H Q := h
theorem i_v8 {x0 x1 x2 x3 x4 x5 x6 x7 : Option V} {v : V} {l : St} {H : Hp} {Q : VK} (h : Q v H) : tVar 8 (x0 :: x1 :: x2 :: x3 :: x4 :: x5 :: x6 :: x7 :: some v :: l) H Q := ⟨v, rfl, h⟩
theorem i_g8 {x0 x1 x2 x3 x4 x5 x6 x7 : Option V} {y : Option V} {v : V} {l : St} {H : Hp} {Q : St → Hp → Prop} (h : Q (x0 :: x1 :: x2 :: x3 :: x4 :: x5 :: x6 :: x7 :: some v :: l) H) : gName 8 v (x0 :: x1 :: x2 :: x3 :: x4 :: x5 :: x6 :: x7 :: y :: l) H Q := h
theorem i_v9 {x0 x1 x2 x3 x4 x5 x6 x7 x8 : Option V} {v : V} {l : St} {H : Hp} {Q : VK} (h : Q v H) : tVar 9 (x0 :: x1 :: x2 :: x3 :: x4 :: x5 :: x6 :: x7 :: x8 :: some v :: l) H Q := ⟨v, rfl, h⟩
theorem i_g9 {x0 x1 x2 x3 x4 x5 x6 x7 x8 : Option V} {y : Option V} {v : V} {l : St} {H : Hp} {Q : St → Hp → Prop} (h : Q (x0 :: x1 :: x2 :: x3 :: x4 :: x5 :: x6 :: x7 :: x8 :: some v :: l) H) : gName 9 v (x0 :: x1 :: x2 :: x3 :: x4 :: x5 :: x6 :: x7 :: x8 :: y :: l) H Q := h
theorem i_v10 {x0 x1 x2 x3 x4 x5 x6 x7 x8 x9 : Option V} {v : V} {l : St} {H : Hp} {Q : VK} (h : Q v H) : tVar 10 (x0 :: x1 :: x2 :: x3 :: x4 :: x5 :: x6 :: x7 :: x8 :: x9 :: some v :: l) H Q := ⟨v, rfl, h⟩
theorem i_g10 {x0 x1 x2 x3 x4 x5 x6 x7 x8 x9 : Option V} {y : Option V} {v : V} {l : St} {H : Hp} {Q : St → Hp → Prop} (h : Q (x0 :: x1 :: x2 :: x3 :: x4 :: x5 :: x6 :: x7 :: x8 :: x9 :: some v :: l) H) : gName 10 v (x0 :: x1 :: x2 :: x3 :: x4 :: x5 :: x6 :: x7 :: x8 :: x9 :: y :: l) H Q := h
theorem i_v11 {x0 x1 x2 x3 x4 x5 x6 x7 x8 x9 x10 : Option V} {v : V} {l : St} {H : Hp} {Q : VK} (h : Q v H) : tVar 11 (x0 :: x1 :: x2 :: x3 :: x4 :: x5 :: x6 :: x7 :: x8 :: x9 :: x10 :: some v :: l) H Q := ⟨v, rfl, h⟩
theorem i_g11 {x0 x1 x2 x3 x4 x5 x6 x7 x8 x9 x10 : Option V} {y : Option V} {v : V} {l : St} {H : Hp} {Q : St → Hp → Prop} (h : Q (x0 :: x1 :: x2 :: x3 :: x4 :: x5 :: x6 :: x7 :: x8 :: x9 :: x10 :: some v :: l) H) : gName 11 v (x0 :: x1 :: x2 :: x3 :: x4 :: x5 :: x6 :: x7 :: x8 :: x9 :: x10 :: y :: l) H Q := h
theorem i_v12 {x0 x1 x2 x3 x4 x5 x6 x7 x8 x9 x10 x11 : Option V} {v : V} {l : St} {H : Hp} {Q : VK} (h : Q v H) : tVar 12 (x0 :: x1 :: x2 :: x3 :: x4 :: x5 :: x6 :: x7 :: x8 :: x9 :: x10 :: x11 :: some v :: l) H Q := ⟨v, rfl, h⟩
theorem i_g12 {x0 x1 x2 x3 x4 x5 x6 x7 x8 x9 x10 x11 : Option V} {y : Option V} {v : V} {l : St} {H : Hp} {Q : St → Hp → Prop} (h : Q (x0 :: x1 :: x2 :: x3 :: x4 :: x5 :: x6 :: x7 :: x8 :: x9 :: x10 :: x11 :: some v :: l) H) : gName 12 v (x0 :: x1 :: x2 :: x3 :: x4 :: x5 :: x6 :: x7 :: x8 :: x9 :: x10 :: x11 :: y :: l) H Q := h
theorem i_v13 {x0 x1 x2 x3 x4 x5 x6 x7 x8 x9 x10 x11 x12 : Option V} {v : V} {l : St} {H : Hp} {Q : VK} (h : Q v H) : tVar 13 (x0 :: x1 :: x2 :: x3 :: x4 :: x5 :: x6 :: x7 :: x8 :: x9 :: x10 :: x11 :: x12 :: some v :: l) H Q := ⟨v, rfl, h⟩
theorem i_g13 {x0 x1 x2 x3 x4 x5 x6 x7 x8 x9 x10 x11 x12 : Option V} {y : Option V} {v : V} {l : St} {H : Hp} {Q : St → Hp → Prop} (h : Q (x0 :: x1 :: x2 :: x3 :: x4 :: x5 :: x6 :: x7 :: x8 :: x9 :: x10 :: x11 :: x12 :: some v :: l) H) : gName 13 v (x0 :: x1 :: x2 :: x3 :: x4 :: x5 :: x6 :: x7 :: x8 :: x9 :: x10 :: x11 :: x12 :: y :: l) H Q := h
theorem i_v14 {x0 x1 x2 x3 x4 x5 x6 x7 x8 x9 x10 x11 x12 x13 : Option V} {v : V} {l : St} {H : Hp} {Q : VK} (h : Q v H) : tVar 14 (x0 :: x1 :: x2 :: x3 :: x4 :: x5 :: x6 :: x7 :: x8 :: x9 :: x10 :: x11 :: x12 :: x13 :: some v :: l) H Q := ⟨v, rfl, h⟩
theorem i_g14 {x0 x1 x2 x3 x4 x5 x6 x7 x8 x9 x10 x11 x12 x13 : Option V} {y : Option V} {v : V} {l : St} {H : Hp} {Q : St → Hp → Prop} (h : Q (x0 :: x1 :: x2 :: x3 :: x4 :: x5 :: x6 :: x7 :: x8 :: x9 :: x10 :: x11 :: x12 :: x13 :: some v :: l) H) : gName 14 v (x0 :: x1 :: x2 :: x3 :: x4 :: x5 :: x6 :: x7 :: x8 :: x9 :: x10 :: x11 :: x12 :: x13 :: y :: l) H Q := h
theorem i_v15 {x0 x1 x2 x3 x4 x5 x6 x7 x8 x9 x10 x11 x12 x13 x14 : Option V} {v : V} {l : St} {H : Hp} {Q : VK} (h : Q v H) : tVar 15 (x0 :: x1 :: x2 :: x3 :: x4 :: x5 :: x6 :: x7 :: x8 :: x9 :: x10 :: x11 :: x12 :: x13 :: x14 :: some v :: l) H Q := ⟨v, rfl, h⟩
theorem i_g15 {x0 x1 x2 x3 x4 x5 x6 x7 x8 x9 x10 x11 x12 x13 x14 : Option V} {y : Option V} {v : V} {l : St} {H : Hp} {Q : St → Hp → Prop} (h : Q (x0 :: x1 :: x2 :: x3 :: x4 :: x5 :: x6 :: x7 :: x8 :: x9 :: x10 :: x11 :: x12 :: x13 :: x14 :: some v :: l) H) : gName 15 v (x0 :: x1 :: x2 :: x3 :: x4 :: x5 :: x6 :: x7 :: x8 :: x9 :: x10 :: x11 :: x12 :: x13 :: x14 :: y :: l) H Q := h
theorem i_v16 {x0 x1 x2 x3 x4 x5 x6 x7 x8 x9 x10 x11 x12 x13 x14 x15 : Option V} {v : V} {l : St} {H : Hp} {Q : VK} (h : Q v H) : tVar 16 (x0 :: x1 :: x2 :: x3 :: x4 :: x5 :: x6 :: x7 :: x8 :: x9 :: x10 :: x11 :: x12 :: x13 :: x14 :: x15 :: some v :: l) H Q := ⟨v, rfl, h⟩
theorem i_g16 {x0 x1 x2 x3 x4 x5 x6 x7 x8 x9 x10 x11 x12 x13 x14 x15 : Option V} {y : Option V} {v : V} {l : St} {H : Hp} {Q : St → Hp → Prop} (h : Q (x0 :: x1 :: x2 :: x3 :: x4 :: x5 :: x6 :: x7 :: x8 :: x9 :: x10 :: x11 :: x12 :: x13 :: x14 :: x15 :: some v :: l) H) : gName 16 v (x0 :: x1 :: x2 :: x3 :: x4 :: x5 :: x6 :: x7 :: x8 :: x9 :: x10 :: x11 :: x12 :: x13 :: x14 :: x15 :: y :: l) H Q := h
theorem i_v17 {x0 x1 x2 x3 x4 x5 x6 x7 x8 x9 x10 x11 x12 x13 x14 x15 x16 : Option V} {v : V} {l : St} {H : Hp} {Q : VK} (h : Q v H) : tVar 17 (x0 :: x1 :: x2 :: x3 :: x4 :: x5 :: x6 :: x7 :: x8 :: x9 :: x10 :: x11 :: x12 :: x13 :: x14 :: x15 :: x16 :: some v :: l) H Q := ⟨v, rfl, h⟩
theorem i_g17 {x0 x1 x2 x3 x4 x5 x6 x7 x8 x9 x10 x11 x12 x13 x14 x15 x16 : Option V} {y : Option V} {v : V} {l : St} {H : Hp} {Q : St → Hp → Prop} (h : Q (x0 :: x1 :: x2 :: x3 :: x4 :: x5 :: x6 :: x7 :: x8 :: x9 :: x10 :: x11 :: x12 :: x13 :: x14 :: x15 :: x16 :: some v :: l) H) : gName 17 v (x0 :: x1 :: x2 :: x3 :: x4 :: x5 :: x6 :: x7 :: x8 :: x9 :: x10 :: x11 :: x12 :: x13 :: x14 :: x15 :: x16 :: y :: l) H Q := h
theorem i_v18 {x0 x1 x2 x3 x4 x5 x6 x7 x8 x9 x10 x11 x12 x13 x14 x15 x16 x17 : Option V} {v : V} {l : St} {H : Hp} {Q : VK} (h : Q v H) : tVar 18 (x0 :: x1 :: x2 :: x3 :: x4 :: x5 :: x6 :: x7 :: x8 :: x9 :: x10 :: x11 :: x12 :: x13 :: x14 :: x15 :: x16 :: x17 :: some v :: l) H Q := ⟨v, rfl, h⟩
theorem i_g18 {x0 x1 x2 x3 x4 x5 x6 x7 x8 x9 x10 x11 x12 x13 x14 x15 x16 x17 : Option V} {y : Option V} {v : V} {l : St} {H : Hp} {Q : St → Hp → Prop} (h : Q (x0 :: x1 :: x2 :: x3 :: x4 :: x5 :: x6 :: x7 :: x8 :: x9 :: x10 :: x11 :: x12 :: x13 :: x14 :: x15 :: x16 :: x17 :: some v :: l) H) : gName 18 v (x0 :: x1 :: x2 :: x3 :: x4 :: x5 :: x6 :: x7 :: x8 :: x9 :: x10 :: x11 :: x12 :: x13 :: x14 :: x15 :: x16 :: x17 :: y :: l) H Q := h
theorem i_v19 {x0 x1 x2 x3 x4 x5 x6 x7 x8 x9 x10 x11 x12 x13 x14 x15 x16 x17 x18 : Option V} {v : V} {l : St} {H : Hp} {Q : VK} (h : Q v H) : tVar 19 (x0 :: x1 :: x2 :: x3 :: x4 :: x5 :: x6 :: x7 :: x8 :: x9 :: x10 :: x11 :: x12 :: x13 :: x14 :: x15 :: x16 :: x17 :: x18 :: some v :: l) H Q := ⟨v, rfl, h⟩
theorem i_g19 {x0 x1 x2 x3 x4 x5 x6 x7 x8 x9 x10 x11 x12 x13 x14 x15 x16 x17 x18 : Option V} {y : Option V} {v : V} {l : St} {H : Hp} {Q : St → Hp → Prop} (h : Q (x0 :: x1 :: x2 :: x3 :: x4 :: x5 :: x6 :: x7 :: x8 :: x9 :: x10 :: x11 :: x12 :: x13 :: x14 :: x15 :: x16 :: x17 :: x18 :: some v :: l) H) : gName 19 v (x0 :: x1 :: x2 :: x3 :: x4 :: x5 :: x6 :: x7 :: x8 :: x9 :: x10 :: x11 :: x12 :: x13 :: x14 :: x15 :: x16 :: x17 :: x18 :: y :: l) H Q := h
theorem i_v20 {x0 x1 x2 x3 x4 x5 x6 x7 x8 x9 x10 x11 x12 x13 x14 x15 x16 x17 x18 x19 : Option V} {v : V} {l : St} {H : Hp} {Q : VK} (h : Q v H) : tVar 20 (x0 :: x1 :: x2 :: x3 :: x4 :: x5 :: x6 :: x7 :: x8 :: x9 :: x10 :: x11 :: x12 :: x13 :: x14 :: x15 :: x16 :: x17 :: x18 :: x19 :: some v :: l) H Q := ⟨v, rfl, h⟩
theorem i_g20 {x0 x1 x2 x3 x4 x5 x6 x7 x8 x9 x10 x11 x12 x13 x14 x15 x16 x17 x18 x19 : Option V} {y : Option V} {v : V} {l : St} {H : Hp} {Q : St → Hp → Prop} (h : Q (x0 :: x1 :: x2 :: x3 :: x4 :: x5 :: x6 :: x7 :: x8 :: x9 :: x10 :: x11 :: x12 :: x13 :: x14 :: x15 :: x16 :: x17 :: x18 :: x19 :: some v :: l) H) : gName 20 v (x0 :: x1 :: x2 :: x3 :: x4 :: x5 :: x6 :: x7 :: x8 :: x9 :: x10 :: x11 :: x12 :: x13 :: x14 :: x15 :: x16 :: x17 :: x18 :: x19 :: y :: l) H Q := h
theorem i_v21 {x0 x1 x2 x3 x4 x5 x6 x7 x8 x9 x10 x11 x12 x13 x14 x15 x16 x17 x18 x19 x20 : Option V} {v : V} {l : St} {H : Hp} {Q : VK} (h : Q v H) : tVar 21 (x0 :: x1 :: x2 :: x3 :: x4 :: x5 :: x6 :: x7 :: x8 :: x9 :: x10 :: x11 :: x12 :: x13 :: x14 :: x15 :: x16 :: x17 :: x18 :: x19 :: x20 :: some v :: l) H Q := ⟨v, rfl, h⟩
theorem i_g21 {x0 x1 x2 x3 x4 x5 x6 x7 x8 x9 x10 x11 x12 x13 x14 x15 x16 x17 x18 x19 x20 : Option V} {y : Option V} {v : V} {l : St} {H : Hp} {Q : St → Hp → Prop} (h : Q (x0 :: x1 :: x2 :: x3 :: x4 :: x5 :: x6 :: x7 :: x8 :: x9 :: x10 :: x11 :: x12 :: x13 :: x14 :: x15 :: x16 :: x17 :: x18 :: x19 :: x20 :: some v :: l) H) : gName 21 v (x0 :: x1 :: x2 :: x3 :: x4 :: x5 :: x6 :: x7 :: x8 :: x9 :: x10 :: x11 :: x12 :: x13 :: x14 :: x15 :: x16 :: x17 :: x18 :: x19 :: x20 :: y :: l) H Q := h
theorem i_v22 {x0 x1 x2 x3 x4 x5 x6 x7 x8 x9 x10 x11 x12 x13 x14 x15 x16 x17 x18 x19 x20 x21 : Option V} {v : V} {l : St} {H : Hp} {Q : VK} (h : Q v H) : tVar 22 (x0 :: x1 :: x2 :: x3 :: x4 :: x5 :: x6 :: x7 :: x8 :: x9 :: x10 :: x11 :: x12 :: x13 :: x14 :: x15 :: x16 :: x17 :: x18 :: x19 :: x20 :: x21 :: some v :: l) H Q := ⟨v, rfl, h⟩
theorem i_g22 {x0 x1 x2 x3 x4 x5 x6 x7 x8 x9 x10 x11 x12 x13 x14 x15 x16 x17 x18 x19 x20 x21 : Option V} {y : Option V} {v : V} {l : St} {H : Hp} {Q : St → Hp → Prop} (h : Q (x0 :: x1 :: x2 :: x3 :: x4 :: x5 :: x6 :: x7 :: x8 :: x9 :: x10 :: x11 :: x12 :: x13 :: x14 :: x15 :: x16 :: x17 :: x18 :: x19 :: x20 :: x21 :: some v :: l) H) : gName 22 v (x0 :: x1 :: x2 :: x3 :: x4 :: x5 :: x6 :: x7 :: x8 :: x9 :: x10 :: x11 :: x12 :: x13 :: x14 :: x15 :: x16 :: x17 :: x18 :: x19 :: x20 :: x21 :: y :: l) H Q := h
theorem i_v23 {x0 x1 x2 x3 x4 x5 x6 x7 x8 x9 x10 x11 x12 x13 x14 x15 x16 x17 x18 x19 x20 x21 x22 : Option V} {v : V} {l : St} {H : Hp} {Q : VK} (h : Q v H) : tVar 23 (x0 :: x1 :: x2 :: x3 :: x4 :: x5 :: x6 :: x7 :: x8 :: x9 :: x10 :: x11 :: x12 :: x13 :: x14 :: x15 :: x16 :: x17 :: x18 :: x19 :: x20 :: x21 :: x22 :: some v :: l) H Q := ⟨v, rfl, h⟩
theorem i_g23 {x0 x1 x2 x3 x4 x5 x6 x7 x8 x9 x10 x11 x12 x13 x14 x15 x16 x17 x18 x19 x20 x21 x22 : Option V} {y : Option V} {v : V} {l : St} {H : Hp} {Q : St → Hp → Prop} (h : Q (x0 :: x1 :: x2 :: x3 :: x4 :: x5 :: x6 :: x7 :: x8 :: x9 :: x10 :: x11 :: x12 :: x13 :: x14 :: x15 :: x16 :: x17 :: x18 :: x19 :: x20 :: x21 :: x22 :: some v :: l) H) : gName 23 v (x0 :: x1 :: x2 :: x3 :: x4 :: x5 :: x6 :: x7 :: x8 :: x9 :: x10 :: x11 :: x12 :: x13 :: x14 :: x15 :: x16 :: x17 :: x18 :: x19 :: x20 :: x21 :: x22 :: y :: l) H Q := h
theorem i_v24 {x0 x1 x2 x3 x4 x5 x6 x7 x8 x9 x10 x11 x12 x13 x14 x15 x16 x17 x18 x19 x20 x21 x22 x23 : Option V} {v : V} {l : St} {H : Hp} {Q : VK} (h : Q v H) : tVar 24 (x0 :: x1 :: x2 :: x3 :: x4 :: x5 :: x6 :: x7 :: x8 :: x9 :: x10 :: x11 :: x12 :: x13 :: x14 :: x15 :: x16 :: x17 :: x18 :: x19 :: x20 :: x21 :: x22 :: x23 :: some v :: l) H Q := ⟨v, rfl, h⟩
theorem i_g24 {x0 x1 x2 x3 x4 x5 x6 x7 x8 x9 x10 x11 x12 x13 x14 x15 x16 x17 x18 x19 x20 x21 x22 x23 : Option V} {y : Option V} {v : V} {l : St} {H : Hp} {Q : St → Hp → Prop} (h : Q (x0 :: x1 :: x2 :: x3 :: x4 :: x5 :: x6 :: x7 :: x8 :: x9 :: x10 :: x11 :: x12 :: x13 :: x14 :: x15 :: x16 :: x17 :: x18 :: x19 :: x20 :: x21 :: x22 :: x23 :: some v :: l) H) : gName 24 v (x0 :: x1 :: x2 :: x3 :: x4 :: x5 :: x6 :: x7 :: x8 :: x9 :: x10 :: x11 :: x12 :: x13 :: x14 :: x15 :: x16 :: x17 :: x18 :: x19 :: x20 :: x21 :: x22 :: x23 :: y :: l) H Q := h
theorem i_v25 {x0 x1 x2 x3 x4 x5 x6 x7 x8 x9 x10 x11 x12 x13 x14 x15 x16 x17 x18 x19 x20 x21 x22 x23 x24 : Option V} {v : V} {l : St} {H : Hp} {Q : VK} (h : Q v H) : tVar 25 (x0 :: x1 :: x2 :: x3 :: x4 :: x5 :: x6 :: x7 :: x8 :: x9 :: x10 :: x11 :: x12 :: x13 :: x14 :: x15 :: x16 :: x17 :: x18 :: x19 :: x20 :: x21 :: x22 :: x23 :: x24 :: some v :: l) H Q := ⟨v, rfl, h⟩
theorem i_g25 {x0 x1 x2 x3 x4 x5 x6 x7 x8 x9 x10 x11 x12 x13 x14 x15 x16 x17 x18 x19 x20 x21 x22 x23 x24 : Option V} {y : Option V} {v : V} {l : St} {H : Hp} {Q : St → Hp → Prop} (h : Q (x0 :: x1 :: x2 :: x3 :: x4 :: x5 :: x6 :: x7 :: x8 :: x9 :: x10 :: x11 :: x12 :: x13 :: x14 :: x15 :: x16 :: x17 :: x18 :: x19 :: x20 :: x21 :: x22 :: x23 :: x24 :: some v :: l) H) : gName 25 v (x0 :: x1 :: x2 :: x3 :: x4 :: x5 :: x6 :: x7 :: x8 :: x9 :: x10 :: x11 :: x12 :: x13 :: x14 :: x15 :: x16 :: x17 :: x18 :: x19 :: x20 :: x21 :: x22 :: x23 :: x24 :: y :: l) H Q := h
end G
namespace G
open PySem L2
theorem same_new {H : Hp} {p : Addr} (h : H p = none) (o : HO) : Same H (upd H p o) := fun b u q => by rw [upd_ne (ne_of_none q h)]; exact q
def tyN (H : Hp) : V → Option String
  | .non => some "NoneType"
  | .bl _ => some "bool"
  | .int _ => some "int"
  | .str _ => some "str"
  | .ref a => match H a with
    | some (.lst _) => some "list"
    | some (.frz _ (.lst _)) => some "list"
    | some (.tup _) => some "tuple"
    | some (.dK _) => some "dict"
    | some (.dT _) => some "dict"
    | _ => none
  | _ => none
def isK (t n : String) : Option Bool := if ["int", "bool", "str", "list", "tuple", "dict"].contains n then some (t == n || (t == "bool" && n == "int")) else none
def cIsi : List V → Hp → VK → Prop := fun xs H Q => ∃ x n t k, xs = [x, .ty n] ∧ tyN H x = some t ∧ isK t n = some k ∧ Q (.bl k) H
theorem isK_int_int : isK "int" "int" = some true := by decide +kernel
theorem isK_int_bool : isK "int" "bool" = some false := by decide +kernel
theorem isK_int_str : isK "int" "str" = some false := by decide +kernel
theorem isK_int_list : isK "int" "list" = some false := by decide +kernel
theorem isK_int_tuple : isK "int" "tuple" = some false := by decide +kernel
theorem isK_int_dict : isK "int" "dict" = some false := by decide +kernel
theorem isK_bool_int : isK "bool" "int" = some true := by decide +kernel
theorem isK_bool_bool : isK "bool" "bool" = some true := by decide +kernel
theorem isK_bool_str : isK "bool" "str" = some false := by decide +kernel
theorem isK_bool_list : isK "bool" "list" = some false := by decide +kernel
theorem isK_bool_tuple : isK "bool" "tuple" = some false := by decide +kernel
theorem isK_bool_dict : isK "bool" "dict" = some false := by decide +kernel
theorem isK_str_int : isK "str" "int" = some false := by decide +kernel
theorem isK_str_bool : isK "str" "bool" = some false := by decide +kernel
theorem isK_str_str : isK "str" "str" = some true := by decide +kernel
theorem isK_str_list : isK "str" "list" = some false := by decide +kernel
theorem isK_str_tuple : isK "str" "tuple" = some false := by decide +kernel
theorem isK_str_dict : isK "str" "dict" = some false := by decide +kernel
theorem isK_NoneType_int : isK "NoneType" "int" = some false := by decide +kernel
theorem isK_NoneType_bool : isK "NoneType" "bool" = some false := by decide +kernel
theorem isK_NoneType_str : isK "NoneType" "str" = some false := by decide +kernel
theorem isK_NoneType_list : isK "NoneType" "list" = some false := by decide +kernel
theorem isK_NoneType_tuple : isK "NoneType" "tuple" = some false := by decide +kernel
theorem isK_NoneType_dict : isK "NoneType" "dict" = some false := by decide +kernel
theorem isK_list_int : isK "list" "int" = some false := by decide +kernel
theorem isK_list_bool : isK "list" "bool" = some false := by decide +kernel
theorem isK_list_str : isK "list" "str" = some false := by decide +kernel
theorem isK_list_list : isK "list" "list" = some true := by decide +kernel
theorem isK_list_tuple : isK "list" "tuple" = some false := by decide +kernel
theorem isK_list_dict : isK "list" "dict" = some false := by decide +kernel
theorem isK_tuple_int : isK "tuple" "int" = some false := by decide +kernel
theorem isK_tuple_bool : isK "tuple" "bool" = some false := by decide +kernel
theorem isK_tuple_str : isK "tuple" "str" = some false := by decide +kernel
theorem isK_tuple_list : isK "tuple" "list" = some false := by decide +kernel
theorem isK_tuple_tuple : isK "tuple" "tuple" = some true := by decide +kernel
theorem isK_tuple_dict : isK "tuple" "dict" = some false := by decide +kernel
theorem isK_dict_int : isK "dict" "int" = some false := by decide +kernel
theorem isK_dict_bool : isK "dict" "bool" = some false := by decide +kernel
theorem isK_dict_str : isK "dict" "str" = some false := by decide +kernel
theorem isK_dict_list : isK "dict" "list" = some false := by decide +kernel
theorem isK_dict_tuple : isK "dict" "tuple" = some false := by decide +kernel
theorem isK_dict_dict : isK "dict" "dict" = some true := by decide +kernel
theorem i_isiI_int {i : Int} {H : Hp} {Q : VK} (h : Q (.bl true) H) : cIsi [.int i, .ty "int"] H Q := ⟨_, _, _, _, rfl, rfl, isK_int_int, h⟩
theorem i_isiI_bool {i : Int} {H : Hp} {Q : VK} (h : Q (.bl false) H) : cIsi [.int i, .ty "bool"] H Q := ⟨_, _, _, _, rfl, rfl, isK_int_bool, h⟩
theorem i_isiI_str {i : Int} {H : Hp} {Q : VK} (h : Q (.bl false) H) : cIsi [.int i, .ty "str"] H Q := ⟨_, _, _, _, rfl, rfl, isK_int_str, h⟩
theorem i_isiI_list {i : Int} {H : Hp} {Q : VK} (h : Q (.bl false) H) : cIsi [.int i, .ty "list"] H Q := ⟨_, _, _, _, rfl, rfl, isK_int_list, h⟩
theorem i_isiI_tuple {i : Int} {H : Hp} {Q : VK} (h : Q (.bl false) H) : cIsi [.int i, .ty "tuple"] H Q := ⟨_, _, _, _, rfl, rfl, isK_int_tuple, h⟩
theorem i_isiI_dict {i : Int} {H : Hp} {Q : VK} (h : Q (.bl false) H) : cIsi [.int i, .ty "dict"] H Q := ⟨_, _, _, _, rfl, rfl, isK_int_dict, h⟩
theorem i_isiB_int {i : Bool} {H : Hp} {Q : VK} (h : Q (.bl true) H) : cIsi [.bl i, .ty "int"] H Q := ⟨_, _, _, _, rfl, rfl, isK_bool_int, h⟩
theorem i_isiB_bool {i : Bool} {H : Hp} {Q : VK} (h : Q (.bl true) H) : cIsi [.bl i, .ty "bool"] H Q := ⟨_, _, _, _, rfl, rfl, isK_bool_bool, h⟩
theorem i_isiB_str {i : Bool} {H : Hp} {Q : VK} (h : Q (.bl false) H) : cIsi [.bl i, .ty "str"] H Q := ⟨_, _, _, _, rfl, rfl, isK_bool_str, h⟩
theorem i_isiB_list {i : Bool} {H : Hp} {Q : VK} (h : Q (.bl false) H) : cIsi [.bl i, .ty "list"] H Q := ⟨_, _, _, _, rfl, rfl, isK_bool_list, h⟩
theorem i_isiB_tuple {i : Bool} {H : Hp} {Q : VK} (h : Q (.bl false) H) : cIsi [.bl i, .ty "tuple"] H Q := ⟨_, _, _, _, rfl, rfl, isK_bool_tuple, h⟩
theorem i_isiB_dict {i : Bool} {H : Hp} {Q : VK} (h : Q (.bl false) H) : cIsi [.bl i, .ty "dict"] H Q := ⟨_, _, _, _, rfl, rfl, isK_bool_dict, h⟩
theorem i_isiS_int {i : Str} {H : Hp} {Q : VK} (h : Q (.bl false) H) : cIsi [.str i, .ty "int"] H Q := ⟨_, _, _, _, rfl, rfl, isK_str_int, h⟩
theorem i_isiS_bool {i : Str} {H : Hp} {Q : VK} (h : Q (.bl false) H) : cIsi [.str i, .ty "bool"] H Q := ⟨_, _, _, _, rfl, rfl, isK_str_bool, h⟩
theorem i_isiS_str {i : Str} {H : Hp} {Q : VK} (h : Q (.bl true) H) : cIsi [.str i, .ty "str"] H Q := ⟨_, _, _, _, rfl, rfl, isK_str_str, h⟩
theorem i_isiS_list {i : Str} {H : Hp} {Q : VK} (h : Q (.bl false) H) : cIsi [.str i, .ty "list"] H Q := ⟨_, _, _, _, rfl, rfl, isK_str_list, h⟩
theorem i_isiS_tuple {i : Str} {H : Hp} {Q : VK} (h : Q (.bl false) H) : cIsi [.str i, .ty "tuple"] H Q := ⟨_, _, _, _, rfl, rfl, isK_str_tuple, h⟩
theorem i_isiS_dict {i : Str} {H : Hp} {Q : VK} (h : Q (.bl false) H) : cIsi [.str i, .ty "dict"] H Q := ⟨_, _, _, _, rfl, rfl, isK_str_dict, h⟩
theorem i_isiN_int  {H : Hp} {Q : VK} (h : Q (.bl false) H) : cIsi [.non, .ty "int"] H Q := ⟨_, _, _, _, rfl, rfl, isK_NoneType_int, h⟩
theorem i_isiN_bool  {H : Hp} {Q : VK} (h : Q (.bl false) H) : cIsi [.non, .ty "bool"] H Q := ⟨_, _, _, _, rfl, rfl, isK_NoneType_bool, h⟩
theorem i_isiN_str  {H : Hp} {Q : VK} (h : Q (.bl false) H) : cIsi [.non, .ty "str"] H Q := ⟨_, _, _, _, rfl, rfl, isK_NoneType_str, h⟩
theorem i_isiN_list  {H : Hp} {Q : VK} (h : Q (.bl false) H) : cIsi [.non, .ty "list"] H Q := ⟨_, _, _, _, rfl, rfl, isK_NoneType_list, h⟩
theorem i_isiN_tuple  {H : Hp} {Q : VK} (h : Q (.bl false) H) : cIsi [.non, .ty "tuple"] H Q := ⟨_, _, _, _, rfl, rfl, isK_NoneType_tuple, h⟩
theorem i_isiN_dict  {H : Hp} {Q : VK} (h : Q (.bl false) H) : cIsi [.non, .ty "dict"] H Q := ⟨_, _, _, _, rfl, rfl, isK_NoneType_dict, h⟩
theorem i_isiL_list {a : Addr} {H : Hp} {Q : VK} {xs : List V} (hp : H a = some (.lst xs)) (h : Q (.bl true) H) : cIsi [.ref a, .ty "list"] H Q := ⟨_, _, _, _, rfl, (by show (match H a with | some (.lst _) => some "list" | some (.frz _ (.lst _)) => some "list" | some (.tup _) => some "tuple" | some (.dK _) => some "dict" | some (.dT _) => some "dict" | _ => none) = some "list"; rw [hp]), isK_list_list, h⟩
def cLenL (K : PySem.W.Frag) : List V → Hp → VK → Prop := fun xs H Q => ∃ p ys, xs = [.ref p] ∧ (SqL K H p ys ∨ SqT K H p ys) ∧ Q (.int ys.length) H
theorem i_lenL {K : PySem.W.Frag} {a : Addr} {H : Hp} {Q : VK} {xs : List V} (hp : SqL K H a xs) (h : Q (.int xs.length) H) : cLenL K [.ref a] H Q := ⟨a, xs, rfl, .inl hp, h⟩
theorem i_ixL {K : PySem.W.Frag} {a : Addr} {H : Hp} {Q : VK} {xs : List V} {i : Int} {v : V} (hp : SqL K H a xs) (hi : atI xs i = some v) (h : Q v H) : rIxL K (.ref a) (.int i) H Q := ⟨a, xs, i, v, rfl, rfl, hp, hi, h⟩
section
variable {K : PySem.W.Frag} {a : Addr} {xs : List V} {g : TG} {tb : TS} {σ : St} {H : Hp} {n : St → Hp → Prop} {r : VK}
theorem forL (xs : List V) (Pv : Nat → St → Hp → Prop) (h0 : Pv 0 σ H) (hl : ∀ i σ H, i ≤ xs.length → Pv i σ H → SqL K H a xs)
    (hs : ∀ i x σ H, xs[i]? = some x → Pv i σ H → g x σ H fun σ2 H2 => tb ⟨Pv (i + 1), r, n, Pv (i + 1)⟩ σ2 H2) (hd : ∀ σ H, Pv xs.length σ H → n σ H) :
    ∃ W : Nat → Nat → St → Hp → Prop, (∃ m, W 0 m σ H) ∧ ∀ i m σ H, W i m σ H →
      ((Itl K a).stop i H ∧ n σ H) ∨ ((Itl K a).go i H ∧ ∃ N : St → Hp → Prop, (∀ σ' H', N σ' H' → ∃ m', m' < m ∧ W (i + 1) m' σ' H') ∧ ∀ x H', (Itl K a).yld i H x H' → g x σ H' fun σ2 H2 => tb ⟨N, r, n, N⟩ σ2 H2) :=
  for_list (D := ⟨n, r, fun _ _ => False, fun _ _ => False⟩) Pv h0 hl hs hd
theorem forR {lo : Int} {k : Nat} (Pv : Nat → St → Hp → Prop) (h0 : Pv 0 σ H)
    (hs : ∀ i σ H, i < k → Pv i σ H → g (.int (lo + i)) σ H fun σ2 H2 => tb ⟨Pv (i + 1), r, n, Pv (i + 1)⟩ σ2 H2) (hd : ∀ σ H, Pv k σ H → n σ H) :
    ∃ W : Nat → Nat → St → Hp → Prop, (∃ m, W 0 m σ H) ∧ ∀ i m σ H, W i m σ H →
      ((Itr lo k).stop i H ∧ n σ H) ∨ ((Itr lo k).go i H ∧ ∃ N : St → Hp → Prop, (∀ σ' H', N σ' H' → ∃ m', m' < m ∧ W (i + 1) m' σ' H') ∧ ∀ x H', (Itr lo k).yld i H x H' → g x σ H' fun σ2 H2 => tb ⟨N, r, n, N⟩ σ2 H2) :=
  for_range (D := ⟨n, r, fun _ _ => False, fun _ _ => False⟩) Pv h0 hs hd
end
theorem len_ok {n : Nat} (h : n ≤ 1000000) : n ≤ sizeLine := Nat.le_trans h (by decide)
end G
namespace G
open PySem L2
def rInS : R2 := fun x y H Q => ∃ c j, x = .str ⟨#[c]⟩ ∧ y = .str j ∧ Q (.bl (decide (c ∈ j.cps.toList))) H
theorem i_inS {c : Nat} {j : Str} {H : Hp} {Q : VK} (h : Q (.bl (decide (c ∈ j.cps.toList))) H) : rInS (.str ⟨#[c]⟩) (.str j) H Q := ⟨c, j, rfl, rfl, h⟩
def rNotInS : R2 := fun x y H Q => ∃ c j, x = .str ⟨#[c]⟩ ∧ y = .str j ∧ Q (.bl (!decide (c ∈ j.cps.toList))) H
theorem i_notInS {c : Nat} {j : Str} {H : Hp} {Q : VK} (h : Q (.bl (!decide (c ∈ j.cps.toList))) H) : rNotInS (.str ⟨#[c]⟩) (.str j) H Q := ⟨c, j, rfl, rfl, h⟩
def find1 (l : List Nat) (c : Nat) : Int := if c ∈ l then (l.idxOf c : Int) else -1
def r_find : V → List V → Hp → VK → Prop := fun x xs H Q => ∃ z c, x = .str z ∧ xs = [.str ⟨#[c]⟩] ∧ Q (.int (find1 z.cps.toList c)) H
theorem i_find {z : Str} {c : Nat} {H : Hp} {Q : VK} (h : Q (.int (find1 z.cps.toList c)) H) : r_find (.str z) [.str ⟨#[c]⟩] H Q := ⟨z, c, rfl, rfl, h⟩
theorem i_tyS {K : PySem.W.Frag} {z : Str} {H : Hp} {A : Prop} (h : A) : tyV K "str" (.str z) H ∧ A := ⟨rfl, h⟩
def Its (z : Str) : It := ⟨fun i _ => i < z.length, fun i H x H' => H' = H ∧ ∃ c, z.cps.toList[i]? = some c ∧ x = .str ⟨#[c]⟩, fun i _ => z.length ≤ i⟩
def iStr (te : TE) : TI := fun σ H R => te σ H fun x H1 => ∃ z, x = .str z ∧ R (Its z) H1
theorem i_iS {te : TE} {σ : St} {H : Hp} {R : It → Hp → Prop} (h : te σ H fun x H1 => ∃ z, x = .str z ∧ R (Its z) H1) : iStr te σ H R := h
def pick (σ : St) (j : Nat) : Option V := match σ[j]? with
  | some v => v
  | none => none
def tLC (wi : TI) (caps : List Nat) (tc : TT) (te : TE) : TE := fun σ H Q => wi σ H fun J H1 => ∃ W : Nat → Nat → List V → Hp → Prop, (∃ m, W 0 m [] H1) ∧ ∀ i m ys H, W i m ys H →
  (J.stop i H ∧ ∀ p, H p = none → Q (.ref p) (upd H p (.lst ys))) ∨
  (J.go i H ∧ ys.length < sizeLine ∧ ∀ x H', J.yld i H x H' → tc (some x :: caps.map (pick σ)) H' fun k H2 => if k = true then te (some x :: caps.map (pick σ)) H2 (fun y H3 => ∃ m', m' < m ∧ W (i + 1) m' (ys ++ [y]) H3) else ∃ m', m' < m ∧ W (i + 1) m' ys H2)
def tTrue : TT := fun _ H Q => Q true H
theorem i_true {σ : St} {H : Hp} {Q : Bool → Hp → Prop} (h : Q true H) : tTrue σ H Q := h
theorem i_chain {r r' : R2} {ta tb tc : TE} {σ : St} {H : Hp} {Q : VK} (h : ta σ H fun x H1 => tb σ H1 fun y H2 => r x y H2 (kB fun k H3 => if k = true then tc σ H3 (fun w H4 => r' y w H4 Q) else Q (.bl false) H3)) : tChain r r' ta tb tc σ H Q := h
end G
namespace G
open PySem L2
def CMulB (i j : Int) : Prop := CMul i j ∨ (i.natAbs < 2 ^ 256 ∧ j.natAbs < 2 ^ 256)
def r_startswith : V → List V → Hp → VK → Prop := fun x xs H Q => ∃ z c, x = .str z ∧ xs = [.str ⟨#[c]⟩] ∧ Q (.bl (decide (z.cps.toList[0]? = some c))) H
theorem i_starts {z : Str} {c : Nat} {H : Hp} {Q : VK} (h : Q (.bl (decide (z.cps.toList[0]? = some c))) H) : r_startswith (.str z) [.str ⟨#[c]⟩] H Q := ⟨z, c, rfl, rfl, h⟩
def cMax : List V → Hp → VK → Prop := fun xs H Q => ∃ i j, xs = [.int i, .int j] ∧ Q (.int (if j > i then j else i)) H
def cMin : List V → Hp → VK → Prop := fun xs H Q => ∃ i j, xs = [.int i, .int j] ∧ Q (.int (if j < i then j else i)) H
theorem i_max {i j : Int} {H : Hp} {Q : VK} (h : Q (.int (if j > i then j else i)) H) : cMax [.int i, .int j] H Q := ⟨i, j, rfl, h⟩
theorem i_min {i j : Int} {H : Hp} {Q : VK} (h : Q (.int (if j < i then j else i)) H) : cMin [.int i, .int j] H Q := ⟨i, j, rfl, h⟩
end G
namespace G
open PySem L2
structure EqD (K : PySem.W.Frag) (C : Addr) : Prop where
  eq : PySem.W.findIn K (.ref C) "__eq__" = some (some (.builtin "object.__eq__"))
  ob : PySem.W.mroIn K C (.type "object") = some true
end G
namespace G
open PySem L2
def xobj (a : Addr) (cls : Value) : HO := .ext fun h => ∃ o vs, h.get? a = some o ∧ o.cls = cls ∧ o.data = .fields vs
def tRaise (C : Addr) (E : XK) (ta : TA) : TS := fun _ σ H => ta σ H fun vs H1 => vs.length ≤ 100 ∧ E (.ref C) none H1
def tCallX (sp : Sp) (dvs : List V) (E : St → XK) (t : TA) : TE := fun σ H Q => t σ H fun vs H1 => sp (vs ++ dvs) H1 Q (E σ)
def tMethX (C : Addr) (m : Str) (sp : Sp) (dvs : List V) (E : St → XK) (ta : TE) (t : TA) : TE := fun σ H Q => ta σ H fun x H1 => ∃ a dx fs, x = .ref a ∧ H1 a = some (.ins C dx fs) ∧ fs.lookup m = none ∧
  t σ H1 fun vs H2 => sp (x :: (vs ++ dvs)) H2 Q (E σ)
def tTry (Mt : Value → Prop) (tb : (St → XK) → TS) (th : TS) : TS := fun D σ H => tb (fun σ' cls _ H' => Mt cls ∧ th D σ' H') D σ H
def tTryAs (Mt : Value → Prop) (i : Nat) (tb : (St → XK) → TS) (th : TS) : TS := fun D σ H =>
  tb (fun σ' cls _ H' => Mt cls ∧ ∀ ea, H' ea = none → th ⟨fun σ2 H2 => D.nx (σ2.set i none) H2, D.rt, fun σ2 H2 => D.bk (σ2.set i none) H2, fun σ2 H2 => D.ct (σ2.set i none) H2⟩ (σ'.set i (some (.ref ea))) (upd H' ea (xobj ea cls))) D σ H
section
variable {σ : St} {H : Hp} {Q : VK} {n : St → Hp → Prop} {r : VK} {b c : St → Hp → Prop} {te : TE} {t : TA}
theorem i_raise {C : Addr} {E : XK} (h : t σ H fun vs H1 => vs.length ≤ 100 ∧ E (.ref C) none H1) : tRaise C E t ⟨n, r, b, c⟩ σ H := h
theorem i_callX {sp : Sp} {dvs : List V} {E : St → XK} (h : t σ H fun vs H1 => sp (vs ++ dvs) H1 Q (E σ)) : tCallX sp dvs E t σ H Q := h
theorem i_methX {C : Addr} {m : Str} {sp : Sp} {dvs : List V} {E : St → XK} (h : te σ H fun x H1 => ∃ a dx fs, x = .ref a ∧ H1 a = some (.ins C dx fs) ∧ fs.lookup m = none ∧ t σ H1 fun vs H2 => sp (x :: (vs ++ dvs)) H2 Q (E σ)) : tMethX C m sp dvs E te t σ H Q := h
theorem i_try {Mt : Value → Prop} {tb : (St → XK) → TS} {th : TS} (h : tb (fun σ' cls _ H' => Mt cls ∧ th ⟨n, r, b, c⟩ σ' H') ⟨n, r, b, c⟩ σ H) : tTry Mt tb th ⟨n, r, b, c⟩ σ H := h
theorem i_tryAs {Mt : Value → Prop} {i : Nat} {tb : (St → XK) → TS} {th : TS} (h : tb (fun σ' cls _ H' => Mt cls ∧ ∀ ea, H' ea = none → th ⟨fun σ2 H2 => n (σ2.set i none) H2, r, fun σ2 H2 => b (σ2.set i none) H2, fun σ2 H2 => c (σ2.set i none) H2⟩ (σ'.set i (some (.ref ea))) (upd H' ea (xobj ea cls))) ⟨n, r, b, c⟩ σ H) :
    tTryAs Mt i tb th ⟨n, r, b, c⟩ σ H := h
end
theorem i_gsub {to ti : TE} {ts : TSet} {x : V} {σ : St} {H : Hp} {Q : St → Hp → Prop} (h : to σ H fun o H1 => ti σ H1 fun i H2 => ts o i x H2 fun H3 => Q σ H3) : gSub to ti ts x σ H Q := h
def cSum (K : PySem.W.Frag) : List V → Hp → VK → Prop := fun xs H Q => ∃ (p : Addr) (ns : List Int), xs = [.ref p] ∧ SqL K H p (ns.map V.int) ∧ Q (.int ns.sum) H
theorem i_sum {K : PySem.W.Frag} {H : Hp} {Q : VK} {p : Addr} {ns : List Int} (h1 : SqL K H p (ns.map V.int)) (h : Q (.int ns.sum) H) : cSum K [.ref p] H Q := ⟨p, ns, rfl, h1, h⟩
def cListL (K : PySem.W.Frag) : List V → Hp → VK → Prop := fun xs H Q => ∃ (p : Addr) (ys : List V), xs = [.ref p] ∧ SqL K H p ys ∧ ∀ l, H l = none → Q (.ref l) (upd H l (.lst ys))
theorem i_listL {K : PySem.W.Frag} {H : Hp} {Q : VK} {p : Addr} {ys : List V} (h1 : SqL K H p ys) (h : ∀ l, H l = none → Q (.ref l) (upd H l (.lst ys))) : cListL K [.ref p] H Q := ⟨p, ys, rfl, h1, h⟩
def cMinL (K : PySem.W.Frag) : List V → Hp → VK → Prop := fun xs H Q => ∃ (p : Addr) (ns : List Int), xs = [.ref p] ∧ SqL K H p (ns.map V.int) ∧ ns ≠ [] ∧ ∀ m, m ∈ ns → (∀ a ∈ ns, m ≤ a) → Q (.int m) H
theorem i_minL {K : PySem.W.Frag} {H : Hp} {Q : VK} {p : Addr} {ns : List Int} (h1 : SqL K H p (ns.map V.int)) (h2 : ns ≠ []) (h : ∀ m, m ∈ ns → (∀ a ∈ ns, m ≤ a) → Q (.int m) H) : cMinL K [.ref p] H Q := ⟨p, ns, rfl, h1, h2, h⟩
def OkN (K : PySem.W.Frag) (H : Hp) (xs : List V) : Prop := ∀ y ∈ xs, y = .non ∨ ∃ a C dx fs, y = .ref a ∧ H a = some (.ins C dx fs) ∧ Cls K C ∧ EqD K C
def rInN (K : PySem.W.Frag) (neg : Bool) : R2 := fun x y H Q => ∃ p xs, x = .non ∧ y = .ref p ∧ SqL K H p xs ∧ OkN K H xs ∧ Q (.bl (if neg then !decide (V.non ∈ xs) else decide (V.non ∈ xs))) H
theorem i_notInN {K : PySem.W.Frag} {H : Hp} {Q : VK} {p : Addr} {xs : List V} (h1 : SqL K H p xs) (h2 : OkN K H xs) (h : Q (.bl (!decide (V.non ∈ xs))) H) : rInN K true .non (.ref p) H Q := ⟨p, xs, rfl, rfl, h1, h2, h⟩
def rIndexN (K : PySem.W.Frag) : V → List V → Hp → VK → Prop := fun x vs H Q => ∃ p xs, x = .ref p ∧ vs = [.non] ∧ SqL K H p xs ∧ OkN K H xs ∧ V.non ∈ xs ∧ Q (.int (xs.idxOf V.non)) H
def eqL (xs ys : List V) : Bool := xs.length == ys.length && (xs.zip ys).all fun p => eqV p.1 p.2
def rEqL (K : PySem.W.Frag) (neg : Bool) : R2 := fun x y H Q => ∃ p q xs ys, x = .ref p ∧ y = .ref q ∧ SqL K H p xs ∧ SqL K H q ys ∧ (xs.length = ys.length → xs.all flatV = true ∧ ys.all flatV = true) ∧ Q (.bl (if neg then !eqL xs ys else eqL xs ys)) H
theorem flat_ints (ns : List Int) : (ns.map V.int).all flatV = true := by
  rw [List.all_eq_true]
  intro x hx
  obtain ⟨i, _, rfl⟩ := List.mem_map.mp hx
  rfl
theorem eqL_ints (ns : List Int) : ∀ ms : List Int, eqL (ns.map V.int) (ms.map V.int) = decide (ns = ms) := by
  induction ns with
  | nil =>
    intro ms
    cases ms with
    | nil => rfl
    | cons m ms => rfl
  | cons n ns ih =>
    intro ms
    cases ms with
    | nil => rfl
    | cons m ms =>
      have := ih ms
      unfold eqL at this ⊢
      rw [List.map_cons, List.map_cons, List.zip_cons_cons, List.all_cons, List.length_cons, List.length_cons]
      have e1 : eqV (V.int n) (V.int m) = (n == m) := rfl
      have e2 : ((ns.map V.int).length + 1 == (ms.map V.int).length + 1) = ((ns.map V.int).length == (ms.map V.int).length) := by
        rw [Bool.eq_iff_iff, beq_iff_eq, beq_iff_eq]; omega
      dsimp only
      rw [e1, e2]
      rw [Bool.eq_iff_iff] at this ⊢
      simp only [Bool.and_eq_true, beq_iff_eq, decide_eq_true_eq] at this ⊢
      constructor
      · rintro ⟨a, b, c⟩
        rw [b, this.mp ⟨a, c⟩]
      · intro e
        injection e with e1 e2
        obtain ⟨a, c⟩ := this.mpr e2
        exact ⟨a, e1, c⟩
theorem i_eqLI {K : PySem.W.Frag} {H : Hp} {Q : VK} {p q : Addr} {ns ms : List Int} (h1 : SqL K H p (ns.map V.int)) (h2 : SqL K H q (ms.map V.int)) (h : Q (.bl (decide (ns = ms))) H) : rEqL K false (.ref p) (.ref q) H Q := by
  refine ⟨p, q, _, _, rfl, rfl, h1, h2, fun _ => ⟨flat_ints _, flat_ints _⟩, ?_⟩
  rw [eqL_ints]; exact h
theorem i_neLI {K : PySem.W.Frag} {H : Hp} {Q : VK} {p q : Addr} {ns ms : List Int} (h1 : SqL K H p (ns.map V.int)) (h2 : SqL K H q (ms.map V.int)) (h : Q (.bl (!decide (ns = ms))) H) : rEqL K true (.ref p) (.ref q) H Q := by
  refine ⟨p, q, _, _, rfl, rfl, h1, h2, fun _ => ⟨flat_ints _, flat_ints _⟩, ?_⟩
  rw [eqL_ints]; exact h
theorem i_eqL0 {K : PySem.W.Frag} {H : Hp} {Q : VK} {p q : Addr} {xs : List V} (h1 : SqL K H p xs) (h2 : SqL K H q []) (h : Q (.bl (decide (xs = []))) H) : rEqL K false (.ref p) (.ref q) H Q := by
  refine ⟨p, q, _, _, rfl, rfl, h1, h2, fun e => ?_, ?_⟩
  · have : xs = [] := List.length_eq_zero_iff.mp e
    subst this
    exact ⟨rfl, rfl⟩
  · have e : eqL xs [] = decide (xs = []) := by cases xs <;> rfl
    show Q (.bl (eqL xs [])) H
    rw [e]; exact h
theorem eqL_self {xs : List V} (h : xs.all flatV = true) : eqL xs xs = true := by
  unfold eqL
  rw [beq_self_eq_true, Bool.true_and, List.all_eq_true]
  intro p hp
  have e : p.1 = p.2 := by
    obtain ⟨j, hj, e⟩ := List.getElem_of_mem hp
    rw [List.getElem_zip] at e
    rw [← e]
  have hm : p.1 ∈ xs := (List.of_mem_zip hp).1
  have hf := List.all_eq_true.mp h _ hm
  rw [← e]
  cases hv : p.1 with
  | non => rfl
  | bl b => cases b <;> rfl
  | int i => show (i == i) = true; simp
  | str z => show (z == z) = true; simp
  | _ => rw [hv] at hf; exact absurd (show false = true from hf) Bool.false_ne_true
theorem i_neLs {K : PySem.W.Frag} {H : Hp} {Q : VK} {p q : Addr} {xs : List V} (h1 : SqL K H p xs) (h2 : SqL K H q xs) (hf : xs.all flatV = true) (h : Q (.bl false) H) : rEqL K true (.ref p) (.ref q) H Q := by
  refine ⟨p, q, _, _, rfl, rfl, h1, h2, fun _ => ⟨hf, hf⟩, ?_⟩
  show Q (.bl (!eqL xs xs)) H
  rw [eqL_self hf]; exact h
def Fm (S : List Addr) (H H' : Hp) : Prop := ∀ b o, H b = some o → b ∉ S → H' b = some o
theorem Fm.refl (S : List Addr) (H : Hp) : Fm S H H := fun _ _ h _ => h
theorem Fm.trans {S : List Addr} {H H1 H2 : Hp} (a : Fm S H H1) (b : Fm S H1 H2) : Fm S H H2 := fun c o h n => b c o (a c o h n) n
theorem Fm.of {S : List Addr} {H H' : Hp} (a : Same H H') : Fm S H H' := fun c o h _ => a c o h
theorem Fm.mono {S S' : List Addr} {H H' : Hp} (a : Fm S H H') (h : ∀ x ∈ S, x ∈ S') : Fm S' H H' := fun c o q n => a c o q fun z => n (h _ z)
theorem Fm.upd {S : List Addr} {H : Hp} {a : Addr} {o : HO} (h : a ∈ S) : Fm S H (L2.upd H a o) := fun c u q n => by
  have e : c ≠ a := fun e => n (by rw [e]; exact h)
  rw [upd_ne e]; exact q
theorem Fm.new {S : List Addr} {H : Hp} {a : Addr} {o : HO} (h : H a = none) : Fm S H (L2.upd H a o) := fun c u q n => by
  rw [upd_ne (ne_of_none q h)]; exact q
theorem Fm.same {H H' : Hp} (a : Fm [] H H') : Same H H' := fun c o h => a c o h (fun z => nomatch z)
theorem i_notN {x : V} {H : Hp} {Q : VK} (h : Q (.bl (!decide (x = .non))) H) : rNotN x .non H Q := ⟨rfl, h⟩
theorem i_isN {x : V} {H : Hp} {Q : VK} (h : Q (.bl (decide (x = .non))) H) : rIsN x .non H Q := ⟨rfl, h⟩
def LCg (J : It) (caps : List Nat) (tc : TT) (te : TE) (σ : St) (H : Hp) (Q : VK) : Prop := ∃ W : Nat → Nat → List V → Hp → Prop, (∃ m, W 0 m [] H) ∧ ∀ i m ys H, W i m ys H →
  (J.stop i H ∧ ∀ p, H p = none → Q (.ref p) (upd H p (.lst ys))) ∨
  (J.go i H ∧ ys.length < sizeLine ∧ ∀ x H', J.yld i H x H' → tc (some x :: caps.map (pick σ)) H' fun k H2 => if k = true then te (some x :: caps.map (pick σ)) H2 (fun y H3 => ∃ m', m' < m ∧ W (i + 1) m' (ys ++ [y]) H3) else ∃ m', m' < m ∧ W (i + 1) m' ys H2)
theorem i_lcg {wi : TI} {caps : List Nat} {tc : TT} {te : TE} {σ : St} {H : Hp} {Q : VK} (h : wi σ H fun J H1 => LCg J caps tc te σ H1 Q) : tLC wi caps tc te σ H Q := h
theorem lc_src {J : It} {caps : List Nat} {tc : TT} {te : TE} {σ : St} {H : Hp} {Q : VK} (k : Nat) (hz : k ≤ 1000000) (g : Nat → Option V)
    (hstop : J.stop k H) (hgo : ∀ i, i < k → J.go i H) (hy : ∀ i x H', i < k → J.yld i H x H' → H' = H ∧ (∀ q : Bool → Hp → Prop, q (g i).isSome H → tc (some x :: caps.map (pick σ)) H q) ∧ ∀ (y : V) (q : VK), g i = some y → q y H → te (some x :: caps.map (pick σ)) H q)
    (q : ∀ p, H p = none → Q (.ref p) (upd H p (.lst ((List.range k).filterMap g)))) :
    LCg J caps tc te σ H Q := by
  refine ⟨fun i m ys H' => H' = H ∧ i ≤ k ∧ m = k - i ∧ ys = (List.range i).filterMap g, ⟨k, rfl, Nat.zero_le _, rfl, rfl⟩, ?_⟩
  rintro i m ys _ ⟨rfl, hi, rfl, rfl⟩
  by_cases hk : i = k
  · subst hk
    exact .inl ⟨hstop, q⟩
  · have hlt : i < k := by omega
    refine .inr ⟨hgo i hlt, ?_, fun x H' y => ?_⟩
    · refine Nat.lt_of_le_of_lt (Nat.le_trans (List.length_filterMap_le _ _) ?_) (show 1000000 < sizeLine by decide)
      rw [List.length_range]; omega
    · obtain ⟨rfl, h1, h2⟩ := hy i x H' hlt y
      refine h1 _ ?_
      have er : List.filterMap g (List.range (i + 1)) = List.filterMap g (List.range i) ++ (match g i with | some y => [y] | none => []) := by
        rw [List.range_succ, List.filterMap_append]
        cases e : g i with
        | none => rw [List.filterMap_cons_none e]; rfl
        | some y => rw [List.filterMap_cons_some e]; rfl
      cases e : g i with
      | none =>
        rw [e] at er
        dsimp only [Option.isSome]
        refine iteF ⟨k - (i + 1), by omega, rfl, by omega, rfl, ?_⟩
        rw [er, List.append_nil]
      | some y =>
        rw [e] at er
        dsimp only [Option.isSome]
        refine iteT (h2 y _ e ⟨k - (i + 1), by omega, rfl, by omega, rfl, ?_⟩)
        rw [er]
theorem filterMap_if (l : List Nat) (p : Nat → Bool) (f : Nat → V) : l.filterMap (fun i => if p i = true then some (f i) else none) = (l.filter p).map f := by
  induction l with
  | nil => rfl
  | cons a l ih =>
    by_cases h : p a = true
    · rw [List.filterMap_cons_some (by rw [if_pos h]), List.filter_cons_of_pos h, List.map_cons, ih]
    · rw [List.filterMap_cons_none (by rw [if_neg h]), List.filter_cons_of_neg h, ih]
theorem lc_range {caps : List Nat} {tc : TT} {te : TE} {σ : St} {H : Hp} {Q : VK} {n : Nat} {z : Int} (ez : z.toNat = n) (p : Nat → Bool) (f : Nat → V) (hz : n ≤ 1000000)
    (htc : ∀ i, i < n → ∀ q : Bool → Hp → Prop, q (p i) H → tc (some (.int i) :: caps.map (pick σ)) H q)
    (hte : ∀ i, i < n → p i = true → ∀ q : VK, q (f i) H → te (some (.int i) :: caps.map (pick σ)) H q)
    (q : ∀ l, H l = none → Q (.ref l) (upd H l (.lst (((List.range n).filter p).map f)))) :
    LCg (Itr 0 z.toNat) caps tc te σ H Q := by
  subst ez
  refine lc_src z.toNat hz (fun i => if p i = true then some (f i) else none) (Nat.le_refl _) (fun i hi => hi) (fun i x H' hi y => ?_) ?_
  · obtain ⟨e1, e2⟩ := y
    have ex : x = .int i := by rw [e2]; simp
    refine ⟨e1, fun q hq => ?_, fun y q hy hq => ?_⟩
    · rw [ex]
      refine htc i hi q ?_
      cases e : p i with
      | true => rw [e] at hq; exact hq
      | false => rw [e] at hq; exact hq
    · rw [ex]
      cases e : p i with
      | true =>
        rw [e] at hy
        have ey : f i = y := by simpa using hy
        exact hte i hi e q (by rw [ey]; exact hq)
      | false => rw [e] at hy; simp at hy
  · rw [filterMap_if]; exact q
theorem lc_list {K : PySem.W.Frag} {a : Addr} {xs : List V} {caps : List Nat} {tc : TT} {te : TE} {σ : St} {H : Hp} {Q : VK} (hs : SqL K H a xs) (g : Nat → Option V) (hz : xs.length ≤ 1000000)
    (hy : ∀ i x, xs[i]? = some x → (∀ q : Bool → Hp → Prop, q (g i).isSome H → tc (some x :: caps.map (pick σ)) H q) ∧ ∀ (y : V) (q : VK), g i = some y → q y H → te (some x :: caps.map (pick σ)) H q)
    (q : ∀ p, H p = none → Q (.ref p) (upd H p (.lst ((List.range xs.length).filterMap g)))) :
    LCg (Itl K a) caps tc te σ H Q := by
  refine lc_src xs.length hz g ⟨xs, hs, Nat.le_refl _⟩ (fun i hi => ⟨xs, xs[i], hs, List.getElem?_eq_getElem hi⟩) (fun i x H' hi y => ?_) q
  obtain ⟨e1, e2⟩ := y
  exact ⟨e1, hy i x (e2 xs hs)⟩
theorem ixN_nat {n i : Nat} (h : i < n) : ixN n (i : Int) = some i := by
  unfold ixN
  rw [if_pos (by omega), if_pos (by omega)]; simp
theorem ixN_int {n : Nat} {i : Int} (h0 : 0 ≤ i) (h : i.toNat < n) : ixN n i = some i.toNat := by
  have e : i = ((i.toNat : Nat) : Int) := by omega
  have := ixN_nat h
  rw [← e] at this; exact this
theorem atI_int {α : Type} {xs : List α} {i : Int} {v : α} (h0 : 0 ≤ i) (h : xs[i.toNat]? = some v) : atI xs i = some v := by
  have e : i = ((i.toNat : Nat) : Int) := by omega
  have := atI_nat h
  rw [← e] at this; exact this
end G
namespace G
open PySem L2
inductive Al {α β : Type} (P : α → β → Prop) : List α → List β → Prop
  | nil : Al P [] []
  | cons {x : α} {y : β} {xs : List α} {ys : List β} : P x y → Al P xs ys → Al P (x :: xs) (y :: ys)
section
variable {α β : Type} {P P' : α → β → Prop} {xs : List α} {ys : List β}
theorem Al.length (h : Al P xs ys) : xs.length = ys.length := by
  induction h with
  | nil => rfl
  | cons _ _ ih => rw [List.length_cons, List.length_cons, ih]
theorem Al.mono (h : Al P xs ys) (f : ∀ x y, P x y → P' x y) : Al P' xs ys := by
  induction h with
  | nil => exact .nil
  | cons p _ ih => exact .cons (f _ _ p) ih
theorem Al.get (h : Al P xs ys) : ∀ {i : Nat} {y : β}, ys[i]? = some y → ∃ x, xs[i]? = some x ∧ P x y := by
  induction h with
  | nil => intro i y e; simp at e
  | cons p _ ih =>
    intro i y e
    cases i with
    | zero => simp at e; subst e; exact ⟨_, rfl, p⟩
    | succ i =>
      obtain ⟨x, e1, e2⟩ := ih (i := i) (y := y) (by simpa using e)
      exact ⟨x, by simpa using e1, e2⟩
theorem Al.set (h : Al P xs ys) {x : α} {y : β} (p : P x y) : ∀ i : Nat, Al P (xs.set i x) (ys.set i y) := by
  induction h with
  | nil => intro i; exact .nil
  | cons q t ih =>
    intro i
    cases i with
    | zero => exact .cons p t
    | succ i => exact .cons q (ih i)
theorem Al.mem (h : Al P xs ys) {x : α} (hx : x ∈ xs) : ∃ y, y ∈ ys ∧ P x y := by
  induction h with
  | nil => cases hx
  | cons q t ih =>
    rcases List.mem_cons.mp hx with e | e
    · subst e; exact ⟨_, List.mem_cons_self, q⟩
    · obtain ⟨y, h1, h2⟩ := ih e
      exact ⟨y, List.mem_cons_of_mem _ h1, h2⟩
end
theorem filterMap_range {α β : Type} (f : α → Option β) : ∀ l : List α, (List.range l.length).filterMap (fun i => l[i]?.bind f) = l.filterMap f := by
  intro l
  induction l with
  | nil => rfl
  | cons a l ih =>
    rw [List.length_cons, List.range_succ_eq_map]
    have e : List.filterMap (fun i => (a :: l)[i]?.bind f) (List.map Nat.succ (List.range l.length)) = l.filterMap f := by
      rw [List.filterMap_map, ← ih]
      congr 1
    cases h : f a with
    | none => rw [List.filterMap_cons_none (by simpa using h), List.filterMap_cons_none h, e]
    | some b => rw [List.filterMap_cons_some (b := b) (by simpa using h), List.filterMap_cons_some h, e]
end G
namespace G
open PySem L2
abbrev Tg := Addr → Nat × Nat
def WT (H : Hp) (T : Tg) : Prop := ∀ b, H b = none → T b = (0, 0)
structure Stp (s : Nat) (H H' : Hp) (T T' : Tg) : Prop where
  kp : ∀ b o, H b = some o → (T b).1 ≠ s → H' b = some o
  al : ∀ b o, H b = some o → ∃ o', H' b = some o'
  tg : ∀ b o, H b = some o → T' b = T b
  wt : WT H' T'
def setT (T : Tg) (a : Addr) (v : Nat × Nat) : Tg := fun x => if x = a then v else T x
theorem setT_same {T : Tg} {a : Addr} {v : Nat × Nat} : setT T a v a = v := by unfold setT; rw [if_pos rfl]
theorem setT_ne {T : Tg} {a b : Addr} {v : Nat × Nat} (h : b ≠ a) : setT T a v b = T b := by unfold setT; rw [if_neg h]
theorem WT.same {H H' : Hp} {T : Tg} (w : WT H T) (s : Same H H') : WT H' T := fun b h => w b (s.free h)
theorem Stp.refl {s : Nat} {H : Hp} {T : Tg} (w : WT H T) : Stp s H H T T := ⟨fun _ _ h _ => h, fun _ o h => ⟨o, h⟩, fun _ _ _ => rfl, w⟩
theorem Stp.same {s : Nat} {H H' : Hp} {T : Tg} (w : WT H T) (e : Same H H') : Stp s H H' T T := ⟨fun b o h _ => e b o h, fun b o h => ⟨o, e b o h⟩, fun _ _ _ => rfl, w.same e⟩
theorem Stp.trans {s : Nat} {H H1 H2 : Hp} {T T1 T2 : Tg} (a : Stp s H H1 T T1) (b : Stp s H1 H2 T1 T2) : Stp s H H2 T T2 where
  kp := fun x o h n => b.kp x o (a.kp x o h n) (by rw [a.tg x o h]; exact n)
  al := fun x o h => by
    obtain ⟨o1, h1⟩ := a.al x o h
    exact b.al x o1 h1
  tg := fun x o h => by
    obtain ⟨o1, h1⟩ := a.al x o h
    rw [b.tg x o1 h1, a.tg x o h]
  wt := b.wt
theorem Stp.upd {s : Nat} {H : Hp} {T : Tg} {a : Addr} {o o' : HO} (w : WT H T) (ha : H a = some o) (ht : (T a).1 = s) : Stp s H (L2.upd H a o') T T where
  kp := fun x u h n => by
    have : x ≠ a := fun e => n (by rw [e]; exact ht)
    rw [upd_ne this]; exact h
  al := fun x u h => by
    by_cases e : x = a
    · exact ⟨o', by rw [e, upd_same]⟩
    · exact ⟨u, by rw [upd_ne e]; exact h⟩
  tg := fun _ _ _ => rfl
  wt := fun b h => w b (by
    by_cases e : b = a
    · rw [e, upd_same] at h; cases h
    · rw [upd_ne e] at h; exact h)
theorem ne_tag {T : Tg} {a b : Addr} {x y : Nat × Nat} (ha : T a = x) (hb : T b = y) (h : x ≠ y) : a ≠ b := fun e => h (by rw [← ha, ← hb, e])
end G
namespace G
open PySem L2 PySem.Spec PyProof.Rows
theorem boot_isinstance : bootBuiltins "isinstance" = some (.builtin "isinstance") := by decide +kernel
theorem boot_len : bootBuiltins "len" = some (.builtin "len") := by decide +kernel
theorem boot_min : bootBuiltins "min" = some (.builtin "min") := by decide +kernel
theorem boot_int : bootBuiltins "int" = some (.type "int") := by decide +kernel
theorem boot_bool : bootBuiltins "bool" = some (.type "bool") := by decide +kernel
theorem boot_list : bootBuiltins "list" = some (.type "list") := by decide +kernel
structure FunD (K : PySem.W.Frag) (x qual : Str) (st : Stmt) (f : Addr) (fd : FuncData) : Prop where
  ex : ∃ (oc : Value) (od : Option Addr) (dV kV doc pm : Value) (an : Option Addr) (cdv ct : Value) (osl : Array (Option Value)),
    fd = PySem.W.fnOf x qual (defArgs st) (defBody st) (defScope st) dV kV doc pm an cdv ct ∧ K.lookup f = some ⟨oc, od, .func fd, osl⟩ ∧ PySem.W.codeIn K cdv qual = true
  kp : PySem.W.keepIn K (.ref f) = true
section
variable {P : Program} {w : World} {K : PySem.W.Frag} {mg : Str → Option Value} {base : Heap}
theorem FunD.ok {x qual : Str} {st : Stmt} {f : Addr} {fd : FuncData} {N ps : List Str} {k : Nat} {sp : Sp} (F : FunD K x qual st f fd) (S : FnScope N ps (defScope st)) (len : ∀ vs H Q E, sp vs H Q E → vs.length = ps.length)
    (hbody : ∀ (cdv : Value) (A : Around) (outer : List Env) (s : Shared) (H : Hp) (vs : List V) (Q : VK) (E : XK), Room k (A.deeper (envOfC qual (defScope st) s.heap.objs.size f cdv)) → sp vs H Q E →
      ∃ t, PSs (cxOf CX0 P w K mg base N qual (defScope st) f cdv A outer s H E).nox (defBody st) t ∧ t { nx := fun _ H' => Q .non H', rt := Q } (start N vs) H) : FnOk P w K mg base CX0 (k + 1) f fd ps sp := by
  obtain ⟨oc, od, dV, kV, doc, pm, an, cdv, ct, osl, rfl, lk, hcd⟩ := F.ex
  refine fn_of lk hcd S len fun A outer s H vs Q E hr hsp => ?_
  obtain ⟨t, h, q⟩ := hbody cdv A outer s H vs Q E hr hsp
  exact ⟨t, h.nox, q⟩
theorem funD_mk {x qual : Str} {st : Stmt} {f : Addr} {oc dV : Value} {od an : Option Addr} {osl : Array (Option Value)} {kV doc pm cdv ct : Value} (l : K.lookup f = some ⟨oc, od, .func (PySem.W.fnOf x qual (defArgs st) (defBody st) (defScope st) dV kV doc pm an cdv ct), osl⟩)
    (c : PySem.W.codeIn K cdv qual = true) (k : PySem.W.keepIn K (.ref f) = true) : FunD K x qual st f (PySem.W.fnOf x qual (defArgs st) (defBody st) (defScope st) dV kV doc pm an cdv ct) := ⟨⟨oc, od, dV, kV, doc, pm, an, cdv, ct, osl, rfl, l, c⟩, k⟩
theorem bindsD {f td : Addr} {oc tc : Value} {od to_ : Option Addr} {osl ts : Array (Option Value)} {fd : FuncData} {items : Array Value} {tn : Nat} {ps : List Str} {ds : List Value} (_ : K.lookup f = some ⟨oc, od, .func fd, osl⟩) (t : K.lookup td = some ⟨tc, to_, .seq items tn, ts⟩)
    (h : ∀ us : List Value, us.length + ds.length = ps.length → ∃ k, bindArgs fd ⟨us, []⟩ = seqItems? (.ref td) >>= k ∧ k (some items) = pure (ps.zip (us ++ ds))) (hd : fd.defaults = .ref td := by rfl) : Binds K fd ps ds := by
  intro s us KX hl
  obtain ⟨k, h1, h2⟩ := h us (by rw [List.length_append] at hl; exact hl)
  exact BindsTo.of_defaults hd (KX _ _ t) rfl (by rw [h1, hd]) h2
end
section
variable {X : Cx}
theorem op_isN_ : OpR X (compareOp .Is) rIsN := op_isN
theorem op_notN_ : OpR X (compareOp .IsNot) rNotN := op_notN
theorem call_lenL : CallR X (.builtin "len") (cLenL X.K) := call_len_seq
def kk (t n : String) : Option Bool := if (Value.type t == Value.type n) = true then some true else if PySem.W.kitMeta n = true then (fastBuiltinMro t).map (·.contains (.type n)) else none
theorem kit_kk (K : PySem.W.Frag) (t n : String) : PySem.W.kitOne K (.type t) (.type n) = kk t n := rfl
theorem kk_int_int : kk "int" "int" = some true := by decide +kernel
theorem kk_int_bool : kk "int" "bool" = some false := by decide +kernel
theorem kk_int_str : kk "int" "str" = some false := by decide +kernel
theorem kk_int_list : kk "int" "list" = some false := by decide +kernel
theorem kk_int_tuple : kk "int" "tuple" = some false := by decide +kernel
theorem kk_int_dict : kk "int" "dict" = some false := by decide +kernel
theorem kk_bool_int : kk "bool" "int" = some true := by decide +kernel
theorem kk_bool_bool : kk "bool" "bool" = some true := by decide +kernel
theorem kk_bool_str : kk "bool" "str" = some false := by decide +kernel
theorem kk_bool_list : kk "bool" "list" = some false := by decide +kernel
theorem kk_bool_tuple : kk "bool" "tuple" = some false := by decide +kernel
theorem kk_bool_dict : kk "bool" "dict" = some false := by decide +kernel
theorem kk_str_int : kk "str" "int" = some false := by decide +kernel
theorem kk_str_bool : kk "str" "bool" = some false := by decide +kernel
theorem kk_str_str : kk "str" "str" = some true := by decide +kernel
theorem kk_str_list : kk "str" "list" = some false := by decide +kernel
theorem kk_str_tuple : kk "str" "tuple" = some false := by decide +kernel
theorem kk_str_dict : kk "str" "dict" = some false := by decide +kernel
theorem kk_NoneType_int : kk "NoneType" "int" = some false := by decide +kernel
theorem kk_NoneType_bool : kk "NoneType" "bool" = some false := by decide +kernel
theorem kk_NoneType_str : kk "NoneType" "str" = some false := by decide +kernel
theorem kk_NoneType_list : kk "NoneType" "list" = some false := by decide +kernel
theorem kk_NoneType_tuple : kk "NoneType" "tuple" = some false := by decide +kernel
theorem kk_NoneType_dict : kk "NoneType" "dict" = some false := by decide +kernel
theorem kk_list_int : kk "list" "int" = some false := by decide +kernel
theorem kk_list_bool : kk "list" "bool" = some false := by decide +kernel
theorem kk_list_str : kk "list" "str" = some false := by decide +kernel
theorem kk_list_list : kk "list" "list" = some true := by decide +kernel
theorem kk_list_tuple : kk "list" "tuple" = some false := by decide +kernel
theorem kk_list_dict : kk "list" "dict" = some false := by decide +kernel
theorem kk_tuple_int : kk "tuple" "int" = some false := by decide +kernel
theorem kk_tuple_bool : kk "tuple" "bool" = some false := by decide +kernel
theorem kk_tuple_str : kk "tuple" "str" = some false := by decide +kernel
theorem kk_tuple_list : kk "tuple" "list" = some false := by decide +kernel
theorem kk_tuple_tuple : kk "tuple" "tuple" = some true := by decide +kernel
theorem kk_tuple_dict : kk "tuple" "dict" = some false := by decide +kernel
theorem kk_dict_int : kk "dict" "int" = some false := by decide +kernel
theorem kk_dict_bool : kk "dict" "bool" = some false := by decide +kernel
theorem kk_dict_str : kk "dict" "str" = some false := by decide +kernel
theorem kk_dict_list : kk "dict" "list" = some false := by decide +kernel
theorem kk_dict_tuple : kk "dict" "tuple" = some false := by decide +kernel
theorem kk_dict_dict : kk "dict" "dict" = some true := by decide +kernel
theorem tyN_in {H : Hp} {x : V} {t : String} (e : tyN H x = some t) : t = "int" ∨ t = "bool" ∨ t = "str" ∨ t = "NoneType" ∨ t = "list" ∨ t = "tuple" ∨ t = "dict" := by
  unfold tyN at e
  split at e <;> (first | (cases e; simp) | (split at e <;> (first | (cases e; simp) | cases e)) | cases e)
theorem isK_in {t n : String} {k : Bool} (e : isK t n = some k) : n = "int" ∨ n = "bool" ∨ n = "str" ∨ n = "list" ∨ n = "tuple" ∨ n = "dict" := by
  unfold isK at e
  by_cases h : (["int", "bool", "str", "list", "tuple", "dict"].contains n) = true
  · simpa using h
  · rw [if_neg h] at e; cases e
theorem kk_of {H : Hp} {x : V} {t n : String} {k : Bool} (ht : tyN H x = some t) (e : isK t n = some k) : kk t n = some k := by
  rcases tyN_in ht with rfl | rfl | rfl | rfl | rfl | rfl | rfl <;> rcases isK_in e with rfl | rfl | rfl | rfl | rfl | rfl
  · rw [isK_int_int] at e; rw [kk_int_int]; exact e
  · rw [isK_int_bool] at e; rw [kk_int_bool]; exact e
  · rw [isK_int_str] at e; rw [kk_int_str]; exact e
  · rw [isK_int_list] at e; rw [kk_int_list]; exact e
  · rw [isK_int_tuple] at e; rw [kk_int_tuple]; exact e
  · rw [isK_int_dict] at e; rw [kk_int_dict]; exact e
  · rw [isK_bool_int] at e; rw [kk_bool_int]; exact e
  · rw [isK_bool_bool] at e; rw [kk_bool_bool]; exact e
  · rw [isK_bool_str] at e; rw [kk_bool_str]; exact e
  · rw [isK_bool_list] at e; rw [kk_bool_list]; exact e
  · rw [isK_bool_tuple] at e; rw [kk_bool_tuple]; exact e
  · rw [isK_bool_dict] at e; rw [kk_bool_dict]; exact e
  · rw [isK_str_int] at e; rw [kk_str_int]; exact e
  · rw [isK_str_bool] at e; rw [kk_str_bool]; exact e
  · rw [isK_str_str] at e; rw [kk_str_str]; exact e
  · rw [isK_str_list] at e; rw [kk_str_list]; exact e
  · rw [isK_str_tuple] at e; rw [kk_str_tuple]; exact e
  · rw [isK_str_dict] at e; rw [kk_str_dict]; exact e
  · rw [isK_NoneType_int] at e; rw [kk_NoneType_int]; exact e
  · rw [isK_NoneType_bool] at e; rw [kk_NoneType_bool]; exact e
  · rw [isK_NoneType_str] at e; rw [kk_NoneType_str]; exact e
  · rw [isK_NoneType_list] at e; rw [kk_NoneType_list]; exact e
  · rw [isK_NoneType_tuple] at e; rw [kk_NoneType_tuple]; exact e
  · rw [isK_NoneType_dict] at e; rw [kk_NoneType_dict]; exact e
  · rw [isK_list_int] at e; rw [kk_list_int]; exact e
  · rw [isK_list_bool] at e; rw [kk_list_bool]; exact e
  · rw [isK_list_str] at e; rw [kk_list_str]; exact e
  · rw [isK_list_list] at e; rw [kk_list_list]; exact e
  · rw [isK_list_tuple] at e; rw [kk_list_tuple]; exact e
  · rw [isK_list_dict] at e; rw [kk_list_dict]; exact e
  · rw [isK_tuple_int] at e; rw [kk_tuple_int]; exact e
  · rw [isK_tuple_bool] at e; rw [kk_tuple_bool]; exact e
  · rw [isK_tuple_str] at e; rw [kk_tuple_str]; exact e
  · rw [isK_tuple_list] at e; rw [kk_tuple_list]; exact e
  · rw [isK_tuple_tuple] at e; rw [kk_tuple_tuple]; exact e
  · rw [isK_tuple_dict] at e; rw [kk_tuple_dict]; exact e
  · rw [isK_dict_int] at e; rw [kk_dict_int]; exact e
  · rw [isK_dict_bool] at e; rw [kk_dict_bool]; exact e
  · rw [isK_dict_str] at e; rw [kk_dict_str]; exact e
  · rw [isK_dict_list] at e; rw [kk_dict_list]; exact e
  · rw [isK_dict_tuple] at e; rw [kk_dict_tuple]; exact e
  · rw [isK_dict_dict] at e; rw [kk_dict_dict]; exact e
theorem tyOf {K : PySem.W.Frag} {H : Hp} {x : V} {t : String} (e : tyN H x = some t) : TyOf K H x (.type t) := by
  cases x with
  | non => cases e; exact .non
  | bl y => cases e; exact .bl y
  | int y => cases e; exact .int y
  | str y => cases e; exact .str y
  | byt y => cases e
  | flt y => cases e
  | ty y => cases e
  | ref a =>
    have e' : (match H a with | some (.lst _) => some "list" | some (.frz _ (.lst _)) => some "list" | some (.tup _) => some "tuple" | some (.dK _) => some "dict" | some (.dT _) => some "dict" | _ => none) = some t := e
    split at e'
    · rename_i h; cases e'; exact .lst h
    · rename_i h; cases e'; exact .frz h
    · rename_i h; cases e'; exact .tup h
    · rename_i h; cases e'; exact .dK h
    · rename_i h; cases e'; exact .dT h
    · cases e'
theorem call_isi : CallR X (.builtin "isinstance") cIsi := by
  intro pins s σ H xs us Q I r h
  obtain ⟨x, n, t, k, rfl, ht, hk, q⟩ := h
  obtain ⟨u, w', rfl, rx, rn⟩ := vals2 r
  have rn' : w' = Value.type n := rn
  subst rn'
  exact isinst_ok (t := .type t) (b := k) I rx (tyOf ht) ((kit_kk _ _ _).trans (kk_of ht hk)) fun tk => ⟨.bl k, H, I.tok _, rfl, q⟩
end
end G
namespace G
open PySem L2 PySem.Spec PyProof.Rows
section
variable {X : Cx}
end
end G
namespace G
open PySem L2 PySem.Spec PyProof.Rows
section
variable {X : Cx}
theorem CMulB.ok {i j : Int} (h : CMulB i j) : IntMulOk i j := by
  rcases h with h | ⟨h1, h2⟩
  · exact h.ok
  · have bits : ∀ k : Int, k.natAbs < 2 ^ 256 → Builtin.Int.intBits k ≤ 2 ^ 20 := fun k hk => by
      unfold Builtin.Int.intBits
      split
      · exact Nat.zero_le _
      · rename_i hn
        have hk0 : k.natAbs ≠ 0 := fun e => hn (by simpa using e)
        have := (Nat.log2_lt hk0).mpr hk
        omega
    exact IntMulOk.of_bits (bits i h1) (bits j h2)
end
end G
namespace G
open PySem L2
end G
namespace G
open PySem L2 PySem.Spec PyProof.Rows
section
variable {X : Cx} {pins : List (Addr × Obj)} {σ : L2.St} {H : Hp} {s : Shared} {acc : Addr} {ys : List V} {its : List Value} {n : Nat}
theorem adopt (I : Inv X pins σ H s) (hf : FpOk X pins H acc) (ho : s.heap.get? acc = some { cls := .type "list", data := .seq its.toArray n }) (hv : Vals ys its) (hz : ys.length ≤ sizeLine) : Inv X pins σ (upd H acc (.lst ys)) s := by
  obtain ⟨f0, f1, f2, f3, f4, f5⟩ := hf
  have ne : ∀ b u, H b = some u → b ≠ acc := fun b u e => ne_of_none e f0
  refine I.step (h' := s.heap) (g' := s.gens) (t' := s.toks) (d' := s.drawn) (ch := [acc]) (fun b hb => ?_) (fun _ _ _ _ _ e _ => e) (fun b o _ _ _ e _ => ⟨o.slots, e⟩) (fun b o hb e h0 => ?_) (fun b o _ e => ⟨o, e⟩)
    (fun b xs e => by rw [upd_ne (ne b _ e)]; exact e) (fun b o u e => by rw [upd_ne (ne b _ e)]; exact e) (fun b ps e => ⟨#[], by rw [upd_ne (ne b _ e), e]; simp⟩) (fun m hm => hm) (fun b u e => ?_) I.bare
  · have e : b = acc := by simpa using hb
    subst e
    exact ⟨f3, f1, f4, f5⟩
  · have e : b ≠ acc := by simpa using hb
    rw [upd_ne e]; exact h0
  · by_cases hb : b = acc
    · subst hb
      rw [upd_same] at e; cases e
      exact ⟨hz, its, n, hv, ho⟩
    · rw [upd_ne hb] at e
      exact (I.hok b u e).stay (fun _ _ _ q => q) (fun c q => by rw [upd_ne (ne c _ q)]; exact q) fun c xs q => by rw [upd_ne (ne c _ q)]; exact q
theorem disown (I : Inv X pins σ (upd H acc (.lst ys)) s) (hf : FpOk X pins H acc) : Inv X pins σ H s := by
  obtain ⟨f0, f1, f2, f3, f4, f5⟩ := hf
  have back : ∀ b u, upd H acc (.lst ys) b = some u → u ≠ .lst ys → H b = some u := fun b u e hne => by
    by_cases hb : b = acc
    · subst hb
      rw [upd_same] at e; cases e; exact absurd rfl hne
    · rw [upd_ne hb] at e; exact e
  refine I.step (h' := s.heap) (g' := s.gens) (t' := s.toks) (d' := s.drawn) (ch := [acc]) (fun b hb => ?_) (fun _ _ _ _ _ e _ => e) (fun b o _ _ _ e _ => ⟨o.slots, e⟩) (fun b o hb e h0 => ?_) (fun b o _ e => ⟨o, e⟩)
    (fun b xs e => back b _ e (fun z => nomatch z)) (fun b o u e => back b _ e (fun z => nomatch z)) (fun b ps e => ⟨#[], by rw [back b _ e (fun z => nomatch z)]; simp⟩) (fun m hm => hm) (fun b u e => ?_) I.bare
  · have e : b = acc := by simpa using hb
    subst e
    exact ⟨f3, f1, f4, f5⟩
  · have e : b ≠ acc := by simpa using hb
    rw [upd_ne e] at h0; exact h0
  · have hb : b ≠ acc := ne_of_none e f0
    have e' : upd H acc (.lst ys) b = some u := by rw [upd_ne hb]; exact e
    exact (I.hok b u e').stay (fun _ _ _ q => q) (fun c q => back c _ q (fun z => nomatch z)) fun c xs q => back c _ q (fun z => nomatch z)
end
def PF (X : Cx) (ifs : List Expr) (t : TT) : Prop :=
  ∀ (pins : List (Addr × Obj)) (s : Shared) (σ : L2.St) (H : Hp) (Q : Bool → Hp → Prop), Inv X pins σ H s → t σ H Q →
    wpAny (model X.prog X.w) X.A (forIn ifs true fun c r => if r = true then do let ok ← isTrue c X.env (eval c X.env); pure (ForInStep.yield ok) else pure (ForInStep.yield r)) (TP X pins σ Q) X.xe s
theorem pf_one {X : Cx} {c : Expr} {t : TT} (h : PT X c t) : PF X [c] t := fun pins s σ H Q I q => wpAny_tests_one (h pins s σ H Q I q)
def cxLC (X : Cx) (scope : Scope) (cl : List (Str × Addr)) (N : List Str) (C : Addr) (s : Shared) (H : Hp) (ex : List Addr) (pn : List (Addr × Obj)) : Cx :=
  { X with N := N, s₀ := s, H₀ := H, env := compEnvC scope cl C X.env, outer := X.stack, ex := ex, fn := fun _ => false, pn := pn, xe := fun _ _ => False }
def AllIn (cells : List (Str × Addr)) : List (Str × Addr) → Prop
  | [] => True
  | p :: r => cells.lookup p.1 = some p.2 ∧ AllIn cells r
theorem AllIn.get {cells : List (Str × Addr)} : ∀ {cl : List (Str × Addr)}, AllIn cells cl → ∀ {x : Str} {c : Addr}, cl.lookup x = some c → cells.lookup x = some c
  | [], _, x, c, h => by cases h
  | (y, d) :: r, a, x, c, h => by
    cases e : (x == y) with
    | true =>
      rw [List.lookup_cons, e] at h
      have e' : x = y := beq_iff_eq.mp e
      subst e'
      cases h
      exact a.1
    | false =>
      rw [List.lookup_cons, e] at h
      exact AllIn.get a.2 h
def CapOk (X : Cx) : List Str → List Nat → Prop
  | [], [] => True
  | y :: r, j :: js => X.N[j]? = some y ∧ X.env.kindOf y = some .cell ∧ CapOk X r js
  | _, _ => False
theorem CapOk.len {X : Cx} : ∀ {ns : List Str} {js : List Nat}, CapOk X ns js → ns.length = js.length
  | [], [], _ => rfl
  | [], _ :: _, h => h.elim
  | _ :: _, [], h => h.elim
  | _ :: r, _ :: js, h => by rw [List.length_cons, List.length_cons, CapOk.len h.2.2]
theorem CapOk.get {X : Cx} {σ : L2.St} : ∀ {ns : List Str} {js : List Nat}, CapOk X ns js → ∀ {i : Nat} {x : Str} {v : V}, ns[i]? = some x → (js.map (pick σ))[i]? = some (some v) → ∃ j : Nat, X.N[j]? = some x ∧ X.env.kindOf x = some .cell ∧ σ[j]? = some (some v)
  | [], _, _, i, x, v, h, _ => by simp at h
  | _ :: _, [], h, _, _, _, _, _ => h.elim
  | y :: r, j :: js, h, 0, x, v, h1, h2 => by
    simp at h1 h2
    subst h1
    refine ⟨j, h.1, h.2.1, ?_⟩
    unfold pick at h2
    split at h2
    · rename_i e; rw [e, h2]
    · cases h2
  | y :: r, j :: js, h, i + 1, x, v, h1, h2 => CapOk.get (i := i) h.2.2 (by simpa using h1) (by simpa using h2)
theorem lk_ne {x n : Str} {k : NameKind} {r : List (Str × NameKind)} (h : (x == n) = false) : List.lookup x ((n, k) :: r) = List.lookup x r := by rw [List.lookup_cons, h]
theorem lk_eq {x n : Str} {k : NameKind} {r : List (Str × NameKind)} (h : (x == n) = true) : List.lookup x ((n, k) :: r) = some k := by rw [List.lookup_cons, h]
def relK (env : Env) (x : Str) (k : NameKind) : NameKind := if (k == NameKind.free && env.scope.kind == .function && env.kindOf x == some .cell) = true then .cell else k
theorem lookup_relabel {env : Env} {x : Str} : ∀ {names : List (Str × NameKind)},
    (names.map fun (n, k) => if (k == NameKind.free && env.scope.kind == .function && env.kindOf n == some .cell) then (n, NameKind.cell) else (n, k)).lookup x = (names.lookup x).map (relK env x)
  | [] => rfl
  | (n, k') :: r => by
    have ih := @lookup_relabel env x r
    show List.lookup x ((if (k' == NameKind.free && env.scope.kind == .function && env.kindOf n == some .cell) = true then (n, NameKind.cell) else (n, k')) :: r.map fun (n, k) => if (k == NameKind.free && env.scope.kind == .function && env.kindOf n == some .cell) then (n, NameKind.cell) else (n, k)) = _
    cases hx : x == n with
    | true =>
      have e := beq_iff_eq.mp hx
      subst e
      rw [lk_eq (k := k') hx]
      by_cases hc : (k' == NameKind.free && env.scope.kind == .function && env.kindOf x == some .cell) = true
      · rw [if_pos hc, lk_eq hx]
        show some NameKind.cell = some (relK env x k')
        unfold relK; rw [if_pos hc]
      · rw [if_neg hc, lk_eq hx]
        show some k' = some (relK env x k')
        unfold relK; rw [if_neg hc]
    | false =>
      rw [lk_ne (k := k') (r := r) hx]
      by_cases hc : (k' == NameKind.free && env.scope.kind == .function && env.kindOf n == some .cell) = true
      · rw [if_pos hc, lk_ne hx]; exact ih
      · rw [if_neg hc, lk_ne hx]; exact ih
theorem lookup_all {names : List (Str × NameKind)} {p : Str × NameKind → Bool} : ∀ {x : Str} {k : NameKind}, names.all p = true → names.lookup x = some k → p (x, k) = true := by
  induction names with
  | nil => intro x k _ h; simp at h
  | cons y r ih =>
    intro x k ha h
    obtain ⟨n, k'⟩ := y
    rw [List.all_cons, Bool.and_eq_true] at ha
    cases hx : x == n with
    | true =>
      rw [List.lookup_cons, hx] at h
      have e1 : x = n := beq_iff_eq.mp hx
      have e2 : k' = k := Option.some.inj h
      rw [e1, ← e2]; exact ha.1
    | false =>
      rw [List.lookup_cons, hx] at h
      exact ih ha.2 h
theorem compLoop_go {prog : Program} {w : World} {A : Around} {R : Result → Shared → Prop} {s : Shared} {elt target iter : Expr} {ifs : List Expr} {scope : Scope} {pos : Pos} {it acc : Value} {env : Env} (I : Nat → Shared → Prop)
    (turn : ∀ n s, I n s → wpAny (model prog w) A (pyNext it) (fun r s₁ => match r with
      | none => R (.ok .next) s₁
      | some v => wpAny (model prog w) A (letOwnedTupleGo target it v) (fun _ s₁' => wpAny (model prog w) A (assign target env v) (fun _ s₂ =>
          wpAny (model prog w) A (forIn ifs true fun c r => if r = true then do let ok ← isTrue c env (eval c env); pure (ForInStep.yield ok) else pure (ForInStep.yield r)) (fun ok s₃ =>
            if ok = true then wpAny (model prog w) A (eval elt env) (fun x s₄ =>
              wpAny (model prog w) A (call (.builtin "list.append") [acc, x]) (fun _ s₅ => ∃ m, m < n ∧ I m s₅) (fun _ _ => False) s₄) (fun _ _ => False) s₃
            else ∃ m, m < n ∧ I m s₃) (fun _ _ => False) s₂) (fun _ _ => False) s₁') (fun _ _ => False) s₁) (fun _ _ => False) s)
    (n : Nat) (h : I n s) :
    codeAny (model prog w) A (.compLoop (.ListComp elt [⟨target, iter, ifs, 0⟩] scope pos) 0 it acc env) R s := by
  refine codeAny_loop rfl I (fun n s hI => ?_) n h
  show wpAny _ A ((compTurn (.ListComp elt [⟨target, iter, ifs, 0⟩] scope pos) 0 it acc env).onRaise (fun x => do noteFrame x env; theTreesLotGoes x)) _ _ s
  refine wpAny_noted ?_
  rw [compTurn_list]
  refine wpAny_bind (wpAny_standAt (wpAny_bind (wpAny_mono (turn n s hI) (fun r s₁ h₁ => ?_) fun _ _ h' => h'.elim)))
  cases r with
  | none => exact wpAny_pure h₁
  | some v =>
    refine wpAny_bind (wpAny_mono h₁ (fun _ s₁' h₁' => ?_) fun _ _ h' => h'.elim)
    refine wpAny_bind (wpAny_mono h₁' (fun _ s₂ h₂ => wpAny_bind (wpAny_mono h₂ (fun ok s₃ h₃ => ?_) fun _ _ h' => h'.elim)) fun _ _ h' => h'.elim)
    cases ok with
    | false => exact wpAny_pure ⟨rfl, h₃⟩
    | true =>
      exact wpAny_bind (wpAny_bind (wpAny_mono h₃ (fun x s₄ h₄ => wpAny_bind (wpAny_mono h₄ (fun _ s₅ h₅ => wpAny_pure (wpAny_pure ⟨rfl, h₅⟩)) fun _ _ h' => h'.elim)) fun _ _ h' => h'.elim))
theorem pe_lc {X : Cx} {elt iter : Expr} {x : Str} {px pos : Pos} {ifs : List Expr} {scope : Scope} {cl : List (Str × Addr)} {wi : TI} {tc : TT} {te : TE} {cns : List Str} (caps : List Nat)
    (hi : PI X (.Name x px) iter wi)
    (hf : ∀ C s H ex pn, PF (cxLC X scope cl (x :: cns) C s H ex pn) ifs tc) (he : ∀ C s H ex pn, PE (cxLC X scope cl (x :: cns) C s H ex pn) elt te) (hc : X.calm = true)
    (hclos : closureFor scope X.env = pure cl) (hcl : AllIn X.env.cells cl) (hcap : CapOk X cns caps)
    (hkind : scope.kind = .function) (hcell : (scope.names.all fun p => p.2 != .cell) = true) (hfree : (scope.names.all fun p => p.2 != .free || (cl.lookup p.1).isSome) = true)
    (hcf : (cns.all fun y => scope.names.lookup y == some .free) = true) (hnames : ∀ y ∈ scope.names, y.2 = .local → scope.names.lookup y.1 = some .local) (hx : scope.names.lookup x = some .local) (hnd : (x :: cns).Nodup)
    (hs : ∀ v, foldedSetIterable iter X.env v = pure v := by intro _; rfl) :
    PE X (.ListComp elt [⟨.Name x px, iter, ifs, 0⟩] scope pos) (tLC wi caps tc te) := by
  intro pins s σ H Q I h
  rw [eval_ListComp]
  refine wpAny_comprehension_free (use := none) rfl hs hclos hkind hnames (thn (hi pins s σ H _ I h) fun xv s1 h1 => thn h1 fun itv s2 h2 => ?_)
  obtain ⟨it, fp, tn, J, H2, rfl, I2, T, st2, f2, W, ⟨m0, w0⟩, turn⟩ := h2
  have hne : ∀ y ∈ scope.names, y.2 ≠ .cell := fun y hy e => by
    have := List.all_eq_true.mp hcell y hy
    rw [e] at this; simp at this
  refine wpAny_newObj_type (wpAny_newFunctionEnv hne (by intro y hy; simp at hy) (fun h₁ hns₁ hsb₁ => ?_) hkind)
  dsimp only at hns₁ hsb₁ ⊢
  generalize hacc : s2.heap.objs.size = acc
  generalize hH3 : s2.heap.push { cls := .type "list", dict := none, data := .seq ([] : List Value).toArray } = h3 at hns₁ hsb₁ ⊢
  have hC : h3.objs.size = acc + 1 := by rw [← hH3, Heap.size_push, hacc]
  have k23 : ∀ b o, s2.heap.get? b = some o → h3.get? b = some o := fun b o e => hH3 ▸ Heap.get?_push_of_some _ e
  have k34 : ∀ b o, h3.get? b = some o → h₁.get? b = some o := fun b o e => hsb₁.extBut b o (Nat.ne_of_lt (Heap.lt_size e)) (Heap.get?_push_of_some _ e)
  have oacc : h3.get? acc = some { cls := .type "list", dict := none, data := .seq ([] : List Value).toArray } := by
    rw [← hH3, ← hacc]; exact Heap.get?_push_size _ rfl
  -- the state ahead of the block
  have I3 : Inv X pins σ H2 { s2 with heap := h3 } := I2.kept (t' := s2.toks) k23
  have facc : FpOk X pins H2 acc := I2.fpOk (Nat.le_of_eq hacc) (I2.hok.fresh (Nat.le_of_eq hacc))
  have fpl : ∀ b ∈ fp, b < acc := fun b hb => by
    obtain ⟨o, e, _⟩ := T.obj _ _ st2 b hb
    rw [← hacc]; exact Heap.lt_size e
  have exok : ∀ b ∈ acc :: fp, FpOk X pins H2 b := fun b hb => (List.mem_cons.mp hb).elim (fun e => e ▸ facc) (f2 b)
  have exC : ∀ b ∈ acc :: fp, b ≠ h3.objs.size := fun b hb => by
    rcases List.mem_cons.mp hb with e | hb
    · rw [hC, e]; exact Nat.ne_of_lt (Nat.lt_succ_self _)
    · rw [hC]; exact Nat.ne_of_lt (Nat.lt_succ_of_lt (fpl b hb))
  have stk_no : ∀ b ∈ acc :: fp, b ∉ frs X.stack := fun b hb hm => by
    obtain ⟨_, g1, g2, _⟩ := exok b hb
    exact (List.mem_cons.mp (I2.stkSub b hm)).elim g1 g2
  let Y : Cx := cxLC X scope cl (x :: cns) h3.objs.size { s2 with heap := h3 } H2 (acc :: fp) (X.pn ++ pins)
  have cellsOf : ∀ y c, cl.lookup y = some c → X.env.cells.lookup y = some c := fun y c e => hcl.get e
  have kindY : ∀ y k, Y.env.kindOf y = some k → (k = .cell ∨ k = .free) → ∃ c, cl.lookup y = some c := fun y k e hk => by
    have e0 : (scope.names.lookup y).map (relK X.env y) = some k := lookup_relabel.symm.trans e
    obtain ⟨k0, e1, e2⟩ := Option.map_eq_some_iff.mp e0
    have e3 := lookup_all hfree e1
    have e4 := lookup_all hcell e1
    by_cases hf : k0 = .free
    · subst hf
      rw [Bool.or_eq_true] at e3
      rcases e3 with e3 | e3
      · exact absurd rfl (bne_iff_ne.mp e3)
      · exact Option.isSome_iff_exists.mp e3
    · exfalso
      have e5 : relK X.env y k0 = k0 := by
        unfold relK
        rw [if_neg]
        intro z
        rw [Bool.and_eq_true, Bool.and_eq_true] at z
        exact hf (beq_iff_eq.mp z.1.1)
      rw [e5] at e2
      subst e2
      rcases hk with rfl | rfl
      · simp at e4
      · exact hf rfl
  have okY : Y.Ok := {
    mod := I2.ok.mod
    kind := hkind
    glob := I2.ok.glob
    blt := I2.ok.blt
    above := Nat.le_refl _
    inj := fun a b c e1 e2 => I2.ok.inj a b c (cellsOf _ _ e1) (cellsOf _ _ e2)
    has := fun y hy => hy.elim (fun e => kindY y _ e (.inl rfl)) (fun e => kindY y _ e (.inr rfl))
    cab := fun y c e => nomatch e
    hd := I2.ok.hd
    frames := I2.ok.frames
    stk := .inl rfl
    exf := fun b hb => ⟨exC b hb, fun y c e => (exok b hb).2.2.2.2.1 y c (cellsOf _ _ e)⟩
    bs := fun b o e => ⟨k23 b o (I2.bs b o e).1, (I2.bs b o e).2⟩
    bsz := by
      show X.base.objs.size ≤ h3.objs.size
      rw [hC, ← hacc]
      exact Nat.le_succ_of_le (Nat.le_trans I2.ok.bsz I2.sz)
    noex := fun b o e hb => by
      rcases (exok b hb).2.2.2.1 with z | z
      · exact I2.ok.noex b o e z
      · exact absurd (Nat.lt_of_lt_of_le (Heap.lt_size e) (Nat.le_trans I2.ok.bsz z)) (Nat.lt_irrefl _)
    exfs := stk_no
    funs := I3.stack
    frf := I3.stkFree }
  have lenN : (none :: caps.map (pick σ) : L2.St).length = (x :: cns).length := by rw [List.length_cons, List.length_cons, List.length_map, hcap.len]
  have I4 : Inv Y [] (none :: caps.map (pick σ)) H2 { s2 with heap := h₁, toks := s2.toks + ([] : List (Str × Value)).length } := {
    ok := okY
    os := rfl
    bare := I2.bare
    base := Un.kept k34
    loc := by
      refine ⟨_, hns₁, fun i y v e1 e2 e3 => ?_⟩
      cases i with
      | zero => simp at e2
      | succ i =>
        obtain ⟨j, j1, j2, j3⟩ := hcap.get (σ := σ) (i := i) (x := y) (v := v) (by have e1' : (x :: cns)[i + 1]? = some y := e1; simpa using e1') (by simpa using e2)
        obtain ⟨m, hn, hl⟩ := I2.loc
        obtain ⟨u, r, l⟩ := hl j y v j1 j3 (.inr (.inl j2))
        rcases l with ⟨l, _⟩ | ⟨_, c, l1, l2⟩
        · rw [j2] at l; cases l
        · refine ⟨u, r, .inr ?_⟩
          rcases e3 with e3 | e3 | e3
          · exfalso
            have hm : y ∈ cns := List.mem_of_getElem? (show cns[i]? = some y by have e1' : (x :: cns)[i + 1]? = some y := e1; simpa using e1')
            have hl : scope.names.lookup y = some .free := beq_iff_eq.mp (List.all_eq_true.mp hcf y hm)
            have e0 : (scope.names.lookup y).map (relK X.env y) = some .local := lookup_relabel.symm.trans e3
            rw [hl] at e0
            have e5 : relK X.env y .free = .local := Option.some.inj e0
            unfold relK at e5
            split at e5 <;> cases e5
          · obtain ⟨c', hc'⟩ := kindY y _ e3 (.inl rfl)
            have := cellsOf _ _ hc'
            rw [l1] at this; cases this
            exact ⟨.inl e3, c, hc', l2.keeps fun b o e => k34 _ _ (k23 _ _ e)⟩
          · obtain ⟨c', hc'⟩ := kindY y _ e3 (.inr rfl)
            have := cellsOf _ _ hc'
            rw [l1] at this; cases this
            exact ⟨.inr e3, c, hc', l2.keeps fun b o e => k34 _ _ (k23 _ _ e)⟩
    cell := fun y c e => by
      obtain ⟨v, z⟩ := I2.cell y c (cellsOf _ _ e)
      exact ⟨v, z.keeps fun b o e => k34 _ _ (k23 _ _ e)⟩
    free := I2.hok.fresh (by rw [hacc]; show acc ≤ h3.objs.size; rw [hC]; exact Nat.le_succ _)
    freeC := fun y c e => I2.freeC y c (cellsOf _ _ e)
    pin := fun p hp => by
      have hp2 : p ∈ (X.pn ++ pins) ++ [] := hp
      have hp' : p ∈ X.pn ++ pins := by rw [List.append_nil] at hp2; exact hp2
      obtain ⟨p1, p2, p3, p4, p5⟩ := I2.pin p hp'
      refine ⟨k34 _ _ (k23 _ _ p1), p2, ?_, fun hm => (List.mem_cons.mp (I2.stkSub _ hm)).elim p3 p4, p5⟩
      exact Nat.ne_of_lt (by show p.1 < h3.objs.size; exact Heap.lt_size (k23 _ _ p1))
    hok := I2.hok.kept fun b u e => k34 _ _ (k23 _ _ e)
    len := lenN }
  -- what stays true of the records through the loop
  have fpY : ∀ {H' : Hp} {pl : List (Addr × Obj)} {b : Addr}, b ∈ acc :: fp → H' b = none → (∀ p ∈ pl, p.1 ≠ b) → FpOk Y pl H' b := fun {H' pl b} hb hn hp =>
    ⟨hn, exC b hb, stk_no b hb, .inl hb, fun y c e => (exok b hb).2.2.2.2.1 y c (cellsOf _ _ e), fun p hm => (List.mem_append.mp hm).elim (fun z => (exok b hb).2.2.2.2.2 p z) (hp p)⟩
  have fin : ∀ {σ' : L2.St} {H' : Hp} {s' : Shared} {ys : List V} {its : List Value} {kk : Nat} {pl : List (Addr × Obj)}, Inv Y pl σ' H' s' → H' acc = none → Vals ys its → ys.length ≤ sizeLine →
      s'.heap.get? acc = some { cls := .type "list", data := .seq its.toArray kk } → (∀ p, H' p = none → Q (.ref p) (upd H' p (.lst ys))) →
      ∀ h', Heap.SameBut h3.objs.size s'.heap h' → EP X pins σ Q (.ref acc) { s' with heap := h' } := fun {σ' H' s' ys its kk pl} J ha hv hz ho hq h' hs' => by
    have hacC : acc ≠ h3.objs.size := exC acc (List.mem_cons_self)
    have keepC : ∀ b o, b ≠ h3.objs.size → s'.heap.get? b = some o → h'.get? b = some o := fun b o hb e => hs'.extBut b o hb e
    have ltC : ∀ b o, s2.heap.get? b = some o → b ≠ h3.objs.size := fun b o e => Nat.ne_of_lt (Heap.lt_size (k23 b o e))
    have hCfree : H' h3.objs.size = none := J.free
    have un : Un (frs X.stack) (acc :: fp) H2 H' s2.heap h' := {
      keep := fun b o e n hb hx => keepC b o (ltC b o e) (J.base.keep b o (k23 b o e) n hb hx)
      slot := fun b o e n hb hx => by
        obtain ⟨sl, q⟩ := J.base.slot b o (k23 b o e) n hb hx
        exact ⟨sl, keepC b _ (ltC b o e) q⟩
      free := fun b o e n hx => J.base.free b o (k23 b o e) n hx
      there := fun b o e hx => by
        obtain ⟨o', q⟩ := J.base.there b o (k23 b o e) hx
        exact ⟨o', keepC b o' (ltC b o e) q⟩
      tups := J.base.tups
      frzs := J.base.frzs
      tbls := J.base.tbls }
    have hok : HOk X.prog X.w H' h' := fun b u e => by
      refine (J.hok b u e).stay (fun c v hc q => keepC c v ?_ q) (fun _ q => q) fun _ _ q => q
      rintro rfl
      rcases hc with rfl | hc
      · rw [hCfree] at e; cases e
      · rw [hCfree] at hc; cases hc
    have I5 : Inv X pins σ H' { s' with heap := h' } := I2.call' (ch := acc :: fp) J.os un hok J.bare fun b hb => by
      obtain ⟨g0, g1, g2, g3, g4, g5⟩ := exok b hb
      exact ⟨g3, g1, g4, g5⟩
    refine ⟨.ref acc, _, adopt (acc := acc) I5 ?_ (keepC _ _ hacC ho) hv hz, rfl, hq acc ha⟩
    obtain ⟨g0, g1, g2, g3, g4, g5⟩ := facc
    exact ⟨ha, g1, g2, g3, g4, g5⟩
  have loop : codeAny (model X.prog X.w) X.A (.compLoop (.ListComp elt [⟨.Name x px, iter, ifs, 0⟩] scope pos) 0 (.ref it) (.ref acc) Y.env) (compPost (model X.prog X.w) X.A X.xe none (EP X pins σ Q) (.ref acc) h3.objs.size)
      { s2 with heap := h₁, toks := s2.toks + ([] : List (Str × Value)).length } := by
    refine compLoop_go (fun n s' => ∃ (i : Nat) (v : Option V) (ys : List V) (its : List Value) (kk : Nat) (H' : Hp), Inv Y [] (v :: caps.map (pick σ)) H' s' ∧ tn i s'.heap ∧ (∀ b ∈ fp, H' b = none) ∧ H' acc = none ∧ Vals ys its ∧ ys.length ≤ sizeLine ∧
      s'.heap.get? acc = some { cls := .type "list", data := .seq its.toArray kk } ∧ W i n ys H') ?_ m0 ⟨0, none, [], [], 0, H2, I4, T.keep _ _ _ st2 (fun b _ o e => k34 _ _ (k23 _ _ e)), fun b hb => (f2 b hb).1, facc.1, .nil, Nat.zero_le _, k34 _ _ oacc, w0⟩
    rintro n s5 ⟨i, v, ys, its, kk, H5, I5, st5, fr5, ha5, hv5, hz5, ho5, w5⟩
    -- acc is pinned
    have pinA : Inv Y [(acc, { cls := .type "list", data := .seq its.toArray kk })] (v :: caps.map (pick σ)) H5 s5 := I5.pins_of fun p hp => by
      have e : p = (acc, { cls := .type "list", data := .seq its.toArray kk }) := by simpa using hp
      subst e
      exact ⟨ho5, ha5, exC acc List.mem_cons_self, stk_no acc List.mem_cons_self, fun v => by intro z; cases z⟩
    have fpA : ∀ {H' : Hp}, (∀ b ∈ fp, H' b = none) → ∀ b ∈ fp, FpOk Y [(acc, { cls := .type "list", data := .seq its.toArray kk })] H' b := fun hn b hb => fpY (List.mem_cons_of_mem _ hb) (hn b hb) fun p hp => by
      have e : p = (acc, { cls := .type "list", data := .seq its.toArray kk }) := by simpa using hp
      subst e
      exact (Nat.ne_of_lt (fpl b hb)).symm
    rcases turn i n ys H5 w5 with ⟨stop, qn⟩ | ⟨go, hlt, step⟩
    · refine thn (T.done Y rfl rfl rfl hc i _ s5 _ H5 (fun _ _ => False) pinA (fpA fr5) st5 stop) fun r s6 ⟨hr, I6⟩ => ?_
      subst hr
      obtain ⟨m, hm, _⟩ := I6.loc
      have ho6 := (I6.pin (acc, { cls := .type "list", data := .seq its.toArray kk }) (List.mem_append_right _ List.mem_cons_self)).1
      exact ⟨m, hm, fin I6 ha5 hv5 hz5 ho6 qn⟩
    · refine thn (T.item Y rfl rfl rfl hc i _ s5 _ H5 (fun _ _ => False) pinA (fpA fr5) st5 go) fun r s6 ⟨u, hr, h6⟩ => ?_
      subst hr
      refine thn h6 fun _ s7 ⟨z, H7, I7, r7, y7, st7, fr7⟩ => ?_
      have I7' := I7.pinned (fpA fr7) (T.obj _ _ st7)
      have pg : PG Y (.Name x px) (gName 0) := pg_name hnd rfl (.inl (lookup_relabel_local hx)) (.inr (lookup_relabel_local hx))
      refine thn (pg _ s7 _ H7 z u (fun σ2 H2' => σ2 = some z :: caps.map (pick σ) ∧ H2' = H7) I7' r7 ⟨rfl, rfl⟩) fun _ s8 ⟨σ8, H8, I8, e8, e8'⟩ => ?_
      subst e8 e8'
      refine thn (hf _ _ _ _ _ _ s8 _ H8 _ I8 (step z H8 y7)) fun ok s9 ⟨H9, I9, q9⟩ => ?_
      have stat : ∀ {H' : Hp} {s' : Shared} {σ' : L2.St}, Inv Y ([(acc, { cls := .type "list", data := .seq its.toArray kk })] ++ pinsAt fp s7.heap) σ' H' s' → tn (i + 1) s'.heap ∧ (∀ b ∈ fp, H' b = none) ∧ H' acc = none ∧ s'.heap.get? acc = some { cls := .type "list", data := .seq its.toArray kk } := fun {H' s' σ'} J => by
        have pa := J.pin (acc, { cls := .type "list", data := .seq its.toArray kk }) (List.mem_append_right _ (List.mem_append_left _ List.mem_cons_self))
        refine ⟨T.keep _ _ _ st7 fun b hb o e => (J.pin (b, o) (List.mem_append_right _ (List.mem_append_right _ (mem_pinsAt hb e)))).1, fun b hb => ?_, pa.2.1, pa.1⟩
        obtain ⟨o, e, d⟩ := T.obj _ _ st7 b hb
        exact (J.pin (b, o) (List.mem_append_right _ (List.mem_append_right _ (mem_pinsAt hb e)))).2.1
      have nopin : ∀ {H' : Hp} {s' : Shared} {σ' : L2.St} {pl : List (Addr × Obj)}, Inv Y pl σ' H' s' → Inv Y [] σ' H' s' := fun J => J.pins_of fun p hp => nomatch hp
      cases ok with
      | false =>
        obtain ⟨m', hm, w9⟩ := q9
        obtain ⟨t1, t2, t3, t4⟩ := stat I9
        exact ⟨m', hm, i + 1, some z, ys, its, kk, H9, nopin I9, t1, t2, t3, hv5, hz5, t4, w9⟩
      | true =>
        show wpAny _ _ (eval elt Y.env) _ _ s9
        refine thn (he _ _ _ _ _ _ s9 _ H9 _ I9 q9) fun y s10 ⟨yv, H10, I10, r10, m', hm, w10⟩ => ?_
        obtain ⟨t1, t2, t3, t4⟩ := stat I10
        -- the list of pins without acc
        have I10' : Inv Y (pinsAt fp s7.heap) (some z :: caps.map (pick σ)) H10 s10 := I10.pins_of fun p hp => I10.pin p (List.mem_append_right _ (List.mem_append_right _ hp))
        have fA : FpOk Y (pinsAt fp s7.heap) H10 acc := fpY List.mem_cons_self t3 fun p hp => Nat.ne_of_lt (fpl _ (of_pinsAt hp).1)
        have Ja := adopt I10' fA t4 hv5 hz5
        refine thn (mt_append (X := Y) _ s10 _ _ (.ref acc) [yv] (.ref acc) [y] (fun _ H' => H' = upd (upd H10 acc (.lst ys)) acc (.lst (ys ++ [yv]))) Ja rfl (.cons r10 .nil) ⟨acc, ys, yv, rfl, rfl, upd_same, hlt, rfl⟩) fun _ s11 ⟨_, H11, I11, _, e11⟩ => ?_
        rw [upd_upd] at e11
        subst e11
        obtain ⟨hz11, its', kk', hv11, ho11⟩ := I11.hok acc _ upd_same
        have Jd := disown I11 fA
        have st11 : tn (i + 1) s11.heap := T.keep _ _ _ st7 fun b hb o e => (Jd.pin (b, o) (List.mem_append_right _ (mem_pinsAt hb e))).1
        exact ⟨m', hm, i + 1, some z, ys ++ [yv], its', kk', H10, nopin Jd, st11, t2, t3, hv11, hz11, ho11, w10⟩
  exact codeAny_compStart_list loop (T.self X.A 0 _ _ _ (T.keep _ _ _ st2 (fun b _ o e => k34 _ _ (k23 _ _ e))) loop)
end G
namespace G
open PySem L2 PySem.Spec PyProof.Rows
theorem obj_there {P : Program} {w : World} {H : Hp} {h : Heap} {a : Addr} {o : HO} (x : ObjOk P w H h a o) : ∃ ob, h.get? a = some ob := by
  induction o with
  | lst xs => obtain ⟨_, _, _, _, e⟩ := x; exact ⟨_, e⟩
  | tup xs => obtain ⟨_, _, _, ob, e, _⟩ := x; exact ⟨ob, e⟩
  | dK kvs => obtain ⟨_, _, _, _, ob, _, _, e, _⟩ := x; exact ⟨ob, e⟩
  | dT kvs => obtain ⟨_, _, _, _, ob, _, _, e, _⟩ := x; exact ⟨ob, e⟩
  | set S n => obtain ⟨ob, _, _, _, e, _⟩ := x; exact ⟨ob, e⟩
  | ins C dx fs => obtain ⟨_, _, _, e, _⟩ := x; exact ⟨_, e⟩
  | own y => exact x
  | xd fs => obtain ⟨_, ⟨ob, _, _, e, _⟩, _⟩ := x; exact ⟨ob, e⟩
  | rng lo hi => obtain ⟨_, _, _, e⟩ := x; exact ⟨_, e⟩
  | frz ob u ih => exact ⟨_, x.1⟩
  | tbl ps => exact ⟨_, x⟩
  | met f y => exact ⟨_, x⟩
  | ext φ => obtain ⟨_, e, _⟩ := x; exact e
theorem un_step {P : Program} {w : World} {fs : List Addr} {H0 H1 : Hp} {h0 h1 h2 : Heap} (u : Un fs [] H0 H1 h0 h1) (ok : HOk P w H1 h1) (fr : ∀ b ∈ fs, H1 b = none)
    (kp : ∀ b o, h1.get? b = some o → ((∃ v, h0.get? b = some v) ∨ ∃ v, H1 b = some v) → b ∉ fs → h2.get? b = some o) (sl : ∀ b o, h1.get? b = some o → b ∈ fs → ∃ z, h2.get? b = some { o with slots := z }) :
    Un fs [] H0 H1 h0 h2 ∧ HOk P w H1 h2 := by
  refine ⟨⟨fun b o e n hb hx => kp b o (u.keep b o e n hb hx) (.inl ⟨o, e⟩) hb, fun b o e n hb hx => ?_, u.free, fun b o e hx => ?_, u.tups, u.frzs, u.tbls⟩, fun a o e => ?_⟩
  · obtain ⟨z, e1⟩ := u.slot b o e n hb hx
    obtain ⟨z2, e2⟩ := sl b _ e1 hb
    exact ⟨z2, e2⟩
  · obtain ⟨o', e1⟩ := u.there b o e hx
    by_cases hb : b ∈ fs
    · obtain ⟨z, e2⟩ := sl b _ e1 hb
      exact ⟨_, e2⟩
    · exact ⟨o', kp b o' e1 (.inl ⟨o, e⟩) hb⟩
  · refine (ok a o e).stay (fun b v hb q => ?_) (fun _ q => q) fun _ _ q => q
    have hs : ∃ v, H1 b = some v := by
      rcases hb with z | z
      · exact ⟨o, by rw [z]; exact e⟩
      · exact ⟨_, z⟩
    refine kp b v q (.inr hs) fun z => ?_
    obtain ⟨v', e'⟩ := hs
    rw [fr b z] at e'; cases e'
def CXe (P : Program) (w : World) : CXT := fun outer H s E e s' =>
  ∃ (ea : Addr) (cls a0 : Value) (B : Heap) (H' : Hp), e = .ref ea ∧ s'.os = s.os ∧ AllBare s'.gens ∧ Un (frs outer) [] H H' s.heap s'.heap ∧ HOk P w H' s'.heap ∧ Heap.FlyingW B outer ea cls a0 s'.heap ∧
    (∀ b o, s'.heap.get? b = some o → ((∃ v, s.heap.get? b = some v) ∨ ∃ v, H' b = some v) → b ∉ frs outer → B.get? b = some o) ∧ E cls none H'
theorem passE0 {P : Program} {w : World} {X : Cx} : Passes (CXe P w) X E0 := fun _ _ _ _ _ _ _ h => by
  obtain ⟨_, _, _, _, _, _, _, _, _, _, _, _, z⟩ := h
  exact z.elim
section
variable {P : Program} {w : World} {K : PySem.W.Frag} {mg : Str → Option Value} {base : Heap} {N : List Str} {qual : Str} {scope : Scope} {f : Addr} {cd : Value} {A : Around} {outer : List Env} {s : Shared} {H : Hp} {E : XK}
theorem raiseL {pins : List (Addr × Obj)} {σ : L2.St} {H1 : Hp} {s1 : Shared} {C e : Addr} {vs : List Value} {h1 : Heap} (I : Inv (cxOf (CXe P w) P w K mg base N qual scope f cd A outer s H E) pins σ H1 s1)
    (hx : Heap.MadeExcOf s1.heap h1 e (.ref C) vs) (hE : E (.ref C) none H1) : (cxOf (CXe P w) P w K mg base N qual scope f cd A outer s H E).xe (.ref e) { s1 with heap := h1 } := by
  have L0 : ∀ b o, s.heap.get? b = some o → b ≠ (envOfC qual scope s.heap.objs.size f cd).locals := fun b o e => Nat.ne_of_lt (Nat.lt_of_lt_of_le (Heap.lt_size e) I.ok.above)
  have nin : ∀ b, ((∃ v, s.heap.get? b = some v) ∨ ∃ v, H1 b = some v) → b ∉ frs outer → b ∉ frs (envOfC qual scope s.heap.objs.size f cd :: outer) := fun b hb hn hm => by
    rcases List.mem_cons.mp (I.stkSub b hm) with z | z
    · rcases hb with ⟨v, e⟩ | ⟨v, e⟩
      · exact L0 b v e z
      · rw [z] at e
        have := I.free
        rw [e] at this; cases this
    · exact hn z
  have fh : s1.heap.FunFrames (PySem.W.hideAll s1.heap (frs (envOfC qual scope s.heap.objs.size f cd :: outer))) (envOfC qual scope s.heap.objs.size f cd :: outer) :=
    PySem.W.funFrames_hide I.stack fun env he b hb => List.mem_filterMap.mpr ⟨env, he, hb⟩
  refine wpAny_leaves_madeW (s := { s1 with heap := h1 }) I.ok.frames rfl (fun b o q => PySem.W.of_hideAll _ q) fh hx fun h' t fl _ _ sm => ?_
  have inB : ∀ b o, s1.heap.get? b = some o → ((∃ v, s.heap.get? b = some v) ∨ ∃ v, H1 b = some v) → b ∉ frs outer → (PySem.W.hideAll s1.heap (frs (envOfC qual scope s.heap.objs.size f cd :: outer))).get? b = some o :=
    fun b o e hb hn => PySem.W.hideAll_get _ e (nin b hb hn)
  have dat : ∀ b o, s1.heap.get? b = some o → b ∈ frs outer → ∀ vs, o.data ≠ .fields vs := fun b o e hb => by
    obtain ⟨_, o', ho', hd⟩ := I.funs.mem hb
    rw [e] at ho'; cases ho'; exact hd
  have U := un_step (P := P) (w := w) (h2 := h') I.base I.hok (fun b hb => by
      obtain ⟨_, o, ho, _⟩ := I.ok.funs.mem hb
      exact I.base.free b o ho (I.ok.frf b hb) (fun z => nomatch z)) (fun b o e hb hn => fl.1 _ _ (inB b o e hb hn)) fun b o e hb => sm b o (hx.keeps b o e) (dat b o e hb)
  refine ⟨e, .ref C, .ref t, _, H1, rfl, I.os, I.bare, U.1, U.2, fl, fun b o q hb hn => ?_, hE⟩
  have there : ∃ v, s1.heap.get? b = some v := by
    rcases hb with ⟨v, z⟩ | ⟨v, z⟩
    · exact I.base.there b v z (fun z => nomatch z)
    · exact obj_there (I.hok b v z)
  obtain ⟨v, z⟩ := there
  have q2 := inB b v z hb hn
  have := fl.1 _ _ q2
  rw [q] at this; cases this
  exact q2
end
abbrev ExcK (K : PySem.W.Frag) (C : Addr) : Prop := PySem.W.excIn K C [.type "ValueError", .type "Exception", .type "BaseException", .type "object"] "ValueError.__new__" = true
theorem exc_obj {K : PySem.W.Frag} {h : Heap} {C : Addr} {ms : List Value} {ni : String} (X : K.In h) (q : PySem.W.excIn K C ms ni = true) :
    ∃ tl N nm ql bs hd sn sub ab col dd j0 j1 j2 j3 j5 mN, h.get? C = some (excClassObj nm ql C N bs tl hd sn sub ab col dd j0 j1 j2 j3 j5 ni) ∧ h.Ns N mN ∧ mN "__init__" = none ∧ OwnTail h ms tl := by
  unfold PySem.W.excIn at q
  split at q
  · rename_i dd cdat slots hob
    split at q
    · rename_i C2 tl j0 j1 j2 j3 n2 j5 em es
      simp only [Bool.and_eq_true, beq_iff_eq, Bool.not_eq_true'] at q
      obtain ⟨⟨⟨⟨⟨e1, e2⟩, e3⟩, e4⟩, e5⟩, e6⟩ := q
      subst e1 e2
      obtain ⟨c1, c2, c3, c4, c5, c6, c7, c8, c9, c10, c11⟩ := cdat
      dsimp only at em e3 e5 e6
      subst em e3
      have eslots : slots = #[j0, j1, j2, j3, some (.builtin n2), j5] := by
        obtain ⟨ls⟩ := slots
        simp only at es
        rw [es]
      subst eslots
      refine ⟨tl, c4, c1, c5, c2, c6, c7, c8, c9, c10, dd, j0, j1, j2, j3, j5, h.nsMap c4, X _ _ hob, ?_, PySem.W.nsMap_none_of_in X e5 e6, PySem.W.tail_of_in X e4⟩
      exact .of_isNs (PySem.W.isNs_of_in X e5)
    · cases q
  · cases q
section
variable {X : Cx} {x : Str} {C : Addr} {np cpos pos : Pos} {e : Expr} {es : List Expr} {ta : TA} {E : XK}
theorem ps_raise (hc : X.calm = true) (hg : Gl X x) (hm : X.mg x = some (.ref C)) (hx : ExcK X.K C) (ha : PA X (e :: es) ta)
    (hE : ∀ (pins : List (Addr × Obj)) (σ : L2.St) (H : Hp) (s : Shared) (ea : Addr) (vs : List Value) (h1 : Heap), Inv X pins σ H s → Heap.MadeExcOf s.heap h1 ea (.ref C) vs → E (.ref C) none H → X.xe (.ref ea) { s with heap := h1 })
    (hs : starEach (e :: es) X.env = (false, eval e X.env) :: starEach es X.env := by rfl) (hpl : (backTo cpos (starEach es X.env)).any (·.1) = false := by rfl) (hd : (x == ("__debug__" : Str)) = false := by decide) :
    PS X (.Raise (some (.Call (.Name x np) (e :: es) [] cpos)) none pos) (tRaise C E ta) := by
  intro pins s σ H D I h
  obtain ⟨tl, N, nm, ql, bs, hdd, sn, sub, ab, col, dd, j0, j1, j2, j3, j5, mN, hC, hN, hni, T⟩ := exc_obj I.ok.mod.kin hx
  refine wpAny_Raise_call_subT (C := C) (nm := nm) (q := ql) (N := N) (bs := bs) (bm := tl) (hdct := hdd) (sn := sn) (sub := sub) (ab := ab) (col := col) (dd := dd) (k0 := j0) (k1 := j1) (k2 := j2) (k3 := j3) (k5 := j5) PySem.F.excBase_ValueError (mN := mN)
    (T.hasType PySem.F.excBase_ValueError.hasBase) (I.ok.hd hc) ?_ hni (ld_glob I hg hm ⟨rfl, ?_⟩ hd)
  · rw [hs]
    show (false || (backTo cpos (starEach es X.env)).any (·.1)) = false
    rw [hpl]; rfl
  · have q := ha cpos pins s σ H _ I h
    rw [hs] at q ⊢
    refine Calls.evalArgs_plain (thn q fun us s1 ⟨vs, H1, I1, r, l1, hE1⟩ => ⟨rfl, ?_, I1.bk _ _ hC, hN.keeps I1.bk, T.keeps I1.bk, fun h1 ea hmade => hE pins σ H1 s1 ea _ h1 I1 hmade hE1⟩)
    rw [← r.length]
    exact Nat.le_trans l1 (by decide)
end
end G
namespace G
open PySem L2 PySem.Spec PyProof.Rows
def PassX (CX : CXT) (X : Cx) (E : L2.St → XK) : Prop := ∀ (pins : List (Addr × Obj)) (σ : L2.St) (H : Hp) (s : Shared) (e : Value) (s' : Shared), Inv X pins σ H s → CX X.stack H s (E σ) e s' → X.xe e s'
section
variable {X : Cx} {CX : CXT} {k : Nat} {f C : Addr} {fd : FuncData} {ps : List Str} {sp : Sp} {dvs : List V} {ds : List Value} {E : L2.St → XK} {x m : Str} {p pos apos : Pos} {e o : Expr} {es : List Expr} {ta : TE} {t : TA}
theorem run_fnX {pins : List (Addr × Obj)} {σ : L2.St} {H : Hp} {s : Shared} {Q : VK} {us : List Value} {vs : List V} (F : FnOk X.prog X.w X.K X.mg X.base CX k f fd ps sp) (hr : Room k X.A) (hb : Binds X.K fd ps ds) (hd : Vals dvs ds) (hx : PassX CX X E)
    (I : Inv X pins σ H s) (r : Vals vs us) (h : sp (vs ++ dvs) H Q (E σ)) : wpAny (model X.prog X.w) X.A (call (.ref f) us) (EP X pins σ Q) X.xe s := by
  have r2 : Vals (vs ++ dvs) (us ++ ds) := r.append hd
  have hl : (us ++ ds).length = ps.length := by rw [← r2.length]; exact F.len _ _ _ _ h
  refine wpAny_call (codeAny_mono (F.run X.A X.stack s H ⟨us, []⟩ (us ++ ds) (vs ++ dvs) Q (E σ) hr I.env0 (hb s us I.kIn hl) r2 h) fun r s' hq => ?_)
  cases r with
  | error e => exact hx pins σ H s e s' I hq
  | ok fl =>
    cases fl with
    | ret u => exact I.after hq
    | next => exact False.elim hq
    | brk => exact False.elim hq
    | cont => exact False.elim hq
theorem pe_methX {pl : Sem Bool} (he : PE X o ta) (c : Cls X.K C) (hm : Meth X.K C m f) (F : FnOk X.prog X.w X.K X.mg X.base CX k f fd ps sp) (hr : Room k X.A) (hb : Binds X.K fd ps ds) (hd : Vals dvs ds) (hx : PassX CX X E) (ha : PA X (e :: es) t)
    (hst : starEach (e :: es) X.env = (false, eval e X.env) :: starEach es X.env := by rfl) (hpl : (backTo pos (starEach es X.env)).any (·.1) = false := by rfl)
    (ht : eval (.Call (.Attribute o m apos) (e :: es) [] pos) X.env = (do
      let ov ← eval o X.env
      standAt apos.atName
      let (f, first) ← holding [ov] (getMethod ov m pl)
      callWith pos f first (backTo pos (starEach (e :: es) X.env)) (backToKw pos (keywordEach [] X.env))) := by rfl) :
    PE X (.Call (.Attribute o m apos) (e :: es) [] pos) (tMethX C m sp dvs E ta t) := by
  intro pins s σ H Q I h
  refine PySem.W.methodCall_KW (pl := pl) (thn (he pins s σ H _ I h) fun u s1 ⟨x, H1, I1, rx, a, dx, fs, ex, ea, l, q⟩ => ?_) ht
  subst ex
  obtain rfl : u = Value.ref a := rx
  refine getmeth_ok I1 ea c hm l ?_
  refine PySem.W.callWith_K (first := [.ref a]) (h₀ := X.base) I.ok.mod.kin hm.kp (thn (ha pos pins s1 σ H1 _ I1 q) fun us s2 ⟨vs, H2, I2, r, q2⟩ => ⟨I2.kIn, ?_⟩) hst hpl
  exact run_fnX (us := .ref a :: us) (vs := .ref a :: vs) F hr hb hd hx I2 (.cons rfl r) q2
end
abbrev cxB (X : Cx) (pn : List (Addr × Obj)) (xe : Value → Shared → Prop) : Cx := { X with pn := pn, xe := xe }
abbrev cxH (X : Cx) (ea : Value) (pn : List (Addr × Obj)) : Cx := { X with A := X.A.mark (some ea), calm := false, pn := pn, xe := fun _ _ => False }
section
variable {X : Cx} {pins : List (Addr × Obj)} {σ : L2.St} {H : Hp} {s : Shared}
theorem ok_cxB (ok : X.Ok) (pn : List (Addr × Obj)) (xe : Value → Shared → Prop) : (cxB X pn xe).Ok :=
  ⟨ok.mod, ok.kind, ok.glob, ok.blt, ok.above, ok.inj, ok.has, ok.cab, ok.hd, ok.frames, ok.stk, ok.exf, ok.bs, ok.bsz, ok.noex, ok.exfs, ok.funs, ok.frf⟩
theorem ok_cxH (ok : X.Ok) (ea : Value) (pn : List (Addr × Obj)) : (cxH X ea pn).Ok :=
  ⟨ok.mod, ok.kind, ok.glob, ok.blt, ok.above, ok.inj, ok.has, ok.cab, fun z => (nomatch z), ok.frames, ok.stk, ok.exf, ok.bs, ok.bsz, ok.noex, ok.exfs, ok.funs, ok.frf⟩
theorem to_cxB (I : Inv X pins σ H s) (xe : Value → Shared → Prop) : Inv (cxB X (X.pn ++ pins) xe) [] σ H s :=
  ⟨ok_cxB I.ok _ _, I.os, I.bare, I.base, I.loc, I.cell, I.free, I.freeC, fun p hp => I.pin p (by simpa using hp), I.hok, I.len⟩
theorem of_cxB {xe : Value → Shared → Prop} {pl : List (Addr × Obj)} (ok : X.Ok) (I : Inv (cxB X (X.pn ++ pins) xe) pl σ H s) : Inv X pins σ H s :=
  ⟨ok, I.os, I.bare, I.base, I.loc, I.cell, I.free, I.freeC, fun p hp => I.pin p (List.mem_append_left _ hp), I.hok, I.len⟩
theorem to_cxH (I : Inv X pins σ H s) (ea : Value) : Inv (cxH X ea (X.pn ++ pins)) [] σ H s :=
  ⟨ok_cxH I.ok _ _, I.os, I.bare, I.base, I.loc, I.cell, I.free, I.freeC, fun p hp => I.pin p (by simpa using hp), I.hok, I.len⟩
theorem of_cxH {ea : Value} {pl : List (Addr × Obj)} (ok : X.Ok) (I : Inv (cxH X ea (X.pn ++ pins)) pl σ H s) : Inv X pins σ H s :=
  ⟨ok, I.os, I.bare, I.base, I.loc, I.cell, I.free, I.freeC, fun p hp => I.pin p (List.mem_append_left _ hp), I.hok, I.len⟩
theorem sp_cxB {xe : Value → Shared → Prop} {D : Ends} {f : Flow} (ok : X.Ok) (h : SP (cxB X (X.pn ++ pins) xe) [] D f s) : SP X pins D f s := by
  cases f with
  | next => obtain ⟨σ', H', I, q⟩ := h; exact ⟨σ', H', of_cxB ok I, q⟩
  | brk => obtain ⟨σ', H', I, q⟩ := h; exact ⟨σ', H', of_cxB ok I, q⟩
  | cont => obtain ⟨σ', H', I, q⟩ := h; exact ⟨σ', H', of_cxB ok I, q⟩
  | ret u => obtain ⟨v, σ', H', I, r, q⟩ := h; exact ⟨v, σ', H', of_cxB ok I, r, q⟩
theorem sp_cxH {ea : Value} {D : Ends} {f : Flow} (ok : X.Ok) (h : SP (cxH X ea (X.pn ++ pins)) [] D f s) : SP X pins D f s := by
  cases f with
  | next => obtain ⟨σ', H', I, q⟩ := h; exact ⟨σ', H', of_cxH ok I, q⟩
  | brk => obtain ⟨σ', H', I, q⟩ := h; exact ⟨σ', H', of_cxH ok I, q⟩
  | cont => obtain ⟨σ', H', I, q⟩ := h; exact ⟨σ', H', of_cxH ok I, q⟩
  | ret u => obtain ⟨v, σ', H', I, r, q⟩ := h; exact ⟨v, σ', H', of_cxH ok I, r, q⟩
theorem flown {ea : Addr} {cls a0 : Value} {B : Heap} {H2 : Hp} {s2 : Shared} {h3 : Heap} (I : Inv X pins σ H s) (os : s2.os = s.os) (bare : AllBare s2.gens) (un : Un (frs X.stack) [] H H2 s.heap s2.heap) (ok : HOk X.prog X.w H2 s2.heap)
    (fl : Heap.FlyingW B X.stack ea cls a0 s2.heap) (hB : ∀ b o, s2.heap.get? b = some o → ((∃ v, s.heap.get? b = some v) ∨ ∃ v, H2 b = some v) → b ∉ frs X.stack → B.get? b = some o)
    (st : B.StaysIn h3) (sm : s2.heap.UpToSlots h3) : Inv X pins σ H2 { s2 with heap := h3 } := by
  have fr : ∀ b ∈ frs X.stack, H2 b = none := fun b hb => by
    obtain ⟨_, o, ho, _⟩ := I.stack.mem hb
    exact un.free b o ho (I.stkFree b hb) (fun z => nomatch z)
  have U := un_step (P := X.prog) (w := X.w) (h2 := h3) un ok fr (fun b o e hb hn => st _ _ (hB b o e hb hn)) fun b o e hb => by
    obtain ⟨_, o', ho', hd⟩ := fl.2.2.1.mem hb
    rw [e] at ho'; cases ho'
    exact sm b o e hd
  exact I.call' (s' := { s2 with heap := h3 }) (ch := []) os U.1 U.2 bare (fun b z => nomatch z)
end
section
variable {X : Cx} {x : Str} {C : Addr} {np pos hpos : Pos} {body suite : List Stmt} {b₀ : Stmt} {Mt : Value → Prop} {tb : (L2.St → XK) → TS} {th : TS}
theorem ps_try (hst : X.stack = X.env :: X.outer ∧ X.env.frame = some X.env.locals) (hg : Gl X x) (hm : X.mg x = some (.ref C)) (hMt : ∀ c, Mt c → PySem.W.exmOne X.K c (.ref C) = some true)
    (hb : ∀ (E : L2.St → XK) (pn : List (Addr × Obj)) (xe : Value → Shared → Prop), PassX (CXe X.prog X.w) (cxB X pn xe) E → PSs (cxB X pn xe) body (tb E))
    (hs : ∀ (ea : Value) (pn : List (Addr × Obj)), PSs (cxH X ea pn) (b₀ :: suite) th) (hd : (x == ("__debug__" : Str)) = false := by decide) :
    PS X (.Try body [.ExceptHandler (some (.Name x np)) none (b₀ :: suite) hpos] [] [] pos) (tTry Mt tb th) := by
  intro pins s σ H D I h
  refine wpAny_Try_except ?_
  have hx : PassX (CXe X.prog X.w) (cxB X (X.pn ++ pins) fun e s' => ∃ σ H s, Inv X pins σ H s ∧ CXe X.prog X.w X.stack H s (fun cls _ H' => Mt cls ∧ th D σ H') e s') (fun σ' cls _ H' => Mt cls ∧ th D σ' H') :=
    fun pl σ H s e s' J z => ⟨σ, H, s, of_cxB I.ok J, z⟩
  refine wpAny_mono (hb _ _ _ hx [] s σ H D (to_cxB I _) h) (fun f s1 q => ?_) fun e s1 q => ?_
  · have q := sp_cxB I.ok q
    cases f with
    | next => exact wpAny_execs_nil q
    | ret v => exact q
    | brk => exact q
    | cont => exact q
  · obtain ⟨σ1, H1, s0, J, ea, cls, a0, B, H2, rfl, os, bare, un, ok, fl, hB, hM, hth⟩ := q
    have fl0 := fl
    rw [hst.1] at fl0
    refine wpAny_looks_onW (hst.1 ▸ J.ok.frames) hst.2 fl0 fun h4 held4 sm4 => ?_
    refine wpAny_landsW held4 fun h5 fl5 sm5 => ?_
    have sm25 : s1.heap.UpToSlots h5 := sm4.trans sm5
    have J5 := flown J os bare un ok fl hB fl5.1 sm25
    refine wpAny_handleBy_cons (codeAny_handlers_test (ld_glob (X := cxH X (.ref ea) (X.pn ++ pins)) (to_cxH J5 (.ref ea)) hg hm ?_ hd)) (by intro z; cases z)
    obtain ⟨ob, hob, hoc⟩ := fl5.there
    have LT : PySem.W.Looks (model X.prog X.w) h5 (typeOf (.ref ea)) cls := hoc ▸ (PySem.W.Looks.ld hob).andThen .now
    refine (PySem.W.exm_one J5.kIn LT (hMt cls hM)).here ?_
    refine codeAny_handlers_suite ?_
    refine lands_againW fl5 fun h6 fl6 sm6 => ?_
    have J6 := flown J os bare un ok fl hB fl6.1 (sm25.trans sm6)
    refine wpAny_mono (hs (.ref ea) (X.pn ++ pins) [] _ σ1 H2 D (to_cxH J6 (.ref ea)) hth) (fun f s2 q => sp_cxH I.ok q) fun _ _ z => z.elim
end
end G
namespace G
open PySem L2 PySem.Spec PyProof.Rows
section
variable {P : Program} {w : World} {K : PySem.W.Frag} {mg : Str → Option Value} {base : Heap} {x qual : Str} {st : Stmt} {f : Addr} {fd : FuncData} {N ps : List Str} {k : Nat} {sp : Sp}
theorem fok (F : Fun K x qual st f fd) (S : FnScope N ps (defScope st)) (len : ∀ vs H Q E, sp vs H Q E → vs.length = ps.length)
    (hbody : ∀ (cdv : Value) (A : Around) (outer : List Env) (s : Shared) (H : Hp) (vs : List V) (Q : VK) (E : XK), Room k (A.deeper (envOfC qual (defScope st) s.heap.objs.size f cdv)) → sp vs H Q E →
      ∃ t, PSs (cxOf (CXe P w) P w K mg base N qual (defScope st) f cdv A outer s H E).nox (defBody st) t ∧ t { nx := fun _ H' => Q .non H', rt := Q } (start N vs) H) : FnOk P w K mg base (CXe P w) (k + 1) f fd ps sp := by
  obtain ⟨oc, od, kV, doc, pm, an, cdv, ct, osl, rfl, lk, hcd⟩ := F.ex
  refine fn_of lk hcd S len fun A outer s H vs Q E hr hsp => ?_
  obtain ⟨t, h, q⟩ := hbody cdv A outer s H vs Q E hr hsp
  exact ⟨t, h.nox, q⟩
theorem fokDX (F : FunD K x qual st f fd) (S : FnScope N ps (defScope st)) (len : ∀ vs H Q E, sp vs H Q E → vs.length = ps.length)
    (hbody : ∀ (cdv : Value) (A : Around) (outer : List Env) (s : Shared) (H : Hp) (vs : List V) (Q : VK) (E : XK), Room k (A.deeper (envOfC qual (defScope st) s.heap.objs.size f cdv)) → sp vs H Q E →
      ∃ t, PSs (cxOf (CXe P w) P w K mg base N qual (defScope st) f cdv A outer s H E) (defBody st) t ∧ t { nx := fun _ H' => Q .non H', rt := Q } (start N vs) H) : FnOk P w K mg base (CXe P w) (k + 1) f fd ps sp := by
  obtain ⟨oc, od, dV, kV, doc, pm, an, cdv, ct, osl, rfl, lk, hcd⟩ := F.ex
  exact fn_of lk hcd S len fun A outer s H vs Q E hr hsp => hbody cdv A outer s H vs Q E hr hsp
end
end G
namespace G
open PySem L2 PySem.Spec PyProof.Rows
structure ExcI (K : PySem.W.Frag) (C : Addr) : Prop where
  ga : PySem.W.findIn K (.ref C) "__getattribute__" = some (some (.builtin "BaseException.__getattribute__"))
  no : PySem.W.findIn K (.ref C) "__getattr__" = some none
  cl : PySem.W.findIn K (.ref C) "__class__" = some (some (.builtin "object.__class__"))
  so : PySem.W.mroIn K C (.type "object") = some true
  sb : PySem.W.mroIn K C (.type "BaseException") = some true
  is : PySem.W.hasDictIn K C = true
section
variable {prog : Program} {w : World} {A : Around} {E : Value → Shared → Prop} {h : Heap} {g : Array GenState} {d : Drawn} {t : Nat} {os : OsState} {a : Addr} {o : Obj} {C : Addr} {K : PySem.W.Frag}
end
section
variable {X : Cx}
theorem boot_sum : bootBuiltins "sum" = some (.builtin "sum") := by decide +kernel
theorem ints_of : ∀ {ns : List Int} {us : List Value}, Vals (ns.map V.int) us → IntsAre us ns
  | [], _, .nil => .nil
  | n :: ns, _, .cons r t => by
    obtain ⟨tk, rfl⟩ := (show ∃ t, _ = Value.int n t from r)
    exact .cons n tk (ints_of (ns := ns) t)
theorem call_sum (hc : X.calm = true) : CallR X (.builtin "sum") (cSum X.K) := by
  intro pins s σ H xs us Q I r h
  obtain ⟨p, ns, rfl, hs, q⟩ := h
  obtain ⟨u, rfl, ru⟩ := Vals.one r
  obtain rfl : u = Value.ref p := ru
  obtain ⟨its, rv, pl, hz⟩ := I.list hs
  have hi := ints_of rv
  obtain ⟨zs, ez⟩ := hi.allInts.items
  have en : ns = zs.toList.map (·.1) := by
    rw [← nums_intItems, ← ez]
    exact (show numsOf its.toArray.toList = ns from hi.numsOf).symm
  refine sum_intListG (I.ok.hd hc) (ez ▸ pl.isList) fun h' tk t' hk => ?_
  rw [preSum_eq, List.take_of_length_le (by simp), ← en]
  exact ⟨.int ns.sum, H, I.kept hk, ⟨_, rfl⟩, q⟩
theorem call_minL (hc : X.calm = true) : CallR X (.builtin "min") (cMinL X.K) := by
  intro pins s σ H xs us Q I r h
  obtain ⟨p, ns, rfl, hs, hne, q⟩ := h
  obtain ⟨u, rfl, ru⟩ := Vals.one r
  obtain rfl : u = Value.ref p := ru
  obtain ⟨its, rv, pl, hz⟩ := I.list hs
  have hi := ints_of rv
  obtain ⟨zs, ez⟩ := hi.allInts.items
  have en : ns = zs.toList.map (·.1) := by
    rw [← nums_intItems, ← ez]
    exact (show numsOf its.toArray.toList = ns from hi.numsOf).symm
  have hp : 0 < zs.size := by
    have z := List.length_pos_iff.mpr hne
    rw [en, List.length_map, Array.length_toList] at z
    exact z
  refine min_intList (I.ok.hd hc) (ez ▸ pl.isList) hp fun v h' tk hv hk => ?_
  obtain ⟨t, rfl⟩ := intItems_at hv
  obtain ⟨h1, h2⟩ := argBest_lt (numAt zs) (zs.size - 1)
  refine ⟨.int _, H, I.kept hk, ⟨t, rfl⟩, q _ ?_ fun a ha => ?_⟩
  · rw [en, numAt_eq]
    exact getD_mem (by rw [List.length_map, Array.length_toList]; omega)
  · rw [en] at ha
    obtain ⟨j, hj, rfl⟩ := mem_getD ha
    rw [List.length_map, Array.length_toList] at hj
    rw [← numAt_eq]
    exact h2 j (by omega)
theorem call_listL : CallR X (.type "list") (cListL X.K) := by
  intro pins s σ H xs us Q I r h
  obtain ⟨p, ys, rfl, hs, q⟩ := h
  exact call_list_of pins s σ H [.ref p] us Q I r ⟨p, ys, rfl, .inl hs, q⟩
theorem eqL_range {xs ys : List V} {us ws : List Value} (rx : Vals xs us) (ry : Vals ys ws) (fx : xs.all flatV = true) (fy : ys.all flatV = true) (hl : xs.length = ys.length) :
    (∀ (A : Around) (s : Shared) (j : Nat) (h1 : j < us.toArray.size) (h2 : j < ws.toArray.size), SeqAt.EqAt A s us.toArray[j] ws.toArray[j] (match xs[j]?, ys[j]? with | some a, some b => eqV a b | _, _ => false)) ∧
    (List.range us.toArray.size).all (fun j => match xs[j]?, ys[j]? with | some a, some b => eqV a b | _, _ => false) = eqL xs ys := by
  refine ⟨fun A s j h1 h2 => ?_, ?_⟩
  · rw [List.size_toArray] at h1 h2
    have l1 := rx.length
    have l2 := ry.length
    have a1 : xs[j]? = some xs[j] := List.getElem?_eq_getElem (by omega)
    have a2 : ys[j]? = some ys[j] := List.getElem?_eq_getElem (by omega)
    obtain ⟨u, e1, r1⟩ := rx.get a1
    obtain ⟨w', e2, r2⟩ := ry.get a2
    rw [List.getElem?_eq_getElem h1] at e1
    rw [List.getElem?_eq_getElem h2] at e2
    cases e1
    cases e2
    rw [a1, a2]
    exact eqAt_V r1 r2 (List.all_eq_true.mp fx _ (List.getElem_mem (by omega))) (List.all_eq_true.mp fy _ (List.getElem_mem (by omega)))
  · rw [List.size_toArray, ← rx.length]
    unfold eqL
    rw [beq_iff_eq.mpr hl, Bool.true_and, Bool.eq_iff_iff, List.all_eq_true, List.all_eq_true]
    constructor
    · intro h p hp
      obtain ⟨j, hj, e⟩ := List.getElem_of_mem hp
      rw [List.length_zip] at hj
      have := h j (List.mem_range.mpr (by omega))
      rw [List.getElem?_eq_getElem (show j < xs.length by omega), List.getElem?_eq_getElem (show j < ys.length by omega)] at this
      rw [List.getElem_zip] at e
      rw [← e]; exact this
    · intro h j hj
      have hj := List.mem_range.mp hj
      rw [List.getElem?_eq_getElem (show j < xs.length by omega), List.getElem?_eq_getElem (show j < ys.length by omega)]
      have hz : j < (xs.zip ys).length := by rw [List.length_zip]; omega
      have := h _ (List.getElem_mem hz)
      rw [List.getElem_zip] at this
      exact this
theorem eqL_len {xs ys : List V} (h : xs.length ≠ ys.length) : eqL xs ys = false := by
  unfold eqL
  rw [show (xs.length == ys.length) = false by simpa using h, Bool.false_and]
theorem op_eqL (hu : X.A.units + 1 < cLine) : OpR X (compareOp .Eq) (rEqL X.K false) := by
  intro pins s σ H x y v u Q I rx ry h
  obtain ⟨p, q', xs, ys, rfl, rfl, hx, hy, ff, q⟩ := h
  cases rx
  cases ry
  obtain ⟨us, r1, pl1, _⟩ := I.list hx
  obtain ⟨ws, r2, pl2, _⟩ := I.list hy
  have hu' : X.A.units < cLine := by omega
  by_cases hl : xs.length = ys.length
  · obtain ⟨e1, e2⟩ := eqL_range r1 r2 (ff hl).1 (ff hl).2 hl
    refine SeqAt.eq_listAt pl1.isList pl2.isList (by rw [List.size_toArray, List.size_toArray, ← r1.length, ← r2.length]; exact hl) hu' (fun j h1 h2 => e1 _ _ j h1 h2) ?_
    rw [e2]
    exact ⟨.bl _, H, I, rfl, q⟩
  · refine SeqAt.eq_list_lengthsAt pl1.isList pl2.isList ?_ hu' ?_
    · rw [List.size_toArray, List.size_toArray, ← r1.length, ← r2.length]
      simpa using hl
    · refine ⟨.bl _, H, I, rfl, ?_⟩
      have := q
      rw [eqL_len hl] at this
      exact this
end
end G
namespace G
open PySem L2 PySem.Spec PyProof.Rows
theorem none_mro : fastBuiltinMro "NoneType" = some [.type "NoneType", .type "object"] := by decide +kernel
section
variable {K : PySem.W.Frag} {A : Around} {a C : Addr} {o : Obj}
theorem eq_chk {M : Model} {E : Value → Shared → Prop} {s : Shared} {Q : Unit → Shared → Prop} (LI : PySem.W.Looks M s.heap (isInstance (.ref a) (.type "object")) true) (hq : Q () s) : wpAny M A (checkBuiltinCall "object.__eq__" ⟨[.ref a, .none], []⟩) Q E s := by
  have ha := PySem.F.cmpArgs_eq (.ref a) .none
  simp only [checkBuiltinCall, PySem.F.cmpKind_eq, PySem.F.cmpSplit_eq]
  refine wpAny_bind (LI.here ?_)
  simp only [Bool.not_true, Bool.false_eq_true, if_false]
  cases hsig : Manifest.signature? "object.__eq__" with
  | none => exact wpAny_pure hq
  | some sig =>
    simp only [argsOk, hsig] at ha
    have h2 : Bind.checkArgs "object.__eq__" sig ⟨[.ref a, .none], []⟩ = pure () := ha
    show wpAny M A (Bind.checkArgs "object.__eq__" sig ⟨[.ref a, .none], []⟩) Q E _
    rw [h2]
    exact wpAny_pure hq
theorem eq_call {prog : Program} {w : World} {E : Value → Shared → Prop} {s : Shared} {Q : Value → Shared → Prop} (LI : PySem.W.Looks (model prog w) s.heap (isInstance (.ref a) (.type "object")) true) (hq : Q .notImplemented s) :
    wpAny (model prog w) A (call (.builtin "object.__eq__") [.ref a, .none]) Q E s := by
  refine wpAny_call (codeAny_call_builtin PySem.F.cmp_object.eq.plain PySem.F.cmpEntry_eq (eq_chk LI ?_))
  obtain ⟨h, g, d, t, os⟩ := s
  unfold Builtin.«object.__eq__»
  repeat (first | with_reducible refine wpAny_bind (m := isSame (.ref a) .none) (wpAny_pure ?_) | wp_step)
  exact hq
theorem try_eq {prog : Program} {w : World} {E : Value → Shared → Prop} {s : Shared} {Q : Option Value → Shared → Prop} (X : K.In s.heap) (hx : s.heap.get? a = some o) (hc : o.cls = .ref C) (hE : EqD K C) (hq : Q none s) :
    wpAny (model prog w) A (tryCompare (.ref a) "__eq__" .none) Q E s := by
  have LT : PySem.W.Looks (model prog w) s.heap (typeOf (.ref a)) (.ref C) := hc ▸ (PySem.W.Looks.ld hx).andThen .now
  have LI : PySem.W.Looks (model prog w) s.heap (isInstance (.ref a) (.type "object")) true := LT.andThen (PySem.W.looks_mroIn X hE.ob)
  have LS : PySem.W.Looks (model prog w) s.heap (specialOf (.ref a) "__eq__") (some (.builtin "object.__eq__")) := LT.andThen (PySem.W.looks_findIn X hE.eq)
  simp only [tryCompare]
  refine wpAny_bind ?_
  simp only [callSpecialIfBound?, bindSpecialIfBound?]
  refine wpAny_holding (wpAny_bind (wpAny_bind (LS.here ?_)))
  simp only [PySem.F.cmp_object.eq.bind]
  have fin : wpAny (model prog w) A (call (.builtin "object.__eq__") ([.ref a] ++ [.none]) >>= fun v => pure (some v)) (fun r s' => wpAny (model prog w) A (match r with | some .notImplemented | none => pure none | some v => pure (some v)) Q E s') E s :=
    wpAny_bind (eq_call LI (wpAny_pure (wpAny_pure hq)))
  refine wpAny_bind (wpAny_askSetting (wpAny_ite ?_))
  split
  · exact wpAny_bind (wpAny_pure (wpAny_pure fin))
  · exact wpAny_tryCatch (wpAny_bind (wpAny_pure (wpAny_pure fin)))
theorem rc_inst {s : Shared} (X : K.In s.heap) (hx : s.heap.get? a = some o) (hc : o.cls = .ref C) (hE : EqD K C) (hu : A.units < cLine) : SeqAt.RcAt A s (.ref a) .none false := fun prog w E Q h => by
  have LT : PySem.W.Looks (model prog w) s.heap (typeOf (.ref a)) (.ref C) := hc ▸ (PySem.W.Looks.ld hx).andThen .now
  have hi : cmpInfo CmpOp.Eq = ("==", ("__eq__" : Str), ("__eq__" : Str)) := rfl
  have ho : oneThing? .Eq (.ref a) .none = none := rfl
  simp only [richCompare, hi, ho]
  try with_reducible refine wpAny_holding ?_
  refine wpAny_bind (wpAny_cRoomFor_or (.inr hu) ?_)
  refine wpAny_bind (LT.here (wpAny_bind (m := typeOf .none) (wpAny_pure ?_)))
  have hne : (Value.ref C != Value.type "NoneType") = true := by simp
  simp only [hne, if_true]
  have hs : isSubtype (.type "NoneType") (.ref C) = pure false := by
    rw [isSubtype_type, none_mro]
    rfl
  refine wpAny_bind (wpAny_of_eq hs ?_)
  simp only [Bool.false_eq_true, if_false, Bool.not_false, if_true]
  refine wpAny_bind (m := tryCompare (.ref a) _ .none) (try_eq X hx hc hE ?_)
  refine wpAny_bind (m := tryCompare .none _ (.ref a)) (wpAny_tryCompare_declines (T := "NoneType") rfl PySem.F.slot_NoneType_eq_refl (call_gives PySem.F.slot_NoneType_eq_refl rfl PySem.F.entry_NoneType_eq (PySem.F.args_NoneType_eq_2 _ _) (SeqAt.NoneType___eq___none_ref_0 a) ⟨rfl, ?_⟩))
  exact wpAny_bind (wpAny_rule (wpAny_bind (wpAny_of_eq (rfl : isSame (.ref a) .none = pure false) (wpAny_pure h))))
theorem eq_inst {s : Shared} (X : K.In s.heap) (hx : s.heap.get? a = some o) (hc : o.cls = .ref C) (hE : EqD K C) (hu : A.units < cLine) : SeqAt.EqAt A s (.ref a) .none false := fun prog w E Q h => by
  unfold eqBool
  refine wpAny_holding ?_
  refine wpAny_ite_split (fun hab => absurd (eq_of_beq hab) nofun) (fun _ => ?_)
  exact wpAny_bind (rc_inst X hx hc hE hu prog w E _ (wpAny_truthy_bool h))
end
section
variable {X : Cx}
def noneU (u : Value) : Bool := match u with
  | .none => true
  | _ => false
theorem noneU_of {H : Hp} {y : V} {u : Value} (r : RelV y u) (h : y = .non ∨ ∃ a C dx fs, y = .ref a ∧ H a = some (.ins C dx fs) ∧ Cls X.K C ∧ EqD X.K C) : noneU u = decide (y = .non) := by
  rcases h with rfl | ⟨a, _, _, _, rfl, _⟩
  · obtain rfl : u = Value.none := r
    rfl
  · obtain rfl : u = Value.ref a := r
    rfl
theorem noneU_at {pins : List (Addr × Obj)} {σ : L2.St} {H : Hp} {s : Shared} {A : Around} {y : V} {u : Value} (I : Inv X pins σ H s) (hu : A.units < cLine) (r : RelV y u) (h : y = .non ∨ ∃ a C dx fs, y = .ref a ∧ H a = some (.ins C dx fs) ∧ Cls X.K C ∧ EqD X.K C) : SeqAt.EqAt A s u .none (noneU u) := by
  rcases h with rfl | ⟨a, C, dx, fs, rfl, ha, hc, he⟩
  · obtain rfl : u = Value.none := r
    exact SeqAt.EqAt.same .none
  · obtain rfl : u = Value.ref a := r
    obtain ⟨_, _, _, e, _⟩ := (show ObjOk X.prog X.w H s.heap a (.ins C dx fs) from I.hok a _ ha)
    exact eq_inst I.kIn e rfl he hu
theorem none_any {H : Hp} : ∀ {xs : List V} {us : List Value}, Vals xs us → OkN X.K H xs → us.any noneU = decide (V.non ∈ xs)
  | _, _, .nil, _ => rfl
  | y :: xs, u :: us, .cons r t, h => by
    rw [List.any_cons, none_any t fun z hz => h z (List.mem_cons_of_mem _ hz), noneU_of r (h y List.mem_cons_self), Bool.eq_iff_iff]
    simp only [Bool.or_eq_true, decide_eq_true_eq, List.mem_cons]
    constructor
    · rintro (z | z)
      · exact .inl z.symm
      · exact .inr z
    · rintro (z | z)
      · exact .inl z.symm
      · exact .inr z
theorem none_mem {H : Hp} {pins : List (Addr × Obj)} {σ : L2.St} {s : Shared} {A : Around} {xs : List V} {us : List Value} (I : Inv X pins σ H s) (hu : A.units < cLine) (r : Vals xs us) (h : OkN X.K H xs) : ∀ u ∈ us, SeqAt.EqAt A s u .none (noneU u) := by
  intro u hm
  obtain ⟨i, hi, rfl⟩ := List.getElem_of_mem hm
  have hl := r.length
  have hx : xs[i]? = some xs[i] := List.getElem?_eq_getElem (by omega)
  obtain ⟨u', e, ru⟩ := r.get hx
  rw [List.getElem?_eq_getElem hi] at e
  cases e
  exact noneU_at I hu ru (h _ (List.getElem_mem (by omega)))
theorem op_notInN (hu : X.A.units + 1 < cLine) : OpR X (compareOp .NotIn) (rInN X.K true) := by
  intro pins s σ H x y v u Q I rx ry h
  obtain ⟨p, xs, rfl, rfl, hs, hk, q⟩ := h
  obtain rfl : v = Value.none := rx
  cases ry
  obtain ⟨us, r, pl, _⟩ := I.list hs
  refine SeqAt.notIn_listAt noneU pl.isList (fun w hw => none_mem I (by show X.A.units + 1 < cLine; exact hu) r hk w (by simpa using hw)) ⟨.bl _, H, I, rfl, ?_⟩
  rw [show us.toArray.any noneU = us.any noneU by simp, none_any r hk]
  exact q
theorem none_idx {H : Hp} {xs : List V} {us : List Value} (r : Vals xs us) (h : OkN X.K H xs) (j : Nat) (hj : j < us.length) (hj' : j < xs.length) : noneU us[j] = decide (xs[j] = V.non) := by
  obtain ⟨u', e, ru⟩ := r.get (List.getElem?_eq_getElem hj')
  rw [List.getElem?_eq_getElem hj] at e
  cases e
  exact noneU_of ru (h _ (List.getElem_mem hj'))
theorem mt_indexN (hu : X.A.units + 1 < cLine) : MtR X "list.index" (rIndexN X.K) := by
  intro pins s σ H x xs v us Q I rx rs h
  obtain ⟨p, ys, rfl, rfl, hs, hk, hn, q⟩ := h
  obtain rfl : v = Value.ref p := rx
  obtain ⟨u, rfl, ru⟩ := Vals.one rs
  obtain rfl : u = Value.none := ru
  obtain ⟨ws, r, pl, hz⟩ := I.list hs
  obtain ⟨⟨cls, dd, data, sl⟩, ho, hc, n, hd⟩ := pl.isList
  simp only at hc hd
  subst hc hd
  have hl := r.length
  have hj : ys.idxOf V.non < ys.length := List.idxOf_lt_length_iff.mpr hn
  have hz2 : ys.length < 2 ^ 62 := Nat.lt_of_le_of_lt hz (by decide)
  refine call_meets PySem.F.slot_list_index ⟨_, ho, rfl⟩ PySem.F.entry_list_index (PySem.F.args_list_index_2 _ _)
    (SeqAt.list_indexAt p ws.toArray n dd sl .none noneU (ys.idxOf V.non) (by simpa [hl] using hj) (by omega) ?_ ?_) ⟨ho, fun y hy => none_mem I (by show X.A.units + 1 < cLine; exact hu) r hk y (by simpa using hy), ⟨.int _, H, I.tok _, ⟨_, rfl⟩, q⟩⟩
  · show noneU ws[ys.idxOf V.non] = true
    rw [none_idx r hk _ (by omega) hj, decide_eq_true_eq]
    exact List.getElem_idxOf hj
  · intro j hjs hlt
    show noneU ws[j] = false
    rw [none_idx r hk j (by simpa using hjs) (by omega), decide_eq_false_iff_not]
    intro e
    have := List.not_of_lt_findIdx (p := (· == V.non)) (xs := ys) hlt
    simp [e] at this
theorem op_neL (hu : X.A.units + 1 < cLine) : OpR X (compareOp .NotEq) (rEqL X.K true) := by
  intro pins s σ H x y v u Q I rx ry h
  obtain ⟨p, q', xs, ys, rfl, rfl, hx, hy, ff, q⟩ := h
  cases rx
  cases ry
  obtain ⟨us, r1, pl1, _⟩ := I.list hx
  obtain ⟨ws, r2, pl2, _⟩ := I.list hy
  have hu' : X.A.units < cLine := by omega
  by_cases hl : xs.length = ys.length
  · obtain ⟨e1, e2⟩ := eqL_range r1 r2 (ff hl).1 (ff hl).2 hl
    refine SeqAt.RcNeAt.lists pl1.isList pl2.isList (by rw [List.size_toArray, List.size_toArray, ← r1.length, ← r2.length]; exact hl) hu' (fun j h1 h2 => e1 _ _ j h1 h2) X.prog X.w X.xe _ ?_
    rw [e2]
    exact ⟨.bl _, H, I, rfl, q⟩
  · refine SeqAt.RcNeAt.lists_lengths pl1.isList pl2.isList ?_ hu' X.prog X.w X.xe _ ?_
    · rw [List.size_toArray, List.size_toArray, ← r1.length, ← r2.length]
      simpa using hl
    · refine ⟨.bl _, H, I, rfl, ?_⟩
      have := q
      rw [eqL_len hl] at this
      exact this
end
end G
local macro_rules | `(tactic| walk_at "g1") => `(tactic| first | (with_reducible refine G.i_seq ?_) | (with_reducible refine G.i_next ?_) | (with_reducible refine G.i_break ?_) | (with_reducible refine G.i_cont ?_) | (with_reducible refine G.i_drop ?_) | (with_reducible refine G.i_ret ?_) | (with_reducible refine G.i_retN ?_) | (with_reducible refine G.i_if ?_) | (with_reducible refine G.i_asg ?_) | (with_reducible refine G.i_C ?_) | (with_reducible refine G.i_op ?_) | (with_reducible refine G.i_un ?_) | (with_reducible refine G.i_B ?_) | (with_reducible refine G.i_test ?_) | (with_reducible refine G.i_tB ?_) | (with_reducible refine G.i_and ?_) | (with_reducible refine G.i_or ?_) | (with_reducible refine G.i_not ?_) | (with_reducible refine G.i_andV ?_) | (with_reducible refine G.i_orV ?_) | (with_reducible refine G.i_notV ?_) | (with_reducible refine G.i_ifx ?_) | (with_reducible refine G.i_I0 ?_) | (with_reducible refine G.i_U ?_) | (with_reducible refine G.i_eqI ?_) | (with_reducible refine G.i_eqS ?_) | (with_reducible refine G.i_eqB ?_) | (with_reducible refine G.i_eqNI ?_) | (with_reducible refine G.i_eqIN ?_) | (with_reducible refine G.i_neI ?_) | (with_reducible refine G.i_neS ?_) | (with_reducible refine G.i_neB ?_) | (with_reducible refine G.i_isN0 ?_) | (with_reducible refine G.i_isN1 ?_) | (with_reducible refine G.i_isN2 ?_) | (with_reducible refine G.i_isN3 ?_) | (with_reducible refine G.i_isN4 ?_) | (with_reducible refine G.i_notN0 ?_) | (with_reducible refine G.i_notN1 ?_) | (with_reducible refine G.i_notN2 ?_) | (with_reducible refine G.i_notN3 ?_) | (with_reducible refine G.i_notN4 ?_) | (with_reducible refine G.i_iteT ?_) | (with_reducible refine G.i_iteF ?_) | (with_reducible refine G.i_iteNT ?_) | (with_reducible refine G.i_iteNF ?_) | (with_reducible refine G.i_nil ?_) | (with_reducible refine G.i_cons ?_) | (with_reducible refine G.i_lst ?_) | (with_reducible refine G.i_tup ?_) | (with_reducible refine G.i_call ?_) | (with_reducible refine G.i_CB ?_) | (with_reducible refine G.i_make ?_) | (with_reducible refine G.i_fld ?_) | (with_reducible refine G.i_sfld ?_) | (with_reducible refine G.i_meth ?_) | (with_reducible refine G.i_noPart ?_) | (with_reducible refine G.i_part ?_) | (with_reducible refine G.i_kI ?_) | (with_reducible refine G.i_sl ?_) | (with_reducible refine G.i_bm ?_) | (with_reducible refine G.i_bm0 ?_) | (with_reducible refine G.i_for ?_) | (with_reducible refine G.i_iL ?_) | (with_reducible refine G.i_iR ?_) | (with_reducible refine G.i_v0 ?_) | (with_reducible refine G.i_v1 ?_) | (with_reducible refine G.i_v2 ?_) | (with_reducible refine G.i_v3 ?_) | (with_reducible refine G.i_v4 ?_) | (with_reducible refine G.i_v5 ?_) | (with_reducible refine G.i_v6 ?_) | (with_reducible refine G.i_v7 ?_) | (with_reducible refine G.i_v8 ?_) | (with_reducible refine G.i_v9 ?_) | (with_reducible refine G.i_v10 ?_) | (with_reducible refine G.i_v11 ?_) | (with_reducible refine G.i_v12 ?_) | (with_reducible refine G.i_v13 ?_) | (with_reducible refine G.i_v14 ?_) | (with_reducible refine G.i_v15 ?_) | (with_reducible refine G.i_v16 ?_) | (with_reducible refine G.i_v17 ?_) | (with_reducible refine G.i_v18 ?_) | (with_reducible refine G.i_v19 ?_) | (with_reducible refine G.i_v20 ?_) | (with_reducible refine G.i_v21 ?_) | (with_reducible refine G.i_v22 ?_) | (with_reducible refine G.i_v23 ?_) | (with_reducible refine G.i_v24 ?_) | (with_reducible refine G.i_v25 ?_) | (with_reducible refine G.i_g0 ?_) | (with_reducible refine G.i_g1 ?_) | (with_reducible refine G.i_g2 ?_) | (with_reducible refine G.i_g3 ?_) | (with_reducible refine G.i_g4 ?_) | (with_reducible refine G.i_g5 ?_) | (with_reducible refine G.i_g6 ?_) | (with_reducible refine G.i_g7 ?_) | (with_reducible refine G.i_g8 ?_) | (with_reducible refine G.i_g9 ?_) | (with_reducible refine G.i_g10 ?_) | (with_reducible refine G.i_g11 ?_) | (with_reducible refine G.i_g12 ?_) | (with_reducible refine G.i_g13 ?_) | (with_reducible refine G.i_g14 ?_) | (with_reducible refine G.i_g15 ?_) | (with_reducible refine G.i_g16 ?_) | (with_reducible refine G.i_g17 ?_) | (with_reducible refine G.i_g18 ?_) | (with_reducible refine G.i_g19 ?_) | (with_reducible refine G.i_g20 ?_) | (with_reducible refine G.i_g21 ?_) | (with_reducible refine G.i_g22 ?_) | (with_reducible refine G.i_g23 ?_) | (with_reducible refine G.i_g24 ?_) | (with_reducible refine G.i_g25 ?_) | (with_reducible refine G.i_inS ?_) | (with_reducible refine G.i_notInS ?_) | (with_reducible refine G.i_find ?_) | (with_reducible refine G.i_tyS ?_) | (with_reducible refine G.i_iS ?_) | (with_reducible refine G.i_true ?_) | (with_reducible refine G.i_chain ?_) | (with_reducible refine G.i_starts ?_) | (with_reducible refine G.i_max ?_) | (with_reducible refine G.i_min ?_) | (with_reducible refine G.i_raise ?_) | (with_reducible refine G.i_callX ?_) | (with_reducible refine G.i_methX ?_) | (with_reducible refine G.i_try ?_) | (with_reducible refine G.i_tryAs ?_) | (with_reducible refine G.i_gsub ?_) | (with_reducible refine G.i_isB ?_) | (with_reducible refine G.i_notB ?_) | (with_reducible refine G.i_make0 ?_) | (with_reducible refine G.i_par2 ?_) | (with_reducible refine G.i_par3 ?_) | (with_reducible refine G.i_tab ?_) | (with_reducible refine G.i_dget ?_) | (with_reducible refine G.i_din ?_) | (with_reducible refine G.i_dnotin ?_) | (with_reducible refine G.i_dput ?_) | (with_reducible refine G.i_lcg2 ?_) | (with_reducible refine G.i_isiI_int ?_) | (with_reducible refine G.i_isiI_bool ?_) | (with_reducible refine G.i_isiI_str ?_) | (with_reducible refine G.i_isiI_list ?_) | (with_reducible refine G.i_isiI_tuple ?_) | (with_reducible refine G.i_isiI_dict ?_) | (with_reducible refine G.i_isiB_int ?_) | (with_reducible refine G.i_isiB_bool ?_) | (with_reducible refine G.i_isiB_str ?_) | (with_reducible refine G.i_isiB_list ?_) | (with_reducible refine G.i_isiB_tuple ?_) | (with_reducible refine G.i_isiB_dict ?_) | (with_reducible refine G.i_isiS_int ?_) | (with_reducible refine G.i_isiS_bool ?_) | (with_reducible refine G.i_isiS_str ?_) | (with_reducible refine G.i_isiS_list ?_) | (with_reducible refine G.i_isiS_tuple ?_) | (with_reducible refine G.i_isiS_dict ?_) | (with_reducible refine G.i_isiN_int ?_) | (with_reducible refine G.i_isiN_bool ?_) | (with_reducible refine G.i_isiN_str ?_) | (with_reducible refine G.i_isiN_list ?_) | (with_reducible refine G.i_isiN_tuple ?_) | (with_reducible refine G.i_isiN_dict ?_))
local macro_rules | `(tactic| walk_at "ne") => `(tactic| first | assumption | (exact Ne.symm (by assumption)) | exact L2.ne_of_none (by assumption) (by assumption) | exact Ne.symm (L2.ne_of_none (by assumption) (by assumption)) | exact Nat.ne_of_lt (by assumption))
local macro_rules | `(tactic| walk_at "hp") => `(tactic| first | assumption | exact L2.upd_same | (refine Eq.trans (L2.upd_ne ?hne) ?_; (case hne => walk_at "ne"); walk_at "hp"))
local macro_rules | `(tactic| walk_at "side") => `(tactic| first | omega | decide | (show (_ : Int) < _; decide) | exact ⟨by decide, by decide⟩ | exact ⟨by decide, by decide, by decide⟩ | (unfold L2.CMul; omega) | exact .inl (by unfold L2.CMul; omega))
local macro_rules | `(tactic| walk_at "ev") => `(tactic| repeat (first | walk_at "g1" | ((with_reducible refine G.i_I ?hc ?_); (case hc => walk_at "side"))))
local macro_rules | `(tactic| walk_at "g2") => `(tactic| first | (with_reducible refine G.i_next ?_) | (with_reducible refine G.i_break ?_) | (with_reducible refine G.i_cont ?_) | (with_reducible refine G.i_drop ?_) | (with_reducible refine G.i_ret ?_) | (with_reducible refine G.i_retN ?_) | (with_reducible refine G.i_if ?_) | (with_reducible refine G.i_asg ?_) | (with_reducible refine G.i_C ?_) | (with_reducible refine G.i_op ?_) | (with_reducible refine G.i_un ?_) | (with_reducible refine G.i_B ?_) | (with_reducible refine G.i_test ?_) | (with_reducible refine G.i_tB ?_) | (with_reducible refine G.i_and ?_) | (with_reducible refine G.i_or ?_) | (with_reducible refine G.i_not ?_) | (with_reducible refine G.i_andV ?_) | (with_reducible refine G.i_orV ?_) | (with_reducible refine G.i_notV ?_) | (with_reducible refine G.i_ifx ?_) | (with_reducible refine G.i_I0 ?_) | (with_reducible refine G.i_U ?_) | (with_reducible refine G.i_eqI ?_) | (with_reducible refine G.i_eqS ?_) | (with_reducible refine G.i_eqB ?_) | (with_reducible refine G.i_eqNI ?_) | (with_reducible refine G.i_eqIN ?_) | (with_reducible refine G.i_neI ?_) | (with_reducible refine G.i_neS ?_) | (with_reducible refine G.i_neB ?_) | (with_reducible refine G.i_isN0 ?_) | (with_reducible refine G.i_isN1 ?_) | (with_reducible refine G.i_isN2 ?_) | (with_reducible refine G.i_isN3 ?_) | (with_reducible refine G.i_isN4 ?_) | (with_reducible refine G.i_notN0 ?_) | (with_reducible refine G.i_notN1 ?_) | (with_reducible refine G.i_notN2 ?_) | (with_reducible refine G.i_notN3 ?_) | (with_reducible refine G.i_notN4 ?_) | (with_reducible refine G.i_iteT ?_) | (with_reducible refine G.i_iteF ?_) | (with_reducible refine G.i_iteNT ?_) | (with_reducible refine G.i_iteNF ?_) | (with_reducible refine G.i_nil ?_) | (with_reducible refine G.i_cons ?_) | (with_reducible refine G.i_lst ?_) | (with_reducible refine G.i_tup ?_) | (with_reducible refine G.i_call ?_) | (with_reducible refine G.i_CB ?_) | (with_reducible refine G.i_make ?_) | (with_reducible refine G.i_fld ?_) | (with_reducible refine G.i_sfld ?_) | (with_reducible refine G.i_meth ?_) | (with_reducible refine G.i_noPart ?_) | (with_reducible refine G.i_part ?_) | (with_reducible refine G.i_kI ?_) | (with_reducible refine G.i_sl ?_) | (with_reducible refine G.i_bm ?_) | (with_reducible refine G.i_bm0 ?_) | (with_reducible refine G.i_for ?_) | (with_reducible refine G.i_iL ?_) | (with_reducible refine G.i_iR ?_) | (with_reducible refine G.i_v0 ?_) | (with_reducible refine G.i_v1 ?_) | (with_reducible refine G.i_v2 ?_) | (with_reducible refine G.i_v3 ?_) | (with_reducible refine G.i_v4 ?_) | (with_reducible refine G.i_v5 ?_) | (with_reducible refine G.i_v6 ?_) | (with_reducible refine G.i_v7 ?_) | (with_reducible refine G.i_v8 ?_) | (with_reducible refine G.i_v9 ?_) | (with_reducible refine G.i_v10 ?_) | (with_reducible refine G.i_v11 ?_) | (with_reducible refine G.i_v12 ?_) | (with_reducible refine G.i_v13 ?_) | (with_reducible refine G.i_v14 ?_) | (with_reducible refine G.i_v15 ?_) | (with_reducible refine G.i_v16 ?_) | (with_reducible refine G.i_v17 ?_) | (with_reducible refine G.i_v18 ?_) | (with_reducible refine G.i_v19 ?_) | (with_reducible refine G.i_v20 ?_) | (with_reducible refine G.i_v21 ?_) | (with_reducible refine G.i_v22 ?_) | (with_reducible refine G.i_v23 ?_) | (with_reducible refine G.i_v24 ?_) | (with_reducible refine G.i_v25 ?_) | (with_reducible refine G.i_g0 ?_) | (with_reducible refine G.i_g1 ?_) | (with_reducible refine G.i_g2 ?_) | (with_reducible refine G.i_g3 ?_) | (with_reducible refine G.i_g4 ?_) | (with_reducible refine G.i_g5 ?_) | (with_reducible refine G.i_g6 ?_) | (with_reducible refine G.i_g7 ?_) | (with_reducible refine G.i_g8 ?_) | (with_reducible refine G.i_g9 ?_) | (with_reducible refine G.i_g10 ?_) | (with_reducible refine G.i_g11 ?_) | (with_reducible refine G.i_g12 ?_) | (with_reducible refine G.i_g13 ?_) | (with_reducible refine G.i_g14 ?_) | (with_reducible refine G.i_g15 ?_) | (with_reducible refine G.i_g16 ?_) | (with_reducible refine G.i_g17 ?_) | (with_reducible refine G.i_g18 ?_) | (with_reducible refine G.i_g19 ?_) | (with_reducible refine G.i_g20 ?_) | (with_reducible refine G.i_g21 ?_) | (with_reducible refine G.i_g22 ?_) | (with_reducible refine G.i_g23 ?_) | (with_reducible refine G.i_g24 ?_) | (with_reducible refine G.i_g25 ?_) | (with_reducible refine G.i_inS ?_) | (with_reducible refine G.i_notInS ?_) | (with_reducible refine G.i_find ?_) | (with_reducible refine G.i_tyS ?_) | (with_reducible refine G.i_iS ?_) | (with_reducible refine G.i_true ?_) | (with_reducible refine G.i_chain ?_) | (with_reducible refine G.i_starts ?_) | (with_reducible refine G.i_max ?_) | (with_reducible refine G.i_min ?_) | (with_reducible refine G.i_raise ?_) | (with_reducible refine G.i_callX ?_) | (with_reducible refine G.i_methX ?_) | (with_reducible refine G.i_try ?_) | (with_reducible refine G.i_tryAs ?_) | (with_reducible refine G.i_gsub ?_) | (with_reducible refine G.i_isB ?_) | (with_reducible refine G.i_notB ?_) | (with_reducible refine G.i_make0 ?_) | (with_reducible refine G.i_par2 ?_) | (with_reducible refine G.i_par3 ?_) | (with_reducible refine G.i_tab ?_) | (with_reducible refine G.i_dget ?_) | (with_reducible refine G.i_din ?_) | (with_reducible refine G.i_dnotin ?_) | (with_reducible refine G.i_dput ?_) | (with_reducible refine G.i_lcg2 ?_) | (with_reducible refine G.i_isiI_int ?_) | (with_reducible refine G.i_isiI_bool ?_) | (with_reducible refine G.i_isiI_str ?_) | (with_reducible refine G.i_isiI_list ?_) | (with_reducible refine G.i_isiI_tuple ?_) | (with_reducible refine G.i_isiI_dict ?_) | (with_reducible refine G.i_isiB_int ?_) | (with_reducible refine G.i_isiB_bool ?_) | (with_reducible refine G.i_isiB_str ?_) | (with_reducible refine G.i_isiB_list ?_) | (with_reducible refine G.i_isiB_tuple ?_) | (with_reducible refine G.i_isiB_dict ?_) | (with_reducible refine G.i_isiS_int ?_) | (with_reducible refine G.i_isiS_bool ?_) | (with_reducible refine G.i_isiS_str ?_) | (with_reducible refine G.i_isiS_list ?_) | (with_reducible refine G.i_isiS_tuple ?_) | (with_reducible refine G.i_isiS_dict ?_) | (with_reducible refine G.i_isiN_int ?_) | (with_reducible refine G.i_isiN_bool ?_) | (with_reducible refine G.i_isiN_str ?_) | (with_reducible refine G.i_isiN_list ?_) | (with_reducible refine G.i_isiN_tuple ?_) | (with_reducible refine G.i_isiN_dict ?_))
local macro_rules | `(tactic| walk_at "es") => `(tactic| repeat (first | walk_at "g2" | ((with_reducible refine G.i_I ?hc ?_); (case hc => walk_at "side"))))
local macro_rules | `(tactic| walk_at "caps") => `(tactic| simp only [List.map_cons, List.map_nil, G.pick, List.getElem?_cons_zero, List.getElem?_cons_succ])
namespace K06
open PySem L2 G
def cellF (birth : Int) (bulk : Int) (tone : Int) (load : Int) (fa : Addr) : List (Str × V) := [("birth", .int birth), ("bulk", .int bulk), ("tone", .int tone), ("load", .int load), ("fields", .ref fa)]
theorem cellF_s_bulk_birth : (("bulk" : Str) == ("birth" : Str)) = false := by decide +kernel
theorem cellF_s_tone_birth : (("tone" : Str) == ("birth" : Str)) = false := by decide +kernel
theorem cellF_s_tone_bulk : (("tone" : Str) == ("bulk" : Str)) = false := by decide +kernel
theorem cellF_s_load_birth : (("load" : Str) == ("birth" : Str)) = false := by decide +kernel
theorem cellF_s_load_bulk : (("load" : Str) == ("bulk" : Str)) = false := by decide +kernel
theorem cellF_s_load_tone : (("load" : Str) == ("tone" : Str)) = false := by decide +kernel
theorem cellF_s_fields_birth : (("fields" : Str) == ("birth" : Str)) = false := by decide +kernel
theorem cellF_s_fields_bulk : (("fields" : Str) == ("bulk" : Str)) = false := by decide +kernel
theorem cellF_s_fields_tone : (("fields" : Str) == ("tone" : Str)) = false := by decide +kernel
theorem cellF_s_fields_load : (("fields" : Str) == ("load" : Str)) = false := by decide +kernel
theorem cellF_lk_birth {birth : Int} {bulk : Int} {tone : Int} {load : Int} {fa : Addr} : List.lookup ("birth" : Str) (cellF birth bulk tone load fa) = some (.int birth : V) := by
  unfold cellF
  simp only [List.lookup, beq_self_eq_true]
theorem cellF_lk_bulk {birth : Int} {bulk : Int} {tone : Int} {load : Int} {fa : Addr} : List.lookup ("bulk" : Str) (cellF birth bulk tone load fa) = some (.int bulk : V) := by
  unfold cellF
  simp only [List.lookup, beq_self_eq_true, cellF_s_bulk_birth]
theorem cellF_lk_tone {birth : Int} {bulk : Int} {tone : Int} {load : Int} {fa : Addr} : List.lookup ("tone" : Str) (cellF birth bulk tone load fa) = some (.int tone : V) := by
  unfold cellF
  simp only [List.lookup, beq_self_eq_true, cellF_s_tone_birth, cellF_s_tone_bulk]
theorem cellF_lk_load {birth : Int} {bulk : Int} {tone : Int} {load : Int} {fa : Addr} : List.lookup ("load" : Str) (cellF birth bulk tone load fa) = some (.int load : V) := by
  unfold cellF
  simp only [List.lookup, beq_self_eq_true, cellF_s_load_birth, cellF_s_load_bulk, cellF_s_load_tone]
theorem cellF_lk_fields {birth : Int} {bulk : Int} {tone : Int} {load : Int} {fa : Addr} : List.lookup ("fields" : Str) (cellF birth bulk tone load fa) = some (.ref fa : V) := by
  unfold cellF
  simp only [List.lookup, beq_self_eq_true, cellF_s_fields_birth, cellF_s_fields_bulk, cellF_s_fields_tone, cellF_s_fields_load]
theorem cellF_ne {a b : Str} (h : (a == b) = false) : ¬ b = a := fun e => by rw [e, beq_self_eq_true] at h; cases h
theorem cellF_mk {birth : Int} {bulk : Int} {tone : Int} {load : Int} {fa : Addr} : (putF "fields" (.ref fa) (putF "load" (.int load) (putF "tone" (.int tone) (putF "bulk" (.int bulk) (putF "birth" (.int birth) []))))) = cellF birth bulk tone load fa := by
  unfold cellF
  simp only [putF, if_neg (cellF_ne cellF_s_bulk_birth), if_neg (cellF_ne cellF_s_tone_birth), if_neg (cellF_ne cellF_s_tone_bulk), if_neg (cellF_ne cellF_s_load_birth), if_neg (cellF_ne cellF_s_load_bulk), if_neg (cellF_ne cellF_s_load_tone), if_neg (cellF_ne cellF_s_fields_birth), if_neg (cellF_ne cellF_s_fields_bulk), if_neg (cellF_ne cellF_s_fields_tone), if_neg (cellF_ne cellF_s_fields_load)]
theorem cellF_s_units_birth : (("units" : Str) == ("birth" : Str)) = false := by decide +kernel
theorem cellF_s_units_bulk : (("units" : Str) == ("bulk" : Str)) = false := by decide +kernel
theorem cellF_s_units_tone : (("units" : Str) == ("tone" : Str)) = false := by decide +kernel
theorem cellF_s_units_load : (("units" : Str) == ("load" : Str)) = false := by decide +kernel
theorem cellF_s_units_fields : (("units" : Str) == ("fields" : Str)) = false := by decide +kernel
theorem cellF_no_units {birth : Int} {bulk : Int} {tone : Int} {load : Int} {fa : Addr} : List.lookup ("units" : Str) (cellF birth bulk tone load fa) = none := by
  unfold cellF
  simp only [List.lookup, cellF_s_units_birth, cellF_s_units_bulk, cellF_s_units_tone, cellF_s_units_load, cellF_s_units_fields]
def heapF (room : Int) (ca : Addr) (used : Int) (born : Int) : List (Str × V) := [("room", .int room), ("cells", .ref ca), ("used", .int used), ("born", .int born)]
theorem heapF_s_cells_room : (("cells" : Str) == ("room" : Str)) = false := by decide +kernel
theorem heapF_s_used_room : (("used" : Str) == ("room" : Str)) = false := by decide +kernel
theorem heapF_s_used_cells : (("used" : Str) == ("cells" : Str)) = false := by decide +kernel
theorem heapF_s_born_room : (("born" : Str) == ("room" : Str)) = false := by decide +kernel
theorem heapF_s_born_cells : (("born" : Str) == ("cells" : Str)) = false := by decide +kernel
theorem heapF_s_born_used : (("born" : Str) == ("used" : Str)) = false := by decide +kernel
theorem heapF_lk_room {room : Int} {ca : Addr} {used : Int} {born : Int} : List.lookup ("room" : Str) (heapF room ca used born) = some (.int room : V) := by
  unfold heapF
  simp only [List.lookup, beq_self_eq_true]
theorem heapF_lk_cells {room : Int} {ca : Addr} {used : Int} {born : Int} : List.lookup ("cells" : Str) (heapF room ca used born) = some (.ref ca : V) := by
  unfold heapF
  simp only [List.lookup, beq_self_eq_true, heapF_s_cells_room]
theorem heapF_lk_used {room : Int} {ca : Addr} {used : Int} {born : Int} : List.lookup ("used" : Str) (heapF room ca used born) = some (.int used : V) := by
  unfold heapF
  simp only [List.lookup, beq_self_eq_true, heapF_s_used_room, heapF_s_used_cells]
theorem heapF_lk_born {room : Int} {ca : Addr} {used : Int} {born : Int} : List.lookup ("born" : Str) (heapF room ca used born) = some (.int born : V) := by
  unfold heapF
  simp only [List.lookup, beq_self_eq_true, heapF_s_born_room, heapF_s_born_cells, heapF_s_born_used]
theorem heapF_ne {a b : Str} (h : (a == b) = false) : ¬ b = a := fun e => by rw [e, beq_self_eq_true] at h; cases h
theorem heapF_put_used {room : Int} {ca : Addr} {used : Int} {born : Int} (y : Int) : putF "used" (.int y) (heapF room ca used born) = heapF room ca y born := by
  unfold heapF
  simp only [putF, if_true, if_neg (heapF_ne heapF_s_used_room), if_neg (heapF_ne heapF_s_used_cells)]
theorem heapF_put_born {room : Int} {ca : Addr} {used : Int} {born : Int} (y : Int) : putF "born" (.int y) (heapF room ca used born) = heapF room ca used y := by
  unfold heapF
  simp only [putF, if_true, if_neg (heapF_ne heapF_s_born_room), if_neg (heapF_ne heapF_s_born_cells), if_neg (heapF_ne heapF_s_born_used)]
theorem heapF_mk {room : Int} {ca : Addr} {used : Int} {born : Int} : (putF "born" (.int born) (putF "used" (.int used) (putF "cells" (.ref ca) (putF "room" (.int room) [])))) = heapF room ca used born := by
  unfold heapF
  simp only [putF, if_neg (heapF_ne heapF_s_cells_room), if_neg (heapF_ne heapF_s_used_room), if_neg (heapF_ne heapF_s_used_cells), if_neg (heapF_ne heapF_s_born_room), if_neg (heapF_ne heapF_s_born_cells), if_neg (heapF_ne heapF_s_born_used)]
theorem heapF_s_make_room : (("make" : Str) == ("room" : Str)) = false := by decide +kernel
theorem heapF_s_make_cells : (("make" : Str) == ("cells" : Str)) = false := by decide +kernel
theorem heapF_s_make_used : (("make" : Str) == ("used" : Str)) = false := by decide +kernel
theorem heapF_s_make_born : (("make" : Str) == ("born" : Str)) = false := by decide +kernel
theorem heapF_no_make {room : Int} {ca : Addr} {used : Int} {born : Int} : List.lookup ("make" : Str) (heapF room ca used born) = none := by
  unfold heapF
  simp only [List.lookup, heapF_s_make_room, heapF_s_make_cells, heapF_s_make_used, heapF_s_make_born]
theorem heapF_s_lay_room : (("lay" : Str) == ("room" : Str)) = false := by decide +kernel
theorem heapF_s_lay_cells : (("lay" : Str) == ("cells" : Str)) = false := by decide +kernel
theorem heapF_s_lay_used : (("lay" : Str) == ("used" : Str)) = false := by decide +kernel
theorem heapF_s_lay_born : (("lay" : Str) == ("born" : Str)) = false := by decide +kernel
theorem heapF_no_lay {room : Int} {ca : Addr} {used : Int} {born : Int} : List.lookup ("lay" : Str) (heapF room ca used born) = none := by
  unfold heapF
  simp only [List.lookup, heapF_s_lay_room, heapF_s_lay_cells, heapF_s_lay_used, heapF_s_lay_born]
theorem heapF_s_back_room : (("back" : Str) == ("room" : Str)) = false := by decide +kernel
theorem heapF_s_back_cells : (("back" : Str) == ("cells" : Str)) = false := by decide +kernel
theorem heapF_s_back_used : (("back" : Str) == ("used" : Str)) = false := by decide +kernel
theorem heapF_s_back_born : (("back" : Str) == ("born" : Str)) = false := by decide +kernel
theorem heapF_no_back {room : Int} {ca : Addr} {used : Int} {born : Int} : List.lookup ("back" : Str) (heapF room ca used born) = none := by
  unfold heapF
  simp only [List.lookup, heapF_s_back_room, heapF_s_back_cells, heapF_s_back_used, heapF_s_back_born]
theorem heapF_s_free_room : (("free" : Str) == ("room" : Str)) = false := by decide +kernel
theorem heapF_s_free_cells : (("free" : Str) == ("cells" : Str)) = false := by decide +kernel
theorem heapF_s_free_used : (("free" : Str) == ("used" : Str)) = false := by decide +kernel
theorem heapF_s_free_born : (("free" : Str) == ("born" : Str)) = false := by decide +kernel
theorem heapF_no_free {room : Int} {ca : Addr} {used : Int} {born : Int} : List.lookup ("free" : Str) (heapF room ca used born) = none := by
  unfold heapF
  simp only [List.lookup, heapF_s_free_room, heapF_s_free_cells, heapF_s_free_used, heapF_s_free_born]
theorem heapF_s_there_room : (("there" : Str) == ("room" : Str)) = false := by decide +kernel
theorem heapF_s_there_cells : (("there" : Str) == ("cells" : Str)) = false := by decide +kernel
theorem heapF_s_there_used : (("there" : Str) == ("used" : Str)) = false := by decide +kernel
theorem heapF_s_there_born : (("there" : Str) == ("born" : Str)) = false := by decide +kernel
theorem heapF_no_there {room : Int} {ca : Addr} {used : Int} {born : Int} : List.lookup ("there" : Str) (heapF room ca used born) = none := by
  unfold heapF
  simp only [List.lookup, heapF_s_there_room, heapF_s_there_cells, heapF_s_there_used, heapF_s_there_born]
def rd_Cell___init__ (K : PySem.W.Frag) : TS :=
  (tSeq (sFld K (tVar 0) (tVar 1) "birth")
      (tSeq (sFld K (tVar 0) (tVar 3) "bulk")
      (tSeq (sFld K (tVar 0) (tVar 4) "tone")
      (tSeq (sFld K (tVar 0) (tC (.int 0)) "load")
      (sFld K (tVar 0) (tOp (rRep) (tLst (tCons (tC .non) tNil)) (tVar 2)) "fields")))))
def rd_Cell_units (K : PySem.W.Frag) : TS :=
  (tRet (tOp (rI0 fun i j => .int (i + j)) (tOp (rI0 fun i j => .int (i + j)) (tC (.int 1)) (tCB (G.cLenL K) (tCons (tFld K (tVar 0) "fields") tNil))) (tFld K (tVar 0) "bulk")))
def rd_Heap___init__ (K : PySem.W.Frag) : TS :=
  (tSeq (sFld K (tVar 0) (tVar 1) "room")
      (tSeq (sFld K (tVar 0) (tLst tNil) "cells")
      (tSeq (sFld K (tVar 0) (tC (.int 0)) "used")
      (sFld K (tVar 0) (tC (.int 0)) "born"))))
def rd_Heap_make (K : PySem.W.Frag) (C_Cell C_Full C_Heap : Addr) (sp_Cell___init__ sp_Cell_units sp_Heap_free sp_Heap_lay : Sp) (E : XK) : TS :=
  (tSeq (tAsg (tMake C_Cell sp_Cell___init__ [] E0 (tCons (tOp (rI0 fun i j => .int (i + j)) (tFld K (tVar 0) "born") (tC (.int 1))) (tCons (tVar 1) (tCons (tVar 2) (tCons (tVar 3) tNil))))) (gName 4))
      (tSeq (tIfS (tTest (tOp (rI0 fun i j => .bl (decide (j < i))) (tMeth C_Cell "units" sp_Cell_units [] E0 (tVar 4) tNil) (tMeth C_Heap "free" sp_Heap_free [] E0 (tVar 0) tNil))) (G.tRaise C_Full E (tCons (tC (.str "the room does not suffice")) tNil)) tNext)
      (tSeq (sFld K (tVar 0) (tFld K (tVar 4) "birth") "born")
      (tSeq (sFld K (tVar 0) (tOp (rI0 fun i j => .int (i + j)) (tFld K (tVar 0) "used") (tMeth C_Cell "units" sp_Cell_units [] E0 (tVar 4) tNil)) "used")
      (tRet (tMeth C_Heap "lay" sp_Heap_lay [] E0 (tVar 0) (tCons (tVar 4) tNil)))))))
def rd_Heap_lay (K : PySem.W.Frag) : TS :=
  (tSeq (tIfS (tTest (tOp (G.rInN K true) (tC .non) (tFld K (tVar 0) "cells"))) (tSeq (tDrop (tBM K "list" rAppend (tFld K (tVar 0) "cells") (tCons (tVar 1) tNil)))
      (tRet (tOp (rI0 fun i j => .int (i - j)) (tCB (G.cLenL K) (tCons (tFld K (tVar 0) "cells") tNil)) (tC (.int 1))))) tNext)
      (tSeq (tAsg (tBM K "list" (G.rIndexN K) (tFld K (tVar 0) "cells") (tCons (tC .non) tNil)) (gName 2))
      (tSeq (tAsg (tVar 1) (gSub (tFld K (tVar 0) "cells") (tVar 2) rSetL))
      (tRet (tVar 2)))))
def rd_Heap_back (K : PySem.W.Frag) (C_Cell : Addr) (sp_Cell_units : Sp) : TS :=
  (tSeq (tAsg (tOp (rIxL K) (tFld K (tVar 0) "cells") (tVar 1)) (gName 2))
      (tSeq (sFld K (tVar 0) (tOp (rI0 fun i j => .int (i - j)) (tFld K (tVar 0) "used") (tMeth C_Cell "units" sp_Cell_units [] E0 (tVar 2) tNil)) "used")
      (tSeq (tAsg (tC .non) (gSub (tFld K (tVar 0) "cells") (tVar 1) rSetL))
      (tRet (tFld K (tVar 2) "birth")))))
def rd_Heap_free (K : PySem.W.Frag) : TS :=
  (tRet (tOp (rI0 fun i j => .int (i - j)) (tFld K (tVar 0) "room") (tFld K (tVar 0) "used")))
def rd_Heap_there (K : PySem.W.Frag) : TS :=
  (tRet (G.tLC (iRng1 (tCons (tCB (G.cLenL K) (tCons (tFld K (tVar 0) "cells") tNil)) tNil)) [0] (tTest (tOp (G.rNotN) (tOp (rIxL K) (tFld K (tVar 1) "cells") (tVar 0)) (tC .non))) (tVar 0)))
def rd_cell_at (K : PySem.W.Frag) : TS :=
  (tSeq (tIfS ((tOr (tTest (tOp (G.rIsN) (tVar 1) (tC .non))) (tOr (tTest (tOp (rI0 fun i j => .bl (decide (i < j))) (tVar 1) (tC (.int 0)))) (tTest (tOp (rI0 fun i j => .bl (decide (j ≤ i))) (tVar 1) (tCB (G.cLenL K) (tCons (tFld K (tVar 0) "cells") tNil))))))) (tRet (tC .non)) tNext)
      (tRet (tOp (rIxL K) (tFld K (tVar 0) "cells") (tVar 1))))
def rd_birth_at (K : PySem.W.Frag) (sp_cell_at : Sp) : TS :=
  (tSeq (tAsg (tCall sp_cell_at [] E0 (tCons (tVar 0) (tCons (tVar 1) tNil))) (gName 2))
      (tSeq (tIfS (tTest (tOp (G.rIsN) (tVar 2) (tC .non))) (tRet (tC .non)) tNext)
      (tRet (tFld K (tVar 2) "birth"))))
def rd__law_cell_at (K : PySem.W.Frag) : TS :=
  (tSeq (tIfS (tTest (tOp (rI0 fun i j => .bl (decide (i < j))) (tVar 1) (tCB (G.cLenL K) (tCons (tVar 0) tNil)))) (tRet (tOp (rIxL K) (tVar 0) (tVar 1))) tNext)
      (tRet (tC (.int 0))))
def rd__law_whole  : TS :=
  (tRet ((tAndV (tCB (G.cIsi) (tCons (tVar 0) (tCons (tC (.ty "int")) tNil))) (tNotV (tCB (G.cIsi) (tCons (tVar 0) (tCons (tC (.ty "bool")) tNil)))))))
def rd__law_room_by  : TS :=
  (tSeq (tIfS (tTest (tOp (rEq) (tOp (rI (fun _ j => 0 < j) fun i j => .int (i % j)) (tVar 0) (tC (.int 4))) (tC (.int 0)))) (tRet (tOp (rI0 fun i j => .int (i - j)) (tOp (rI CPow fun i j => .int (i ^ j.toNat)) (tC (.int 10)) (tC (.int 15))) (tOp (rI (fun _ j => 0 < j) fun i j => .int (i % j)) (tOp (rI CDiv fun i j => .int (i / j)) (tVar 0) (tC (.int 4))) (tC (.int 9))))) tNext)
      (tSeq (tIfS (tTest (tOp (rEq) (tOp (rI (fun _ j => 0 < j) fun i j => .int (i % j)) (tVar 0) (tC (.int 4))) (tC (.int 1)))) (tRet (tOp (rI0 fun i j => .int (i + j)) (tC (.int 4)) (tOp (rI (fun _ j => 0 < j) fun i j => .int (i % j)) (tOp (rI (fun _ j => 0 < j) fun i j => .int (i % j)) (tOp (rI CMul fun i j => .int (i * j)) (tOp (rI CDiv fun i j => .int (i / j)) (tVar 0) (tC (.int 4))) (tC (.int 48271))) (tC (.int 1000000000000037))) (tOp (rI0 fun i j => .int (i - j)) (tOp (rI CPow fun i j => .int (i ^ j.toNat)) (tC (.int 10)) (tC (.int 15))) (tC (.int 3)))))) tNext)
      (tRet (tOp (rI0 fun i j => .int (i + j)) (tC (.int 4)) (tOp (rI (fun _ j => 0 < j) fun i j => .int (i % j)) (tOp (rI CDiv fun i j => .int (i / j)) (tVar 0) (tC (.int 4))) (tC (.int 60)))))))
def rd__law_bulk  : TS :=
  (tSeq (tIfS (tTest (tOp (rEq) (tOp (rI (fun _ j => 0 < j) fun i j => .int (i % j)) (tVar 0) (tC (.int 4))) (tC (.int 0)))) (tRet (tOp (rI0 fun i j => .int (i - j)) (tOp (rI CPow fun i j => .int (i ^ j.toNat)) (tC (.int 10)) (tC (.int 12))) (tOp (rI (fun _ j => 0 < j) fun i j => .int (i % j)) (tOp (rI CDiv fun i j => .int (i / j)) (tVar 0) (tC (.int 4))) (tC (.int 5))))) tNext)
      (tSeq (tIfS (tTest (tOp (rEq) (tOp (rI (fun _ j => 0 < j) fun i j => .int (i % j)) (tVar 0) (tC (.int 4))) (tC (.int 1)))) (tRet (tOp (rI (fun _ j => 0 < j) fun i j => .int (i % j)) (tOp (rI (fun _ j => 0 < j) fun i j => .int (i % j)) (tOp (rI CMul fun i j => .int (i * j)) (tOp (rI CDiv fun i j => .int (i / j)) (tVar 0) (tC (.int 4))) (tC (.int 69621))) (tC (.int 1000000000039))) (tOp (rI0 fun i j => .int (i + j)) (tOp (rI CPow fun i j => .int (i ^ j.toNat)) (tC (.int 10)) (tC (.int 12))) (tC (.int 1))))) tNext)
      (tRet (tOp (rI (fun _ j => 0 < j) fun i j => .int (i % j)) (tOp (rI CDiv fun i j => .int (i / j)) (tVar 0) (tC (.int 4))) (tC (.int 3))))))
def rd__law_mixed  : TS :=
  (tSeq (tAsg (tOp (rI (fun _ j => 0 < j) fun i j => .int (i % j)) (tOp (rI CMul fun i j => .int (i * j)) (tOp (rI0 fun i j => .int (i + j)) (tOp (rI (fun _ j => 0 < j) fun i j => .int (i % j)) (tVar 0) (tVar 1)) (tC (.int 12345))) (tC (.int 48271))) (tVar 1)) (gName 2))
      (tRet (tOp (rI CDiv fun i j => .int (i / j)) (tOp (rI (fun _ j => 0 < j) fun i j => .int (i % j)) (tOp (rI CMul fun i j => .int (i * j)) (tVar 2) (tVar 2)) (tC (.int 998244353))) (tC (.int 3)))))
def rd__law_places (K : PySem.W.Frag) : TS :=
  (tRet (G.tLC (iRng1 (tCons (tCB (G.cLenL K) (tCons (tVar 0) tNil)) tNil)) [0] (tTest (tOp (G.rNotN) (tOp (rIxL K) (tVar 1) (tVar 0)) (tC .non))) (tVar 0)))
def rd__law_used (K : PySem.W.Frag) : TS :=
  (tRet (tCB (G.cSum K) (tCons (G.tLC (iList K (tVar 0)) [] (tTest (tOp (G.rNotN) (tVar 0) (tC .non))) (tOp (rI0 fun i j => .int (i + j)) (tOp (rI0 fun i j => .int (i + j)) (tC (.int 1)) (tCB (G.cLenL K) (tCons (tOp (rIxL K) (tVar 0) (tC (.int 4))) tNil))) (tOp (rIxL K) (tVar 0) (tC (.int 1))))) tNil)))
def rd__law_made_t0_11 (sp__law_whole : Sp) : TS :=
  (tSeq (tAsg (tLst (tCons (tVar 4) (tCons (tVar 6) (tCons (tVar 7) (tCons (tC (.int 0)) (tCons (tOp (rRep) (tLst (tCons (tC .non) tNil)) (tVar 5)) tNil)))))) (gSub (tVar 2) (tVar 10) rSetL))
      (tRet ((tAndV (tCall sp__law_whole [] E0 (tCons (tVar 9) tNil)) (tOp (rEq) (tVar 9) (tVar 10))))))
def rd__law_made_t0_8 (K : PySem.W.Frag) (sp__law_whole : Sp) : TS :=
  (tSeq (tIfS (tNot (tB (tVar 8))) (tRet (tOp (rEq) (tVar 9) (tUn (rU fun i => .int (-i)) (tC (.int 1))))) tNext)
      (tSeq (tAsg (tCB (G.cMinL K) (tCons (tOp (rCat) (G.tLC (iRng1 (tCons (tCB (G.cLenL K) (tCons (tVar 2) tNil)) tNil)) [2] (tTest (tOp (G.rIsN) (tOp (rIxL K) (tVar 1) (tVar 0)) (tC .non))) (tVar 0)) (tLst (tCons (tCB (G.cLenL K) (tCons (tVar 2) tNil)) tNil))) tNil)) (gName 10))
      (tSeq (tIfS (tTest (tOp (rEq) (tVar 10) (tCB (G.cLenL K) (tCons (tVar 2) tNil)))) (tDrop (tBM K "list" rAppend (tVar 2) (tCons (tC .non) tNil))) tNext)
      (rd__law_made_t0_11 sp__law_whole))))
def rd__law_made_t0_5 (K : PySem.W.Frag) (C_Full C_Heap : Addr) (sp_Heap_make sp__law_used sp__law_whole : Sp) : TS :=
  (tSeq (tAsg (tOp (rI0 fun i j => .bl (decide (i ≤ j))) (tOp (rI0 fun i j => .int (i + j)) (tOp (rI0 fun i j => .int (i + j)) (tOp (rI0 fun i j => .int (i + j)) (tCall sp__law_used [] E0 (tCons (tVar 2) tNil)) (tC (.int 1))) (tVar 5)) (tVar 6)) (tVar 1)) (gName 8))
      (tSeq (tAsg (tC .non) (gName 9))
      (tSeq (G.tTry (fun cls => cls = Value.ref C_Full) (fun Ex => (tIfS (tTest (tOp (rEq) (tOp (rI (fun _ j => 0 < j) fun i j => .int (i % j)) (tOp (rI CDiv fun i j => .int (i / j)) (tVar 3) (tC (.int 7))) (tC (.int 6))) (tC (.int 5)))) (tAsg (G.tMethX C_Heap "make" sp_Heap_make [(.int 0), (.int 0)] Ex (tVar 0) (tCons (tVar 5) tNil)) (gName 9)) (tIfS (tTest (tOp (rEq) (tOp (rI (fun _ j => 0 < j) fun i j => .int (i % j)) (tOp (rI CDiv fun i j => .int (i / j)) (tVar 3) (tC (.int 7))) (tC (.int 6))) (tC (.int 4)))) (tAsg (G.tMethX C_Heap "make" sp_Heap_make [(.int 0)] Ex (tVar 0) (tCons (tVar 5) (tCons (tVar 6) tNil))) (gName 9)) (tAsg (G.tMethX C_Heap "make" sp_Heap_make [] Ex (tVar 0) (tCons (tVar 5) (tCons (tVar 6) (tCons (tVar 7) tNil)))) (gName 9))))) (tAsg (tUn (rU fun i => .int (-i)) (tC (.int 1))) (gName 9)))
      (rd__law_made_t0_8 K sp__law_whole))))
def rd__law_made (K : PySem.W.Frag) (C_Full C_Heap : Addr) (sp_Heap_make sp__law_bulk sp__law_used sp__law_whole : Sp) : TS :=
  (tSeq (tAsg (tOp (rI (fun _ j => 0 < j) fun i j => .int (i % j)) (tOp (rI CDiv fun i j => .int (i / j)) (tVar 3) (tC (.int 10))) (tC (.int 9))) (gName 5))
      (tSeq (tAsg (tCall sp__law_bulk [] E0 (tCons (tOp (rI CDiv fun i j => .int (i / j)) (tVar 3) (tC (.int 90))) tNil)) (gName 6))
      (tSeq (tAsg (tOp (rI (fun _ j => 0 < j) fun i j => .int (i % j)) (tOp (rI CDiv fun i j => .int (i / j)) (tVar 3) (tC (.int 20))) (tC (.int 2))) (gName 7))
      (tSeq (tIfS (tTest (tOp (rEq) (tOp (rI (fun _ j => 0 < j) fun i j => .int (i % j)) (tOp (rI CDiv fun i j => .int (i / j)) (tVar 3) (tC (.int 7))) (tC (.int 6))) (tC (.int 4)))) (tAsg (tC (.int 0)) (gName 7)) tNext)
      (tSeq (tIfS (tTest (tOp (rEq) (tOp (rI (fun _ j => 0 < j) fun i j => .int (i % j)) (tOp (rI CDiv fun i j => .int (i / j)) (tVar 3) (tC (.int 7))) (tC (.int 6))) (tC (.int 5)))) (tSeq (tAsg (tC (.int 0)) (gName 6))
      (tAsg (tC (.int 0)) (gName 7))) tNext)
      (rd__law_made_t0_5 K C_Full C_Heap sp_Heap_make sp__law_used sp__law_whole))))))
def rd__law_deed_i1a (K : PySem.W.Frag) (C_Heap : Addr) (sp_Heap_back sp__law_whole : Sp) : TS :=
  (tSeq (tAsg (tMeth C_Heap "back" sp_Heap_back [] E0 (tVar 0) (tCons (tVar 6) tNil)) (gName 7))
      (tSeq (tAsg (tOp (rIxL K) (tOp (rIxL K) (tVar 2) (tVar 6)) (tC (.int 0))) (gName 8))
      (tSeq (tAsg (tC .non) (gSub (tVar 2) (tVar 6) rSetL))
      (tRet ((tAndV (tCall sp__law_whole [] E0 (tCons (tVar 7) tNil)) (tOp (rEq) (tVar 7) (tVar 8))))))))
def rd__law_deed_i1b  : TS :=
  tNext
def rd__law_deed_i2a (K : PySem.W.Frag) (sp__law_mixed : Sp) : TS :=
  (tSeq (tAsg (tOp (rI (fun _ j => 0 < j) fun i j => .int (i % j)) (tCall sp__law_mixed [] E0 (tCons (tVar 3) (tCons (tC (.int 1000033)) tNil))) (tCB (G.cLenL K) (tCons (tOp (rIxL K) (tOp (rIxL K) (tVar 2) (tVar 6)) (tC (.int 4))) tNil))) (gName 9))
      (tSeq (tAsg (tOp (rIxL K) (tVar 5) (tOp (rI (fun _ j => 0 < j) fun i j => .int (i % j)) (tCall sp__law_mixed [] E0 (tCons (tVar 3) (tCons (tC (.int 1000037)) tNil))) (tCB (G.cLenL K) (tCons (tVar 5) tNil)))) (gName 10))
      (tSeq (tAsg (tFld K (tOp (rIxL K) (tFld K (tVar 0) "cells") (tVar 6)) "fields") (gName 11))
      (tSeq (tAsg (tVar 10) (gSub (tVar 11) (tVar 9) rSetL))
      (tAsg (tVar 10) (gSub (tOp (rIxL K) (tOp (rIxL K) (tVar 2) (tVar 6)) (tC (.int 4))) (tVar 9) rSetL))))))
def rd__law_deed_i2b  : TS :=
  tNext
def rd__law_deed (K : PySem.W.Frag) (C_Heap : Addr) (sp_Heap_back sp__law_made sp__law_mixed sp__law_places sp__law_whole : Sp) : TS :=
  (tSeq (tAsg (tCall sp__law_places [] E0 (tCons (tVar 2) tNil)) (gName 5))
      (tSeq (tIfS ((tOr (tTest (tOp (rI0 fun i j => .bl (decide (i < j))) (tOp (rI (fun _ j => 0 < j) fun i j => .int (i % j)) (tOp (rI CDiv fun i j => .int (i / j)) (tVar 3) (tC (.int 2))) (tC (.int 5))) (tC (.int 3)))) (tTest (tOp (G.rEqL K false) (tVar 5) (tLst tNil))))) (tRet (tCall sp__law_made [] E0 (tCons (tVar 0) (tCons (tVar 1) (tCons (tVar 2) (tCons (tVar 3) (tCons (tVar 4) tNil))))))) tNext)
      (tSeq (tAsg (tOp (rIxL K) (tVar 5) (tOp (rI (fun _ j => 0 < j) fun i j => .int (i % j)) (tCall sp__law_mixed [] E0 (tCons (tVar 3) (tCons (tC (.int 1000003)) tNil))) (tCB (G.cLenL K) (tCons (tVar 5) tNil)))) (gName 6))
      (tSeq (tIfS (tTest (tOp (rEq) (tOp (rI (fun _ j => 0 < j) fun i j => .int (i % j)) (tOp (rI CDiv fun i j => .int (i / j)) (tVar 3) (tC (.int 2))) (tC (.int 5))) (tC (.int 3)))) (rd__law_deed_i1a K C_Heap sp_Heap_back sp__law_whole) (rd__law_deed_i1b ))
      (tSeq (tIfS (tTest (tOp (rI0 fun i j => .bl (decide (j < i))) (tCB (G.cLenL K) (tCons (tOp (rIxL K) (tOp (rIxL K) (tVar 2) (tVar 6)) (tC (.int 4))) tNil)) (tC (.int 0)))) (rd__law_deed_i2a K sp__law_mixed) (rd__law_deed_i2b ))
      (tRet (tC (.bl true))))))))
def rd__law_state (K : PySem.W.Frag) (C_Heap : Addr) (sp_Heap_free sp__law_mixed sp__law_used sp__law_whole sp_birth_at : Sp) : TS :=
  (tSeq (tAsg (tMeth C_Heap "free" sp_Heap_free [] E0 (tVar 0) tNil) (gName 5))
      (tSeq (tIfS ((tOr (tNot (tB (tCall sp__law_whole [] E0 (tCons (tFld K (tVar 0) "used") tNil)))) (tOr (tNot (tB (tCall sp__law_whole [] E0 (tCons (tVar 5) tNil)))) (tNot (tB (tCall sp__law_whole [] E0 (tCons (tFld K (tVar 0) "born") tNil))))))) (tRet (tC (.bl false))) tNext)
      (tSeq (tIfS ((tOr (tTest (tOp (rNe) (tFld K (tVar 0) "used") (tCall sp__law_used [] E0 (tCons (tVar 2) tNil)))) (tOr (tTest (tOp (rNe) (tVar 5) (tOp (rI0 fun i j => .int (i - j)) (tVar 1) (tFld K (tVar 0) "used")))) (tOr (tTest (tOp (rNe) (tFld K (tVar 0) "born") (tVar 3))) (tTest (tOp (rNe) (tCB (G.cLenL K) (tCons (tFld K (tVar 0) "cells") tNil)) (tCB (G.cLenL K) (tCons (tVar 2) tNil)))))))) (tRet (tC (.bl false))) tNext)
      (tSeq (tIfS (tTest (tOp (G.rNotN) (tCall sp_birth_at [] E0 (tCons (tVar 0) (tCons (tC .non) tNil))) (tC .non))) (tRet (tC (.bl false))) tNext)
      (tSeq (tIfS (tTest (tOp (G.rEqL K false) (tVar 2) (tLst tNil))) (tRet (tC (.bl true))) tNext)
      (tSeq (tAsg (tOp (rI (fun _ j => 0 < j) fun i j => .int (i % j)) (tCall sp__law_mixed [] E0 (tCons (tVar 4) (tCons (tC (.int 1000039)) tNil))) (tCB (G.cLenL K) (tCons (tVar 2) tNil))) (gName 6))
      (tSeq (tAsg (tCall sp_birth_at [] E0 (tCons (tVar 0) (tCons (tVar 6) tNil))) (gName 7))
      (tSeq (tIfS (tTest (tOp (G.rIsN) (tOp (rIxL K) (tVar 2) (tVar 6)) (tC .non))) (tRet (tOp (G.rIsN) (tVar 7) (tC .non))) tNext)
      (tRet ((tAndV (tCall sp__law_whole [] E0 (tCons (tVar 7) tNil)) (tOp (rEq) (tVar 7) (tOp (rIxL K) (tOp (rIxL K) (tVar 2) (tVar 6)) (tC (.int 0)))))))))))))))
def rd__law_end (K : PySem.W.Frag) (C_Cell : Addr) (sp_Cell_units sp__law_whole sp_birth_at : Sp) : TS :=
  (tSeq (tFor (iRng1 (tCons (tCB (G.cLenL K) (tCons (tVar 1) tNil)) tNil)) (gName 2)
      (tSeq (tAsg (tOp (rIxL K) (tFld K (tVar 0) "cells") (tVar 2)) (gName 3))
      (tIfS (tTest (tOp (G.rIsN) (tOp (rIxL K) (tVar 1) (tVar 2)) (tC .non))) (tIfS ((tOr (tTest (tOp (G.rNotN) (tVar 3) (tC .non))) (tTest (tOp (G.rNotN) (tCall sp_birth_at [] E0 (tCons (tVar 0) (tCons (tVar 2) tNil))) (tC .non))))) (tRet (tC (.bl false))) tNext) (tSeq (tAsg (tLst (tCons (tFld K (tVar 3) "birth") (tCons (tFld K (tVar 3) "bulk") (tCons (tFld K (tVar 3) "tone") (tCons (tFld K (tVar 3) "load") tNil))))) (gName 4))
      (tSeq (tFor (iList K (tOp (rCat) (tVar 4) (tLst (tCons (tMeth C_Cell "units" sp_Cell_units [] E0 (tVar 3) tNil) (tCons (tCall sp_birth_at [] E0 (tCons (tVar 0) (tCons (tVar 2) tNil))) tNil))))) (gName 5)
      (tIfS (tNot (tB (tCall sp__law_whole [] E0 (tCons (tVar 5) tNil)))) (tRet (tC (.bl false))) tNext))
      (tSeq (tIfS ((tOr (tTest (tOp (G.rEqL K true) (tVar 4) (tSl (rSlL K) (tOp (rIxL K) (tVar 1) (tVar 2)) tNoPart (tPart (tC (.int 4)))))) (tOr (tNot (tB (tCB (G.cIsi) (tCons (tFld K (tVar 3) "fields") (tCons (tC (.ty "list")) tNil))))) (tTest (tOp (G.rEqL K true) (tFld K (tVar 3) "fields") (tOp (rIxL K) (tOp (rIxL K) (tVar 1) (tVar 2)) (tC (.int 4)))))))) (tRet (tC (.bl false))) tNext)
      (tIfS ((tOr (tTest (tOp (rNe) (tMeth C_Cell "units" sp_Cell_units [] E0 (tVar 3) tNil) (tOp (rI0 fun i j => .int (i + j)) (tOp (rI0 fun i j => .int (i + j)) (tC (.int 1)) (tCB (G.cLenL K) (tCons (tOp (rIxL K) (tOp (rIxL K) (tVar 1) (tVar 2)) (tC (.int 4))) tNil))) (tOp (rIxL K) (tOp (rIxL K) (tVar 1) (tVar 2)) (tC (.int 1)))))) (tTest (tOp (rNe) (tCall sp_birth_at [] E0 (tCons (tVar 0) (tCons (tVar 2) tNil))) (tOp (rIxL K) (tOp (rIxL K) (tVar 1) (tVar 2)) (tC (.int 0))))))) (tRet (tC (.bl false))) tNext)))))))
      (tRet (tC (.bl true))))
def rd_law_t1_12 (K : PySem.W.Frag) (sp__law_state : Sp) : TS :=
  (tSeq (tIfS (tNot (tB (tCall sp__law_state [] E0 (tCons (tOp (rIxL K) (tVar 2) (tC (.int 0))) (tCons (tOp (rIxL K) (tVar 1) (tC (.int 0))) (tCons (tOp (rIxL K) (tVar 3) (tC (.int 0))) (tCons (tOp (rIxL K) (tVar 4) (tC (.int 0))) (tCons (tVar 6) tNil)))))))) (tRet (tC (.bl false))) tNext)
      (tIfS (tNot (tB (tCall sp__law_state [] E0 (tCons (tOp (rIxL K) (tVar 2) (tC (.int 1))) (tCons (tOp (rIxL K) (tVar 1) (tC (.int 1))) (tCons (tOp (rIxL K) (tVar 3) (tC (.int 1))) (tCons (tOp (rIxL K) (tVar 4) (tC (.int 1))) (tCons (tOp (rI CDiv fun i j => .int (i / j)) (tVar 6) (tC (.int 3))) tNil)))))))) (tRet (tC (.bl false))) tNext))
def rd_law_t1_8 (K : PySem.W.Frag) (C_Heap : Addr) (sp_Heap_there sp__law_places sp__law_state : Sp) : TS :=
  (tSeq (tAsg (tMeth C_Heap "there" sp_Heap_there [] E0 (tOp (rIxL K) (tVar 2) (tVar 7)) tNil) (gName 11))
      (tSeq (tDrop (tBM0 K "list" rReverse (tVar 11)))
      (tSeq (tDrop (tBM K "list" rAppend (tVar 11) (tCons (tC (.int 7)) tNil)))
      (tSeq (tIfS (tTest (tOp (G.rEqL K true) (tMeth C_Heap "there" sp_Heap_there [] E0 (tOp (rIxL K) (tVar 2) (tVar 7)) tNil) (tCall sp__law_places [] E0 (tCons (tVar 8) tNil)))) (tRet (tC (.bl false))) tNext)
      (rd_law_t1_12 K sp__law_state)))))
def rd_law_t1_5 (K : PySem.W.Frag) (C_Heap : Addr) (sp_Heap_there sp__law_places sp__law_state : Sp) : TS :=
  (tSeq (tAsg (tMeth C_Heap "there" sp_Heap_there [] E0 (tOp (rIxL K) (tVar 2) (tVar 7)) tNil) (gName 10))
      (tSeq (tIfS ((tOr (tNot (tB (tCB (G.cIsi) (tCons (tVar 10) (tCons (tC (.ty "list")) tNil))))) (tTest (tOp (G.rEqL K true) (tVar 10) (tCall sp__law_places [] E0 (tCons (tVar 8) tNil)))))) (tRet (tC (.bl false))) tNext)
      (tSeq (tDrop (tBM K "list" rAppend (tVar 5) (tCons (tLst (tCons (tVar 10) (tCons (tCB (G.cListL K) (tCons (tVar 10) tNil)) tNil))) tNil)))
      (rd_law_t1_8 K C_Heap sp_Heap_there sp__law_places sp__law_state))))
def rd_law_t1_4 (K : PySem.W.Frag) (C_Heap : Addr) (sp_Heap_there sp__law_places sp__law_state : Sp) : TS :=
  (tSeq (tIfS (tTest (tOp (rI0 fun i j => .bl (decide (j < i))) (tCB (G.cLenL K) (tCons (tCall sp__law_places [] E0 (tCons (tVar 8) tNil)) tNil)) (tVar 9))) (tAsg (tOp (rI0 fun i j => .int (i + j)) (tOp (rIxL K) (tVar 4) (tVar 7)) (tC (.int 1))) (gSub (tVar 4) (tVar 7) rSetL)) tNext)
      (rd_law_t1_5 K C_Heap sp_Heap_there sp__law_places sp__law_state))
def rd_law_t1_1 (K : PySem.W.Frag) (C_Heap : Addr) (sp_Heap_there sp__law_deed sp__law_places sp__law_state : Sp) : TS :=
  (tSeq (tAsg (tOp (rIxL K) (tVar 3) (tVar 7)) (gName 8))
      (tSeq (tAsg (tCB (G.cLenL K) (tCons (tCall sp__law_places [] E0 (tCons (tVar 8) tNil)) tNil)) (gName 9))
      (tSeq (tIfS (tNot (tB (tCall sp__law_deed [] E0 (tCons (tOp (rIxL K) (tVar 2) (tVar 7)) (tCons (tOp (rIxL K) (tVar 1) (tVar 7)) (tCons (tVar 8) (tCons (tVar 6) (tCons (tOp (rI0 fun i j => .int (i + j)) (tOp (rIxL K) (tVar 4) (tVar 7)) (tC (.int 1))) tNil)))))))) (tRet (tC (.bl false))) tNext)
      (rd_law_t1_4 K C_Heap sp_Heap_there sp__law_places sp__law_state))))
def rd_law_t0_6 (K : PySem.W.Frag) (sp__law_end : Sp) : TS :=
  (tSeq (tFor (iList K (tVar 5)) (gName 12)
      (tIfS (tTest (tOp (G.rEqL K true) (tOp (rIxL K) (tVar 12) (tC (.int 0))) (tOp (rIxL K) (tVar 12) (tC (.int 1))))) (tRet (tC (.bl false))) tNext))
      (tRet ((tAndV (tCall sp__law_end [] E0 (tCons (tOp (rIxL K) (tVar 2) (tC (.int 0))) (tCons (tOp (rIxL K) (tVar 3) (tC (.int 0))) tNil))) (tCall sp__law_end [] E0 (tCons (tOp (rIxL K) (tVar 2) (tC (.int 1))) (tCons (tOp (rIxL K) (tVar 3) (tC (.int 1))) tNil)))))))
def rd_law (K : PySem.W.Frag) (C_Heap : Addr) (sp_Heap___init__ sp_Heap_there sp__law_cell_at sp__law_deed sp__law_end sp__law_places sp__law_room_by sp__law_state : Sp) : TS :=
  (tSeq (tAsg (tLst (tCons (tCall sp__law_room_by [] E0 (tCons (tCall sp__law_cell_at [] E0 (tCons (tVar 0) (tCons (tC (.int 0)) tNil))) tNil)) (tCons (tCall sp__law_room_by [] E0 (tCons (tCall sp__law_cell_at [] E0 (tCons (tVar 0) (tCons (tC (.int 1)) tNil))) tNil)) tNil))) (gName 1))
      (tSeq (tAsg (tLst (tCons (tMake C_Heap sp_Heap___init__ [] E0 (tCons (tOp (rIxL K) (tVar 1) (tC (.int 0))) tNil)) (tCons (tMake C_Heap sp_Heap___init__ [] E0 (tCons (tOp (rIxL K) (tVar 1) (tC (.int 1))) tNil)) tNil))) (gName 2))
      (tSeq (tAsg (tLst (tCons (tLst tNil) (tCons (tLst tNil) tNil))) (gName 3))
      (tSeq (tAsg (tLst (tCons (tC (.int 0)) (tCons (tC (.int 0)) tNil))) (gName 4))
      (tSeq (tAsg (tLst tNil) (gName 5))
      (tSeq (tFor (iList K (tSl (rSlL K) (tVar 0) (tPart (tC (.int 2))) (tPart (tC (.int 42))))) (gName 6)
      (tSeq (tAsg (tOp (rI (fun _ j => 0 < j) fun i j => .int (i % j)) (tVar 6) (tC (.int 2))) (gName 7))
      (rd_law_t1_1 K C_Heap sp_Heap_there sp__law_deed sp__law_places sp__law_state)))
      (rd_law_t0_6 K sp__law_end)))))))
structure TxC (K : PySem.W.Frag) (C_Cell C_Heap : Addr) : Prop where
  cl_Cell : Cls K C_Cell
  n_Cell_birth : NoAttr K C_Cell "birth"
  n_Cell_bulk : NoAttr K C_Cell "bulk"
  n_Cell_tone : NoAttr K C_Cell "tone"
  n_Cell_load : NoAttr K C_Cell "load"
  n_Cell_fields : NoAttr K C_Cell "fields"
  cl_Heap : Cls K C_Heap
  n_Heap_room : NoAttr K C_Heap "room"
  n_Heap_cells : NoAttr K C_Heap "cells"
  n_Heap_used : NoAttr K C_Heap "used"
  n_Heap_born : NoAttr K C_Heap "born"
  eq_Cell : EqD K C_Cell
structure CellO (CC : Addr) (H : Hp) (p fa : Addr) (birth bulk tone load : Int) (fl : List V) : Prop where
  o : ∃ dx, H p = some (.ins CC dx (cellF birth bulk tone load fa))
  f : H fa = some (.lst fl)
theorem CellO.same {CC : Addr} {H H' : Hp} {p fa : Addr} {birth bulk tone load : Int} {fl : List V} (h : CellO CC H p fa birth bulk tone load fl) (s : Same H H') : CellO CC H' p fa birth bulk tone load fl := by
  obtain ⟨⟨dx, h1⟩, h2⟩ := h
  exact ⟨⟨dx, s _ _ h1⟩, s _ _ h2⟩
structure HpO (CH : Addr) (H : Hp) (hp ca : Addr) (room used born : Int) (cs : List V) : Prop where
  o : ∃ dx, H hp = some (.ins CH dx (heapF room ca used born))
  c : H ca = some (.lst cs)
theorem HpO.ne {CH : Addr} {H : Hp} {hp ca : Addr} {room used born : Int} {cs : List V} (h : HpO CH H hp ca room used born cs) : hp ≠ ca := by
  obtain ⟨⟨dx, h1⟩, h2⟩ := h
  exact ne_of h1 h2 (fun z => by cases z)
theorem cellF_ne_heapF {a b c d e f g : Int} {x y : Addr} : cellF a b c d x ≠ heapF e y f g := fun z => by
  have := congrArg List.length z
  cases this
def S_Cell_init (CC : Addr) : Sp := fun vs H Q E => ∃ p birth many bulk tone, vs = [.ref p, .int birth, .int many, .int bulk, .int tone] ∧ ∃ dx, H p = some (.ins CC dx []) ∧ 0 ≤ many ∧ many ≤ 1000 ∧
  ∀ fa H', H fa = none → H' p = some (.ins CC dx (cellF birth bulk tone 0 fa)) → H' fa = some (.lst (List.replicate many.toNat V.non)) → (∀ b o, H b = some o → b ≠ p → H' b = some o) → Q .non H'
def S_Cell_units (CC : Addr) : Sp := fun vs H Q E => ∃ p, vs = [.ref p] ∧ ∃ fa birth bulk tone load fl, CellO CC H p fa birth bulk tone load fl ∧ Q (.int (1 + fl.length + bulk)) H
def S_Heap_init (CH : Addr) : Sp := fun vs H Q E => ∃ p room, vs = [.ref p, .int room] ∧ ∃ dx, H p = some (.ins CH dx []) ∧
  ∀ ca H', H ca = none → H' p = some (.ins CH dx (heapF room ca 0 0)) → H' ca = some (.lst []) → (∀ b o, H b = some o → b ≠ p → H' b = some o) → Q .non H'
def S_Heap_free (CH : Addr) : Sp := fun vs H Q E => ∃ hp, vs = [.ref hp] ∧ ∃ ca room used born cs, HpO CH H hp ca room used born cs ∧ Q (.int (room - used)) H
def plc (cs : List V) : List Int := ((List.range cs.length).filter fun i => !decide (cs[i]? = some V.non)).map fun (i : Nat) => (i : Int)
def S_Heap_there (CH : Addr) : Sp := fun vs H Q E => ∃ hp, vs = [.ref hp] ∧ ∃ ca room used born cs, HpO CH H hp ca room used born cs ∧ cs.length ≤ 1000 ∧ ∀ l, H l = none → Q (.ref l) (upd H l (.lst ((plc cs).map V.int)))
def putN (cs : List V) (v : V) : List V := if V.non ∈ cs then cs.set (cs.idxOf V.non) v else cs ++ [v]
def S_Heap_lay (K : PySem.W.Frag) (CH : Addr) : Sp := fun vs H Q E => ∃ hp v, vs = [.ref hp, v] ∧ ∃ ca room used born cs, HpO CH H hp ca room used born cs ∧ OkN K H cs ∧ cs.length ≤ 1000 ∧ Q (.int (cs.idxOf V.non)) (upd H ca (.lst (putN cs v)))
def S_Heap_back (CC CH : Addr) : Sp := fun vs H Q E => ∃ hp i, vs = [.ref hp, .int i] ∧ ∃ ca dx room used born cs p fa birth bulk tone load fl, 0 ≤ i ∧ H hp = some (.ins CH dx (heapF room ca used born)) ∧ H ca = some (.lst cs) ∧ cs[i.toNat]? = some (.ref p) ∧ CellO CC H p fa birth bulk tone load fl ∧
  Q (.int birth) (upd (upd H hp (.ins CH dx (heapF room ca (used - (1 + fl.length + bulk)) born))) ca (.lst (cs.set i.toNat V.non)))
def S_Heap_make (K : PySem.W.Frag) (CC CH CF : Addr) : Sp := fun vs H Q E => ∃ hp many bulk tone, vs = [.ref hp, .int many, .int bulk, .int tone] ∧ ∃ ca dx room used born cs, H hp = some (.ins CH dx (heapF room ca used born)) ∧ H ca = some (.lst cs) ∧ OkN K H cs ∧ cs.length ≤ 1000 ∧ 0 ≤ many ∧ many ≤ 1000 ∧
  (room - used < 1 + many + bulk → ∀ H', Same H H' → E (.ref CF) none H') ∧
  (1 + many + bulk ≤ room - used → ∀ p fa H', H p = none → H fa = none → Fm [hp, ca] H H' → H' hp = some (.ins CH dx (heapF room ca (used + (1 + many + bulk)) (born + 1))) → H' ca = some (.lst (putN cs (.ref p))) →
    CellO CC H' p fa (born + 1) bulk tone 0 (List.replicate many.toNat V.non) → Q (.int (cs.idxOf V.non)) H')
section
variable {K : PySem.W.Frag} {C_Cell C_Heap C_Full : Addr} {H : Hp} {Q : VK} {E : XK} {n : St → Hp → Prop} {bk ct : St → Hp → Prop}
theorem Cell_units_rd {p : Addr} (T : TxC K C_Cell C_Heap) (q : ∃ fa birth bulk tone load fl, CellO C_Cell H p fa birth bulk tone load fl ∧ Q (.int (1 + fl.length + bulk)) H) : rd_Cell_units K ⟨n, Q, bk, ct⟩ [some (.ref p)] H := by
  obtain ⟨fa, birth, bulk, tone, load, fl, ⟨⟨dx, h1⟩, h2⟩, h⟩ := q
  unfold rd_Cell_units
  walk_at "ev"
  refine i_fldK h1 T.cl_Cell T.n_Cell_fields cellF_lk_fields ?_
  walk_at "ev"
  refine i_lenL (SqL.of h2) ?_
  walk_at "ev"
  refine i_fldK h1 T.cl_Cell T.n_Cell_bulk cellF_lk_bulk ?_
  walk_at "ev"
  exact h
theorem Cell___init___rd {p : Addr} {birth many bulk tone : Int} (T : TxC K C_Cell C_Heap) (q : ∃ dx, H p = some (.ins C_Cell dx []) ∧ 0 ≤ many ∧ many ≤ 1000 ∧
  ∀ fa H', H fa = none → H' p = some (.ins C_Cell dx (cellF birth bulk tone 0 fa)) → H' fa = some (.lst (List.replicate many.toNat V.non)) → (∀ b o, H b = some o → b ≠ p → H' b = some o) → Q .non H') :
    rd_Cell___init__ K ⟨fun _ H' => Q .non H', Q, bk, ct⟩ [some (.ref p), some (.int birth), some (.int many), some (.int bulk), some (.int tone)] H := by
  obtain ⟨dx, hp, h0, h1, h⟩ := q
  unfold rd_Cell___init__
  walk_at "ev"
  refine ⟨p, C_Cell, dx, [], rfl, hp, T.cl_Cell, T.n_Cell_birth, by decide, ?_⟩
  walk_at "ev"
  refine ⟨p, C_Cell, dx, _, rfl, upd_same, T.cl_Cell, T.n_Cell_bulk, by show 1 < 1000; decide, ?_⟩
  rw [upd_upd]
  walk_at "ev"
  refine ⟨p, C_Cell, dx, _, rfl, upd_same, T.cl_Cell, T.n_Cell_tone, by show 2 < 1000; decide, ?_⟩
  rw [upd_upd]
  walk_at "ev"
  refine ⟨p, C_Cell, dx, _, rfl, upd_same, T.cl_Cell, T.n_Cell_load, by show 3 < 1000; decide, ?_⟩
  rw [upd_upd]
  walk_at "ev"
  refine ⟨by decide, fun l0 hl0 => ?_⟩
  walk_at "ev"
  refine ⟨l0, many, _, rfl, rfl, upd_same, by omega, by omega, ?_, fun fa hfa => ?_⟩
  · show 1 * many.toNat ≤ sizeLine
    exact len_ok (by omega)
  have npl : p ≠ l0 := ne_of_none upd_same hl0
  have npf : p ≠ fa := ne_of_none ((upd_ne npl).trans upd_same) hfa
  walk_at "ev"
  refine ⟨p, C_Cell, dx, _, rfl, (upd_ne npf).trans ((upd_ne npl).trans upd_same), T.cl_Cell, T.n_Cell_fields, by show 4 < 1000; decide, ?_⟩
  have nfa : H fa = none := by
    have e := hfa
    have n1 : fa ≠ l0 := fun z => by rw [z, upd_same] at e; cases e
    rw [upd_ne n1, upd_ne npf.symm] at e
    exact e
  refine h fa _ nfa (upd_same.trans (congrArg (fun l => some (HO.ins C_Cell dx l)) cellF_mk)) ?_ fun b o hb hne => ?_
  · rw [upd_ne npf.symm, upd_same]
    have e : (List.replicate many.toNat [V.non]).flatten = List.replicate many.toNat V.non := by
      generalize many.toNat = k
      induction k with
      | zero => rfl
      | succ k ih => rw [List.replicate_succ, List.replicate_succ, List.flatten_cons, ih]; rfl
    rw [e]
  · have e1 : upd H p (HO.ins C_Cell dx (putF "load" (V.int 0) (putF "tone" (V.int tone) (putF "bulk" (V.int bulk) (putF "birth" (V.int birth) []))))) b = some o := (upd_ne hne).trans hb
    have n1 : b ≠ l0 := ne_of_none e1 hl0
    have n2 : b ≠ fa := ne_of_none ((upd_ne n1).trans e1) hfa
    rw [upd_ne hne, upd_ne n2, upd_ne n1]
    exact e1
theorem Heap___init___rd {p : Addr} {room : Int} (T : TxC K C_Cell C_Heap) (q : ∃ dx, H p = some (.ins C_Heap dx []) ∧
  ∀ ca H', H ca = none → H' p = some (.ins C_Heap dx (heapF room ca 0 0)) → H' ca = some (.lst []) → (∀ b o, H b = some o → b ≠ p → H' b = some o) → Q .non H') :
    rd_Heap___init__ K ⟨fun _ H' => Q .non H', Q, bk, ct⟩ [some (.ref p), some (.int room)] H := by
  obtain ⟨dx, hp, h⟩ := q
  unfold rd_Heap___init__
  walk_at "ev"
  refine ⟨p, C_Heap, dx, [], rfl, hp, T.cl_Heap, T.n_Heap_room, by decide, ?_⟩
  walk_at "ev"
  refine ⟨by decide, fun ca hca => ?_⟩
  walk_at "ev"
  have npc : p ≠ ca := ne_of_none upd_same hca
  refine ⟨p, C_Heap, dx, _, rfl, (upd_ne npc).trans upd_same, T.cl_Heap, T.n_Heap_cells, by show 1 < 1000; decide, ?_⟩
  walk_at "ev"
  refine ⟨p, C_Heap, dx, _, rfl, upd_same, T.cl_Heap, T.n_Heap_used, by show 2 < 1000; decide, ?_⟩
  rw [upd_upd]
  walk_at "ev"
  refine ⟨p, C_Heap, dx, _, rfl, upd_same, T.cl_Heap, T.n_Heap_born, by show 3 < 1000; decide, ?_⟩
  rw [upd_upd]
  have nca : H ca = none := by
    have e := hca
    rw [upd_ne npc.symm] at e
    exact e
  refine h ca _ nca (upd_same.trans (congrArg (fun l => some (HO.ins C_Heap dx l)) heapF_mk)) ?_ fun b o hb hne => ?_
  · rw [upd_ne npc.symm, upd_same]
  · rw [upd_ne hne, upd_ne (ne_of_none ((upd_ne hne).trans hb) hca), upd_ne hne]; exact hb
theorem Heap_free_rd {hp : Addr} (T : TxC K C_Cell C_Heap) (q : ∃ ca room used born cs, HpO C_Heap H hp ca room used born cs ∧ Q (.int (room - used)) H) : rd_Heap_free K ⟨n, Q, bk, ct⟩ [some (.ref hp)] H := by
  obtain ⟨ca, room, used, born, cs, ⟨⟨dx, h1⟩, h2⟩, h⟩ := q
  unfold rd_Heap_free
  walk_at "ev"
  refine i_fldK h1 T.cl_Heap T.n_Heap_room heapF_lk_room ?_
  walk_at "ev"
  refine i_fldK h1 T.cl_Heap T.n_Heap_used heapF_lk_used ?_
  walk_at "ev"
  exact h
theorem Heap_there_rd {hp : Addr} (T : TxC K C_Cell C_Heap) (q : ∃ ca room used born cs, HpO C_Heap H hp ca room used born cs ∧ cs.length ≤ 1000 ∧ ∀ l, H l = none → Q (.ref l) (upd H l (.lst ((plc cs).map V.int)))) : rd_Heap_there K ⟨n, Q, bk, ct⟩ [some (.ref hp)] H := by
  obtain ⟨ca, room, used, born, cs, ⟨⟨dx, h1⟩, h2⟩, hl, h⟩ := q
  unfold rd_Heap_there
  walk_at "ev"
  refine i_lcg ?_
  walk_at "ev"
  refine i_fldK h1 T.cl_Heap T.n_Heap_cells heapF_lk_cells ?_
  walk_at "ev"
  refine i_lenL (SqL.of h2) ?_
  walk_at "ev"
  refine ⟨_, rfl, by omega, by omega, ?_⟩
  refine lc_range (n := cs.length) (by omega) (p := fun i => !decide (cs[i]? = some V.non)) (f := fun i => .int i) (by omega) ?_ ?_ ?_
  · intro i hi k hk
    walk_at "caps"
    walk_at "ev"
    refine i_fldK h1 T.cl_Heap T.n_Heap_cells heapF_lk_cells ?_
    walk_at "ev"
    refine i_ixL (SqL.of h2) (atI_nat (List.getElem?_eq_getElem hi)) ?_
    walk_at "ev"
    refine i_notN ?_
    rw [List.getElem?_eq_getElem hi] at hk
    walk_at "ev"
    simpa using hk
  · intro i hi _ k hk
    walk_at "caps"
    walk_at "ev"
    exact hk
  · have e : ((plc cs).map V.int) = ((List.range cs.length).filter fun i => !decide (cs[i]? = some V.non)).map fun (i : Nat) => V.int i := by
      unfold plc
      rw [List.map_map]; rfl
    rw [← e]
    exact h
theorem Heap_lay_rd {hp : Addr} {v : V} (T : TxC K C_Cell C_Heap) (q : ∃ ca room used born cs, HpO C_Heap H hp ca room used born cs ∧ OkN K H cs ∧ cs.length ≤ 1000 ∧ Q (.int (cs.idxOf V.non)) (upd H ca (.lst (putN cs v)))) : rd_Heap_lay K ⟨n, Q, bk, ct⟩ [some (.ref hp), some v, none] H := by
  obtain ⟨ca, room, used, born, cs, ⟨⟨dx, h1⟩, h2⟩, ho, hl, h⟩ := q
  unfold rd_Heap_lay
  walk_at "ev"
  refine i_fldK h1 T.cl_Heap T.n_Heap_cells heapF_lk_cells ?_
  walk_at "ev"
  refine i_notInN (SqL.of h2) ho ?_
  walk_at "ev"
  refine ifnd (fun hn => ?_) (fun hn => ?_)
  · walk_at "ev"
    refine i_fldK h1 T.cl_Heap T.n_Heap_cells heapF_lk_cells ?_
    refine ⟨.inl ⟨rfl, _, SqL.of h2⟩, ?_⟩
    walk_at "ev"
    refine ⟨ca, cs, v, rfl, rfl, h2, Nat.lt_of_le_of_lt hl (by decide), ?_⟩
    walk_at "ev"
    have hne : hp ≠ ca := ne_of h1 h2 (fun z => by cases z)
    refine i_fldK ((upd_ne hne).trans h1) T.cl_Heap T.n_Heap_cells heapF_lk_cells ?_
    walk_at "ev"
    refine i_lenL (SqL.of upd_same) ?_
    walk_at "ev"
    have e1 : (((cs ++ [v]).length : Int) - 1) = (cs.idxOf V.non : Nat) := by
      rw [List.length_append, List.idxOf_eq_length hn]
      simp
    have e2 : putN cs v = cs ++ [v] := by unfold putN; rw [if_neg hn]
    rw [e1, ← e2]
    exact h
  · walk_at "ev"
    refine i_fldK h1 T.cl_Heap T.n_Heap_cells heapF_lk_cells ?_
    refine ⟨.inl ⟨rfl, _, SqL.of h2⟩, ?_⟩
    walk_at "ev"
    refine ⟨ca, cs, rfl, rfl, SqL.of h2, ho, hn, ?_⟩
    walk_at "ev"
    refine i_fldK h1 T.cl_Heap T.n_Heap_cells heapF_lk_cells ?_
    walk_at "ev"
    have hi : cs.idxOf V.non < cs.length := List.idxOf_lt_length_iff.mpr hn
    refine ⟨ca, cs, _, _, rfl, rfl, h2, ixN_nat hi, ?_⟩
    have e2 : putN cs v = cs.set (cs.idxOf V.non) v := by unfold putN; rw [if_pos hn]
    rw [← e2]
    walk_at "ev"
    exact h
theorem Heap_back_rd {hp : Addr} {i : Int} (T : TxC K C_Cell C_Heap) (q : ∃ ca dx room used born cs p fa birth bulk tone load fl, 0 ≤ i ∧ H hp = some (.ins C_Heap dx (heapF room ca used born)) ∧ H ca = some (.lst cs) ∧ cs[i.toNat]? = some (.ref p) ∧ CellO C_Cell H p fa birth bulk tone load fl ∧
  Q (.int birth) (upd (upd H hp (.ins C_Heap dx (heapF room ca (used - (1 + fl.length + bulk)) born))) ca (.lst (cs.set i.toNat V.non)))) : rd_Heap_back K C_Cell (S_Cell_units C_Cell) ⟨n, Q, bk, ct⟩ [some (.ref hp), some (.int i), none] H := by
  obtain ⟨ca, dx, room, used, born, cs, p, fa, birth, bulk, tone, load, fl, h0, h1, h2, hi, co, h⟩ := q
  obtain ⟨⟨dp, c1⟩, c2⟩ := id co
  unfold rd_Heap_back
  walk_at "ev"
  refine i_fldK h1 T.cl_Heap T.n_Heap_cells heapF_lk_cells ?_
  walk_at "ev"
  refine i_ixL (SqL.of h2) (atI_int h0 hi) ?_
  walk_at "ev"
  refine i_fldK h1 T.cl_Heap T.n_Heap_used heapF_lk_used ?_
  walk_at "ev"
  refine ⟨p, dp, _, rfl, c1, cellF_no_units, ?_⟩
  walk_at "ev"
  refine ⟨p, rfl, fa, birth, bulk, tone, load, fl, co, ?_⟩
  walk_at "ev"
  refine ⟨hp, C_Heap, dx, _, rfl, h1, T.cl_Heap, T.n_Heap_used, by show 4 < 1000; decide, ?_⟩
  rw [heapF_put_used]
  have hne : hp ≠ ca := ne_of h1 h2 (fun z => by cases z)
  walk_at "ev"
  refine i_fldK upd_same T.cl_Heap T.n_Heap_cells heapF_lk_cells ?_
  walk_at "ev"
  have hlt : i.toNat < cs.length := (List.getElem?_eq_some_iff.mp hi).1
  refine ⟨ca, cs, _, _, rfl, rfl, (upd_ne hne.symm).trans h2, ixN_int h0 hlt, ?_⟩
  walk_at "ev"
  refine i_fldK (C := C_Cell) (a := p) (dx := dp) (fs := cellF birth bulk tone load fa) ?_ T.cl_Cell T.n_Cell_birth cellF_lk_birth ?_
  · have n1 : p ≠ ca := ne_of c1 h2 (fun z => by cases z)
    have n2 : p ≠ hp := ne_of c1 h1 (fun z => by injection z with _ _ z; exact cellF_ne_heapF z)
    rw [upd_ne n1, upd_ne n2]
    exact c1
  exact h
theorem Heap_make_rd {hp : Addr} {many bulk tone : Int} (T : TxC K C_Cell C_Heap) (q : ∃ ca dx room used born cs, H hp = some (.ins C_Heap dx (heapF room ca used born)) ∧ H ca = some (.lst cs) ∧ OkN K H cs ∧ cs.length ≤ 1000 ∧ 0 ≤ many ∧ many ≤ 1000 ∧
  (room - used < 1 + many + bulk → ∀ H', Same H H' → E (.ref C_Full) none H') ∧
  (1 + many + bulk ≤ room - used → ∀ p fa H', H p = none → H fa = none → Fm [hp, ca] H H' → H' hp = some (.ins C_Heap dx (heapF room ca (used + (1 + many + bulk)) (born + 1))) → H' ca = some (.lst (putN cs (.ref p))) →
    CellO C_Cell H' p fa (born + 1) bulk tone 0 (List.replicate many.toNat V.non) → Q (.int (cs.idxOf V.non)) H')) :
    rd_Heap_make K C_Cell C_Full C_Heap (S_Cell_init C_Cell) (S_Cell_units C_Cell) (S_Heap_free C_Heap) (S_Heap_lay K C_Heap) E ⟨n, Q, bk, ct⟩ [some (.ref hp), some (.int many), some (.int bulk), some (.int tone), none] H := by
  obtain ⟨ca, dx, room, used, born, cs, h1, h2, ho, hl, m0, m1, hE, hQ⟩ := q
  have hne : hp ≠ ca := ne_of h1 h2 (fun z => by cases z)
  unfold rd_Heap_make
  walk_at "ev"
  refine i_fldK h1 T.cl_Heap T.n_Heap_born heapF_lk_born ?_
  walk_at "ev"
  intro p dp np ndp ned
  refine ⟨p, _, many, _, _, rfl, dp, upd_same, m0, m1, fun fa H1 nfa c1 c2 f3 => ⟨rfl, ?_⟩⟩
  have nfa' : H fa = none := by
    have e := nfa
    by_cases z1 : fa = p
    · rw [z1, upd_same] at e; cases e
    · rw [upd_ne z1] at e
      by_cases z2 : fa = dp
      · rw [z2, upd_same] at e; cases e
      · rw [upd_ne z2] at e; exact e
  have sm : Same H H1 := fun b o hb => by
    refine f3 b o ?_ (ne_of_none hb np)
    rw [upd_ne (ne_of_none hb np), upd_ne (ne_of_none hb ndp)]
    exact hb
  have co : CellO C_Cell H1 p fa (born + 1) bulk tone 0 (List.replicate many.toNat V.non) := ⟨⟨dp, c1⟩, c2⟩
  have el : ((List.replicate many.toNat V.non).length : Int) = many := by rw [List.length_replicate]; omega
  walk_at "ev"
  refine ⟨p, dp, _, rfl, c1, cellF_no_units, ?_⟩
  walk_at "ev"
  refine ⟨p, rfl, fa, _, _, _, _, _, co, ?_⟩
  walk_at "ev"
  refine ⟨hp, dx, _, rfl, sm _ _ h1, heapF_no_free, ?_⟩
  walk_at "ev"
  refine ⟨hp, rfl, ca, room, used, born, cs, ⟨⟨dx, sm _ _ h1⟩, sm _ _ h2⟩, ?_⟩
  walk_at "ev"
  rw [el]
  refine ifd (fun hf => ?_) (fun hf => ?_)
  · walk_at "ev"
    exact ⟨by decide, hE hf H1 sm⟩
  · walk_at "ev"
    refine i_fldK c1 T.cl_Cell T.n_Cell_birth cellF_lk_birth ?_
    walk_at "ev"
    refine ⟨hp, C_Heap, dx, _, rfl, sm _ _ h1, T.cl_Heap, T.n_Heap_born, by show 4 < 1000; decide, ?_⟩
    rw [heapF_put_born]
    walk_at "ev"
    refine i_fldK upd_same T.cl_Heap T.n_Heap_used heapF_lk_used ?_
    walk_at "ev"
    have n1 : p ≠ hp := (ne_of_none h1 np).symm
    have n2 : fa ≠ hp := (ne_of_none h1 nfa').symm
    have n3 : p ≠ ca := (ne_of_none h2 np).symm
    have n4 : fa ≠ ca := (ne_of_none h2 nfa').symm
    refine ⟨p, dp, _, rfl, (upd_ne n1).trans c1, cellF_no_units, ?_⟩
    walk_at "ev"
    refine ⟨p, rfl, fa, _, _, _, _, _, ⟨⟨dp, (upd_ne n1).trans c1⟩, (upd_ne n2).trans c2⟩, ?_⟩
    walk_at "ev"
    rw [el]
    refine ⟨hp, C_Heap, dx, _, rfl, upd_same, T.cl_Heap, T.n_Heap_used, by show 4 < 1000; decide, ?_⟩
    rw [heapF_put_used, upd_upd]
    walk_at "ev"
    refine ⟨hp, dx, _, rfl, upd_same, heapF_no_lay, ?_⟩
    walk_at "ev"
    refine ⟨hp, .ref p, rfl, ca, room, _, _, cs, ⟨⟨dx, upd_same⟩, (upd_ne hne.symm).trans (sm _ _ h2)⟩, ?_, hl, ?_⟩
    · intro y hy
      rcases ho y hy with e | ⟨a, C, d, fs, e, ha, hc, he⟩
      · exact .inl e
      · refine .inr ?_
        by_cases z : a = hp
        · rw [z] at ha e
          rw [h1] at ha; cases ha
          exact ⟨hp, _, _, _, e, upd_same, hc, he⟩
        · exact ⟨a, C, d, fs, e, (upd_ne z).trans (sm _ _ ha), hc, he⟩
    · refine hQ (by omega) p fa _ np nfa' ?_ ((upd_ne hne).trans upd_same) upd_same ⟨⟨dp, ?_⟩, ?_⟩
      · intro b o hb hn
        have b1 : b ≠ hp := fun z => hn (by rw [z]; exact List.mem_cons_self)
        have b2 : b ≠ ca := fun z => hn (by rw [z]; exact List.mem_cons_of_mem _ List.mem_cons_self)
        rw [upd_ne b2, upd_ne b1]
        exact sm _ _ hb
      · rw [upd_ne n3, upd_ne n1]; exact c1
      · rw [upd_ne n4, upd_ne n2]; exact c2
end
structure Cm where
  birth : Int
  bulk : Int
  tone : Int
  fl : List (Option Int)
  deriving DecidableEq
structure G4 where
  p : Addr
  fa : Addr
  q : Addr
  r : Addr
  deriving DecidableEq
def oV : Option Int → V
  | none => .non
  | some i => .int i
def cV : Option G4 → V
  | none => .non
  | some g => .ref g.p
def eV : Option G4 → V
  | none => .non
  | some g => .ref g.q
theorem flat_oV (l : List (Option Int)) : (l.map oV).all flatV = true := by
  rw [List.all_eq_true]
  intro x hx
  obtain ⟨i, _, rfl⟩ := List.mem_map.mp hx
  cases i <;> rfl
def un (c : Cm) : Int := 1 + c.fl.length + c.bulk
def vl : Option Cm → Int
  | none => 0
  | some c => un c
def usd (ds : List (Option Cm)) : Int := (ds.map vl).sum
structure En (CC : Addr) (H : Hp) (T : Tg) (s i : Nat) (g : G4) (c : Cm) : Prop where
  tp : T g.p = (s, 4 * i + 3)
  tf : T g.fa = (s, 4 * i + 4)
  tq : T g.q = (s, 4 * i + 5)
  tr : T g.r = (s, 4 * i + 6)
  op : ∃ dx, H g.p = some (.ins CC dx (cellF c.birth c.bulk c.tone 0 g.fa))
  of : H g.fa = some (.lst (c.fl.map oV))
  oq : H g.q = some (.lst [.int c.birth, .int c.bulk, .int c.tone, .int 0, .ref g.r])
  or' : H g.r = some (.lst (c.fl.map oV))
def EnO (CC : Addr) (H : Hp) (T : Tg) (s i : Nat) : Option G4 → Option Cm → Prop
  | none, none => True
  | some g, some c => En CC H T s i g c
  | _, _ => False
structure J (CC CH : Addr) (H : Hp) (T : Tg) (s : Nat) (hp ca du : Addr) (room born : Int) (gs : List (Option G4)) (ds : List (Option Cm)) : Prop where
  th : T hp = (s, 0)
  tc : T ca = (s, 1)
  td : T du = (s, 2)
  oh : ∃ dx, H hp = some (.ins CH dx (heapF room ca (usd ds) born))
  oc : H ca = some (.lst (gs.map cV))
  od : H du = some (.lst (gs.map eV))
  ln : gs.length = ds.length
  en : ∀ i g c, gs[i]? = some g → ds[i]? = some c → EnO CC H T s i g c
section
variable {CC CH : Addr} {H H' : Hp} {T T' : Tg} {s i : Nat} {hp ca du : Addr} {room born : Int} {gs : List (Option G4)} {ds : List (Option Cm)}
theorem En.mv {g : G4} {c : Cm} (e : En CC H T s i g c) (hh : ∀ b o, H b = some o → (T b).1 = s → H' b = some o) (ht : ∀ b o, H b = some o → T' b = T b) : En CC H' T' s i g c := by
  obtain ⟨a1, a2, a3, a4, ⟨dx, b1⟩, b2, b3, b4⟩ := e
  exact ⟨(ht _ _ b1).trans a1, (ht _ _ b2).trans a2, (ht _ _ b3).trans a3, (ht _ _ b4).trans a4, ⟨dx, hh _ _ b1 (by rw [a1])⟩, hh _ _ b2 (by rw [a2]), hh _ _ b3 (by rw [a3]), hh _ _ b4 (by rw [a4])⟩
theorem En.mvk {g : G4} {c : Cm} (e : En CC H T s i g c) (hh : ∀ b o k, H b = some o → T b = (s, 4 * i + k) → 3 ≤ k → k ≤ 6 → H' b = some o) (ht : ∀ b o, H b = some o → T' b = T b) : En CC H' T' s i g c := by
  obtain ⟨a1, a2, a3, a4, ⟨dx, b1⟩, b2, b3, b4⟩ := e
  exact ⟨(ht _ _ b1).trans a1, (ht _ _ b2).trans a2, (ht _ _ b3).trans a3, (ht _ _ b4).trans a4, ⟨dx, hh _ _ 3 b1 a1 (by decide) (by decide)⟩, hh _ _ 4 b2 a2 (by decide) (by decide), hh _ _ 5 b3 a3 (by decide) (by decide), hh _ _ 6 b4 a4 (by decide) (by decide)⟩
theorem EnO.mvk {g : Option G4} {c : Option Cm} (e : EnO CC H T s i g c) (hh : ∀ b o k, H b = some o → T b = (s, 4 * i + k) → 3 ≤ k → k ≤ 6 → H' b = some o) (ht : ∀ b o, H b = some o → T' b = T b) : EnO CC H' T' s i g c := by
  cases g with
  | none => cases c with
    | none => trivial
    | some c => exact e.elim
  | some g => cases c with
    | none => exact e.elim
    | some c => exact En.mvk e hh ht
theorem EnO.mv {g : Option G4} {c : Option Cm} (e : EnO CC H T s i g c) (hh : ∀ b o, H b = some o → (T b).1 = s → H' b = some o) (ht : ∀ b o, H b = some o → T' b = T b) : EnO CC H' T' s i g c := by
  cases g with
  | none => cases c with
    | none => trivial
    | some c => exact e.elim
  | some g => cases c with
    | none => exact e.elim
    | some c => exact En.mv e hh ht
theorem J.mv (j : J CC CH H T s hp ca du room born gs ds) (hh : ∀ b o, H b = some o → (T b).1 = s → H' b = some o) (ht : ∀ b o, H b = some o → T' b = T b) : J CC CH H' T' s hp ca du room born gs ds := by
  obtain ⟨a1, a2, a3, ⟨dx, b1⟩, b2, b3, c1, c2⟩ := j
  exact ⟨(ht _ _ b1).trans a1, (ht _ _ b2).trans a2, (ht _ _ b3).trans a3, ⟨dx, hh _ _ b1 (by rw [a1])⟩, hh _ _ b2 (by rw [a2]), hh _ _ b3 (by rw [a3]), c1, fun i g c h1 h2 => (c2 i g c h1 h2).mv hh ht⟩
theorem J.same (j : J CC CH H T s hp ca du room born gs ds) (e : Same H H') : J CC CH H' T s hp ca du room born gs ds := j.mv (fun b o h _ => e b o h) fun _ _ _ => rfl
theorem J.hpo (j : J CC CH H T s hp ca du room born gs ds) : HpO CH H hp ca room (usd ds) born (gs.map cV) := ⟨j.oh, j.oc⟩
theorem J.at (j : J CC CH H T s hp ca du room born gs ds) {i : Nat} {c : Cm} (h : ds[i]? = some (some c)) : ∃ g, gs[i]? = some (some g) ∧ En CC H T s i g c := by
  have hl : i < gs.length := by rw [j.ln]; exact (List.getElem?_eq_some_iff.mp h).1
  have e := j.en i _ _ (List.getElem?_eq_getElem hl) h
  cases hg : gs[i] with
  | none => rw [hg] at e; exact e.elim
  | some g => rw [hg] at e; exact ⟨g, by rw [List.getElem?_eq_getElem hl, hg], e⟩
theorem J.at0 (j : J CC CH H T s hp ca du room born gs ds) {i : Nat} (h : ds[i]? = some none) : gs[i]? = some none := by
  have hl : i < gs.length := by rw [j.ln]; exact (List.getElem?_eq_some_iff.mp h).1
  have e := j.en i _ _ (List.getElem?_eq_getElem hl) h
  cases hg : gs[i] with
  | none => rw [List.getElem?_eq_getElem hl, hg]
  | some g => rw [hg] at e; exact e.elim
theorem J.okn {K : PySem.W.Frag} (j : J CC CH H T s hp ca du room born gs ds) (tx : TxC K CC CH) : OkN K H (gs.map cV) := by
  intro y hy
  obtain ⟨g, hg, rfl⟩ := List.mem_map.mp hy
  obtain ⟨i, hi, e⟩ := List.getElem_of_mem hg
  cases g with
  | none => exact .inl rfl
  | some g =>
    have hd : i < ds.length := by rw [← j.ln]; exact hi
    have en := j.en i _ _ (List.getElem?_eq_getElem hi) (List.getElem?_eq_getElem hd)
    rw [e] at en
    cases hc : ds[i] with
    | none => rw [hc] at en; exact en.elim
    | some c =>
      rw [hc] at en
      obtain ⟨dx, o⟩ := (show En CC H T s i g c from en).op
      exact .inr ⟨g.p, CC, dx, _, rfl, o, tx.cl_Cell, tx.eq_Cell⟩
end
def atO (cs : List V) (i : Int) : V := if 0 ≤ i then (cs[i.toNat]?).getD .non else .non
def S_cell_at (CH : Addr) : Sp := fun vs H Q E => ∃ hp pl, vs = [.ref hp, pl] ∧ ((pl = .non ∧ Q .non H) ∨ ∃ i ca room used born cs, pl = .int i ∧ HpO CH H hp ca room used born cs ∧ Q (atO cs i) H)
def S_birth_at (CC CH : Addr) : Sp := fun vs H Q E => ∃ hp pl, vs = [.ref hp, pl] ∧ ((pl = .non ∧ Q .non H) ∨ ∃ i ca room used born cs, pl = .int i ∧ HpO CH H hp ca room used born cs ∧ 0 ≤ i ∧
  ((cs[i.toNat]? = some .non ∧ Q .non H) ∨ ∃ p fa birth bulk tone load fl, cs[i.toNat]? = some (.ref p) ∧ CellO CC H p fa birth bulk tone load fl ∧ Q (.int birth) H))
def S_at (K : PySem.W.Frag) : Sp := fun vs H Q E => ∃ a k, vs = [.ref a, .int k] ∧ ∃ ns : List Int, SqL K H a (ns.map V.int) ∧ 0 ≤ k ∧ ∀ z : Int, Q (.int z) H
def S_whole : Sp := fun vs H Q E => ∃ i, vs = [.int i] ∧ Q (.bl true) H
def S_any : Sp := fun vs H Q E => ∃ c, vs = [.int c] ∧ ∀ z : Int, Q (.int z) H
def S_mixed : Sp := fun vs H Q E => ∃ c p, vs = [.int c, .int p] ∧ 0 < p ∧ p < 2 ^ 31 ∧ ∀ z : Int, 0 ≤ z → Q (.int z) H
def S_used : Sp := fun vs H Q E => ∃ du, vs = [.ref du] ∧ ∃ CC CH T s hp ca room born gs ds, J CC CH H T s hp ca du room born gs ds ∧ ds.length ≤ 1000 ∧ ∀ H', Same H H' → Q (.int (usd ds)) H'
def S_places : Sp := fun vs H Q E => ∃ du, vs = [.ref du] ∧ ∃ es, H du = some (.lst es) ∧ es.length ≤ 1000 ∧ ∀ l, H l = none → Q (.ref l) (upd H l (.lst ((plc es).map V.int)))
def putD (ds : List (Option Cm)) (d : Cm) : List (Option Cm) := if none ∈ ds then ds.set (ds.idxOf none) (some d) else ds ++ [some d]
def putG (gs : List (Option G4)) (g : G4) : List (Option G4) := if none ∈ gs then gs.set (gs.idxOf none) (some g) else gs ++ [some g]
def cnt : List (Option G4) → Nat
  | [] => 0
  | none :: l => cnt l
  | some _ :: l => cnt l + 1
theorem idx_map {α : Type} [BEq α] [LawfulBEq α] {f : α → V} {a : α} (hf : ∀ x, f x = V.non ↔ x = a) : ∀ l : List α, (l.map f).idxOf V.non = l.idxOf a ∧ (V.non ∈ l.map f ↔ a ∈ l) := by
  intro l
  induction l with
  | nil => exact ⟨rfl, ⟨fun z => (nomatch z), fun z => (nomatch z)⟩⟩
  | cons x l ih =>
    refine ⟨?_, ?_⟩
    · rw [List.map_cons, List.idxOf_cons, List.idxOf_cons, ih.1]
      by_cases z : x = a
      · have b1 : (f x == V.non) = true := by rw [(hf x).mpr z]; rfl
        have b2 : (x == a) = true := by rw [z]; simp
        rw [b1, b2]
      · have b1 : (f x == V.non) = false := by simpa using fun w => z ((hf x).mp w)
        have b2 : (x == a) = false := by simpa using z
        rw [b1, b2]
    · rw [List.map_cons, List.mem_cons, List.mem_cons, ih.2]
      constructor
      · rintro (z | z)
        · exact .inl ((hf x).mp z.symm).symm
        · exact .inr z
      · rintro (z | z)
        · exact .inl ((hf x).mpr z.symm).symm
        · exact .inr z
theorem cV_non (g : Option G4) : cV g = V.non ↔ g = none := by cases g <;> simp [cV]
theorem eV_non (g : Option G4) : eV g = V.non ↔ g = none := by cases g <;> simp [eV]
theorem map_put {f : Option G4 → V} (hf : ∀ x, f x = V.non ↔ x = none) (gs : List (Option G4)) (g : G4) : (putG gs g).map f = putN (gs.map f) (f (some g)) := by
  obtain ⟨e1, e2⟩ := idx_map hf gs
  unfold putG putN
  by_cases z : none ∈ gs
  · rw [if_pos z, if_pos (e2.mpr z), List.map_set]
    exact congrArg (fun k => (gs.map f).set k (f (some g))) e1.symm
  · rw [if_neg z, if_neg (fun w => z (e2.mp w)), List.map_append]; rfl
theorem cnt_app (l : List (Option G4)) (g : G4) : cnt (l ++ [some g]) = cnt l + 1 := by
  induction l with
  | nil => rfl
  | cons x l ih => cases x with
    | none => exact ih
    | some x => show cnt (l ++ [some g]) + 1 = cnt l + 1 + 1; rw [ih]
theorem cnt_set (g : G4) : ∀ (l : List (Option G4)) (i : Nat), l[i]? = some none → cnt (l.set i (some g)) = cnt l + 1 := by
  intro l
  induction l with
  | nil => intro i h; simp at h
  | cons x l ih =>
    intro i h
    cases i with
    | zero => simp at h; subst h; rfl
    | succ i =>
      have := ih i (by simpa using h)
      cases x with
      | none => exact this
      | some x => show cnt (l.set i (some g)) + 1 = cnt l + 1 + 1; rw [this]
theorem cnt_drop : ∀ (l : List (Option G4)) (i : Nat), cnt (l.set i none) ≤ cnt l := by
  intro l
  induction l with
  | nil => intro i; exact Nat.le_refl _
  | cons x l ih =>
    intro i
    cases i with
    | zero => cases x with
      | none => exact Nat.le_refl _
      | some x => exact Nat.le_succ _
    | succ i => cases x with
      | none => exact ih i
      | some x => exact Nat.succ_le_succ (ih i)
theorem cnt_put (gs : List (Option G4)) (g : G4) : cnt (putG gs g) = cnt gs + 1 := by
  unfold putG
  by_cases z : none ∈ gs
  · rw [if_pos z]
    have hi : gs.idxOf none < gs.length := List.idxOf_lt_length_iff.mpr z
    exact cnt_set g gs _ (by rw [List.getElem?_eq_getElem hi, List.getElem_idxOf hi])
  · rw [if_neg z, cnt_app]
theorem filter_range_len {p : V → Bool} : ∀ l : List V, ((List.range l.length).filter fun i => match l[i]? with | some x => p x | none => false).length = (l.filter p).length := by
  intro l
  induction l with
  | nil => rfl
  | cons a l ih =>
    rw [List.length_cons, List.range_succ_eq_map]
    have e : (List.filter (fun i => match (a :: l)[i]? with | some x => p x | none => false) (List.map Nat.succ (List.range l.length))).length = (l.filter p).length := by
      rw [List.filter_map, List.length_map, ← ih]
      rfl
    cases h : p a with
    | true => rw [List.filter_cons_of_pos (by simpa using h), List.filter_cons_of_pos h, List.length_cons, List.length_cons, e]
    | false => rw [List.filter_cons_of_neg (by simpa using h), List.filter_cons_of_neg (by simp [h]), e]
theorem cnt_plc (gs : List (Option G4)) : (plc (gs.map eV)).length = cnt gs := by
  unfold plc
  rw [List.length_map]
  have e : ((List.range (gs.map eV).length).filter fun i => !decide ((gs.map eV)[i]? = some V.non)) = (List.range (gs.map eV).length).filter fun i => match (gs.map eV)[i]? with | some x => !decide (x = V.non) | none => false := by
    refine List.filter_congr fun i hi => ?_
    have hl := List.mem_range.mp hi
    rw [List.getElem?_eq_getElem hl]
    simp
  rw [e, filter_range_len (p := fun x => !decide (x = V.non))]
  induction gs with
  | nil => rfl
  | cons x l ih =>
    have ih' := ih
    cases x with
    | none =>
      rw [List.map_cons, List.filter_cons_of_neg (by simp [eV])]
      show _ = cnt l
      rw [← ih]
      · refine List.filter_congr fun i hi => ?_
        have hl := List.mem_range.mp hi
        rw [List.getElem?_eq_getElem hl]
        simp
    | some x =>
      rw [List.map_cons, List.filter_cons_of_pos (by simp [eV]), List.length_cons]
      show _ = cnt l + 1
      rw [← ih]
      · refine List.filter_congr fun i hi => ?_
        have hl := List.mem_range.mp hi
        rw [List.getElem?_eq_getElem hl]
        simp
theorem plc_map {f g : Option G4 → V} (hf : ∀ x, f x = V.non ↔ x = none) (hg : ∀ x, g x = V.non ↔ x = none) (l : List (Option G4)) : plc (l.map f) = plc (l.map g) := by
  unfold plc
  rw [List.length_map, List.length_map]
  congr 1
  refine List.filter_congr fun i hi => ?_
  have hl := List.mem_range.mp hi
  rw [List.getElem?_map, List.getElem?_map, List.getElem?_eq_getElem hl]
  congr 1
  rw [Bool.eq_iff_iff, decide_eq_true_eq, decide_eq_true_eq]
  show (some (f l[i]) = some V.non) ↔ (some (g l[i]) = some V.non)
  rw [Option.some.injEq, Option.some.injEq, hf, hg]
theorem plc_mem {es : List V} {x : Int} (h : x ∈ plc es) : 0 ≤ x ∧ x.toNat < es.length ∧ es[x.toNat]? ≠ some V.non := by
  obtain ⟨i, hi, rfl⟩ := List.mem_map.mp h
  obtain ⟨h1, h2⟩ := List.mem_filter.mp hi
  have hl := List.mem_range.mp h1
  have e : ((i : Int)).toNat = i := by omega
  refine ⟨by omega, by rw [e]; exact hl, ?_⟩
  rw [e]
  intro z
  rw [z] at h2
  simp at h2
theorem usd_set (d : Option Cm) : ∀ (ds : List (Option Cm)) (i : Nat) (d0 : Option Cm), ds[i]? = some d0 → usd (ds.set i d) = usd ds - vl d0 + vl d := by
  intro ds
  induction ds with
  | nil => intro i d0 e; simp at e
  | cons a ds ih =>
    intro i d0 e
    unfold usd at ih ⊢
    cases i with
    | zero =>
      simp at e
      subst e
      rw [List.set_cons_zero, List.map_cons, List.map_cons, List.sum_cons, List.sum_cons]
      omega
    | succ i =>
      have := ih i d0 (by simpa using e)
      rw [List.set_cons_succ, List.map_cons, List.map_cons, List.sum_cons, List.sum_cons, this]
      omega
theorem usd_put (ds : List (Option Cm)) (d : Cm) : usd (putD ds d) = usd ds + un d := by
  unfold putD
  by_cases z : none ∈ ds
  · rw [if_pos z]
    have hi : ds.idxOf none < ds.length := List.idxOf_lt_length_iff.mpr z
    have e : ds[ds.idxOf none]? = some none := by rw [List.getElem?_eq_getElem hi, List.getElem_idxOf hi]
    rw [usd_set (some d) ds _ none e]
    show usd ds - 0 + un d = usd ds + un d
    omega
  · rw [if_neg z]
    unfold usd
    rw [List.map_append, List.sum_append]
    show _ + (un d + 0) = _
    omega
section
variable {CC CH : Addr} {H H' : Hp} {T T' : Tg} {s i : Nat} {hp ca du : Addr} {room born : Int} {gs : List (Option G4)} {ds : List (Option Cm)}
theorem J.idx (j : J CC CH H T s hp ca du room born gs ds) : gs.idxOf none = ds.idxOf none ∧ (none ∈ gs ↔ none ∈ ds) := by
  have key : ∀ (gs : List (Option G4)) (ds : List (Option Cm)), gs.length = ds.length → (∀ (i : Nat) (g : Option G4) (c : Option Cm), gs[i]? = some g → ds[i]? = some c → (g = none ↔ c = none)) → gs.idxOf none = ds.idxOf none ∧ (none ∈ gs ↔ none ∈ ds) := by
    intro gs
    induction gs with
    | nil => intro ds hl _; cases ds with
      | nil => exact ⟨rfl, ⟨fun z => (nomatch z), fun z => (nomatch z)⟩⟩
      | cons d ds => simp at hl
    | cons g gs ih =>
      intro ds hl h
      cases ds with
      | nil => simp at hl
      | cons d ds =>
        have ih' := ih ds (by simpa using hl) fun i g' c h1 h2 => h (i + 1) g' c (by simpa using h1) (by simpa using h2)
        have e := h 0 g d rfl rfl
        refine ⟨?_, ?_⟩
        · rw [List.idxOf_cons, List.idxOf_cons, ih'.1]
          cases g with
          | none => rw [e.mp rfl]; rfl
          | some g => cases d with
            | none => exact absurd (e.mpr rfl) (fun z => by cases z)
            | some d => rfl
        · rw [List.mem_cons, List.mem_cons, ih'.2]
          constructor
          · rintro (z | z)
            · exact .inl (e.mp z.symm).symm
            · exact .inr z
          · rintro (z | z)
            · exact .inl (e.mpr z.symm).symm
            · exact .inr z
  refine key gs ds j.ln fun i g c h1 h2 => ?_
  have e := j.en i g c h1 h2
  cases g with
  | none => cases c with
    | none => exact ⟨fun _ => rfl, fun _ => rfl⟩
    | some c => exact e.elim
  | some g => cases c with
    | none => exact e.elim
    | some c => exact ⟨fun z => (by cases z), fun z => (by cases z)⟩
theorem J.nhc (j : J CC CH H T s hp ca du room born gs ds) : hp ≠ ca := ne_tag j.th j.tc (by simp)
theorem J.nhd (j : J CC CH H T s hp ca du room born gs ds) : hp ≠ du := ne_tag j.th j.td (by simp)
theorem J.ncd (j : J CC CH H T s hp ca du room born gs ds) : ca ≠ du := ne_tag j.tc j.td (by simp)
theorem J.put {dx : Addr} {g : G4} {c : Cm} (j : J CC CH H T s hp ca du room born gs ds) (w : WT H T)
    (kp : ∀ b o, H b = some o → b ≠ hp → b ≠ ca → b ≠ du → H' b = some o) (h1 : H' hp = some (.ins CH dx (heapF room ca (usd ds + un c) (born + 1)))) (h2 : H' ca = some (.lst (putN (gs.map cV) (.ref g.p)))) (h3 : H' du = some (.lst (putN (gs.map eV) (.ref g.q))))
    (n1 : H g.p = none) (n2 : H g.fa = none) (n3 : H g.q = none) (n4 : H g.r = none) (m1 : g.p ≠ g.fa) (m2 : g.p ≠ g.q) (m3 : g.p ≠ g.r) (m4 : g.fa ≠ g.q) (m5 : g.fa ≠ g.r) (m6 : g.q ≠ g.r)
    (o1 : ∃ dx, H' g.p = some (.ins CC dx (cellF c.birth c.bulk c.tone 0 g.fa))) (o2 : H' g.fa = some (.lst (c.fl.map oV))) (o3 : H' g.q = some (.lst [.int c.birth, .int c.bulk, .int c.tone, .int 0, .ref g.r])) (o4 : H' g.r = some (.lst (c.fl.map oV))) :
    ∃ T', Stp s H H' T T' ∧ J CC CH H' T' s hp ca du room (born + 1) (putG gs g) (putD ds c) := by
  obtain ⟨i1, i2⟩ := j.idx
  obtain ⟨dx0, oh0⟩ := j.oh
  have hne : ∀ b o, H b = some o → b ≠ g.p ∧ b ≠ g.fa ∧ b ≠ g.q ∧ b ≠ g.r := fun b o h => ⟨ne_of_none h n1, ne_of_none h n2, ne_of_none h n3, ne_of_none h n4⟩
  let k := gs.idxOf none
  let T' : Tg := setT (setT (setT (setT T g.p (s, 4 * k + 3)) g.fa (s, 4 * k + 4)) g.q (s, 4 * k + 5)) g.r (s, 4 * k + 6)
  have told : ∀ b o, H b = some o → T' b = T b := fun b o h => by
    obtain ⟨a1, a2, a3, a4⟩ := hne b o h
    show setT _ _ _ b = _
    rw [setT_ne a4, setT_ne a3, setT_ne a2, setT_ne a1]
  have t1 : T' g.p = (s, 4 * k + 3) := by show setT _ _ _ g.p = _; rw [setT_ne m3, setT_ne m2, setT_ne m1, setT_same]
  have t2 : T' g.fa = (s, 4 * k + 4) := by show setT _ _ _ g.fa = _; rw [setT_ne m5, setT_ne m4, setT_same]
  have t3 : T' g.q = (s, 4 * k + 5) := by show setT _ _ _ g.q = _; rw [setT_ne m6, setT_same]
  have t4 : T' g.r = (s, 4 * k + 6) := by show setT _ _ _ g.r = _; rw [setT_same]
  have ex : ∀ b o, H b = some o → ∃ o', H' b = some o' := fun b o h => by
    by_cases z1 : b = hp
    · exact ⟨_, by rw [z1]; exact h1⟩
    · by_cases z2 : b = ca
      · exact ⟨_, by rw [z2]; exact h2⟩
      · by_cases z3 : b = du
        · exact ⟨_, by rw [z3]; exact h3⟩
        · exact ⟨o, kp b o h z1 z2 z3⟩
  have lg : (putG gs g).length = (putD ds c).length := by
    unfold putG putD
    by_cases z : none ∈ gs
    · rw [if_pos z, if_pos (i2.mp z), List.length_set, List.length_set]; exact j.ln
    · rw [if_neg z, if_neg (fun w => z (i2.mpr w)), List.length_append, List.length_append, j.ln]; rfl
  refine ⟨T', ⟨fun b o h nn => kp b o h (fun e => nn (by rw [e, j.th])) (fun e => nn (by rw [e, j.tc])) (fun e => nn (by rw [e, j.td])), ex, told, fun b h => ?_⟩, ?_⟩
  · have b1 : b ≠ g.p := fun e => by obtain ⟨d, z⟩ := o1; rw [e, z] at h; cases h
    have b2 : b ≠ g.fa := fun e => by rw [e, o2] at h; cases h
    have b3 : b ≠ g.q := fun e => by rw [e, o3] at h; cases h
    have b4 : b ≠ g.r := fun e => by rw [e, o4] at h; cases h
    have hb : H b = none := by
      cases z : H b with
      | none => rfl
      | some o => obtain ⟨o', z'⟩ := ex b o z; rw [h] at z'; cases z'
    show setT _ _ _ b = _
    rw [setT_ne b4, setT_ne b3, setT_ne b2, setT_ne b1]
    exact w b hb
  · have old : ∀ i gg cc, gs[i]? = some gg → ds[i]? = some cc → EnO CC H' T' s i gg cc := fun i gg cc e1 e2 => by
      refine (j.en i gg cc e1 e2).mvk (fun b o k h ht k1 k2 => kp b o h ?_ ?_ ?_) told
      · exact ne_tag ht j.th (by simp; omega)
      · exact ne_tag ht j.tc (by simp; omega)
      · exact ne_tag ht j.td (by simp; omega)
    refine ⟨(told _ _ oh0).trans j.th, (told _ _ j.oc).trans j.tc, (told _ _ j.od).trans j.td, ⟨dx, by rw [usd_put]; exact h1⟩, by rw [map_put cV_non]; exact h2, by rw [map_put eV_non]; exact h3, lg, fun i gg cc e1 e2 => ?_⟩
    by_cases hk : i = k
    · subst hk
      have x1 : (putG gs g)[gs.idxOf none]? = some (some g) := by
        unfold putG
        by_cases z : none ∈ gs
        · rw [if_pos z, List.getElem?_set_self (List.idxOf_lt_length_iff.mpr z)]
        · rw [if_neg z, List.idxOf_eq_length z, List.getElem?_append_right (Nat.le_refl _), Nat.sub_self]; rfl
      have x2 : (putD ds c)[gs.idxOf none]? = some (some c) := by
        rw [i1]
        unfold putD
        by_cases z : none ∈ ds
        · rw [if_pos z, List.getElem?_set_self (List.idxOf_lt_length_iff.mpr z)]
        · rw [if_neg z, List.idxOf_eq_length z, List.getElem?_append_right (Nat.le_refl _), Nat.sub_self]; rfl
      have y1 : some gg = some (some g) := e1.symm.trans x1
      have y2 : some cc = some (some c) := e2.symm.trans x2
      cases y1
      cases y2
      exact ⟨t1, t2, t3, t4, o1, o2, o3, o4⟩
    · have y1 : gs[i]? = some gg := by
        unfold putG at e1
        by_cases z : none ∈ gs
        · rw [if_pos z, List.getElem?_set_ne (fun w => hk w.symm)] at e1; exact e1
        · rw [if_neg z] at e1
          have hl := (List.getElem?_eq_some_iff.mp e1).1
          rw [List.length_append, List.length_singleton] at hl
          have : k = gs.length := List.idxOf_eq_length z
          rw [List.getElem?_append_left (by omega)] at e1
          exact e1
      have y2 : ds[i]? = some cc := by
        unfold putD at e2
        by_cases z : none ∈ ds
        · rw [if_pos z, List.getElem?_set_ne (fun w => hk (w.symm.trans i1.symm))] at e2; exact e2
        · rw [if_neg z] at e2
          have hl := (List.getElem?_eq_some_iff.mp e2).1
          rw [List.length_append, List.length_singleton] at hl
          have : k = ds.length := i1.trans (List.idxOf_eq_length z)
          rw [List.getElem?_append_left (by omega)] at e2
          exact e2
      exact old i gg cc y1 y2
end
section
variable {K : PySem.W.Frag} {C_Cell C_Heap C_Full : Addr} {H : Hp} {Q : VK} {E : XK} {n : St → Hp → Prop} {bk ct : St → Hp → Prop}
theorem cell_at_rd {hp : Addr} {pl : V} (T : TxC K C_Cell C_Heap) (q : (pl = .non ∧ Q .non H) ∨ ∃ i ca room used born cs, pl = .int i ∧ HpO C_Heap H hp ca room used born cs ∧ Q (atO cs i) H) : rd_cell_at K ⟨n, Q, bk, ct⟩ [some (.ref hp), some pl] H := by
  unfold rd_cell_at
  rcases q with ⟨rfl, q⟩ | ⟨i, ca, room, used, born, cs, rfl, ⟨⟨dx, h1⟩, h2⟩, q⟩
  · walk_at "ev"
    exact q
  · walk_at "ev"
    refine ifd (fun z => ?_) (fun z => ?_)
    · walk_at "ev"
      rw [show atO cs i = .non from if_neg (by omega)] at q
      exact q
    · rw [show atO cs i = (cs[i.toNat]?).getD .non from if_pos (by omega)] at q
      walk_at "ev"
      refine i_fldK h1 T.cl_Heap T.n_Heap_cells heapF_lk_cells ?_
      walk_at "ev"
      refine i_lenL (SqL.of h2) ?_
      walk_at "ev"
      refine ifd (fun y => ?_) (fun y => ?_)
      · walk_at "ev"
        rw [List.getElem?_eq_none_iff.mpr (by omega)] at q
        exact q
      · walk_at "ev"
        refine i_fldK h1 T.cl_Heap T.n_Heap_cells heapF_lk_cells ?_
        walk_at "ev"
        have hl : i.toNat < cs.length := by omega
        refine i_ixL (SqL.of h2) (atI_int (by omega) (List.getElem?_eq_getElem hl)) ?_
        rw [List.getElem?_eq_getElem hl] at q
        exact q
theorem birth_at_rd {hp : Addr} {pl : V} (T : TxC K C_Cell C_Heap) (q : (pl = .non ∧ Q .non H) ∨ ∃ i ca room used born cs, pl = .int i ∧ HpO C_Heap H hp ca room used born cs ∧ 0 ≤ i ∧
  ((cs[i.toNat]? = some .non ∧ Q .non H) ∨ ∃ p fa birth bulk tone load fl, cs[i.toNat]? = some (.ref p) ∧ CellO C_Cell H p fa birth bulk tone load fl ∧ Q (.int birth) H)) :
    rd_birth_at K (S_cell_at C_Heap) ⟨n, Q, bk, ct⟩ [some (.ref hp), some pl, none] H := by
  unfold rd_birth_at
  walk_at "ev"
  rcases q with ⟨rfl, q⟩ | ⟨i, ca, room, used, born, cs, rfl, ho, h0, q⟩
  · refine ⟨_, _, rfl, .inl ⟨rfl, ?_⟩⟩
    walk_at "ev"
    exact q
  · refine ⟨_, _, rfl, .inr ⟨_, _, _, _, _, _, rfl, ho, ?_⟩⟩
    rcases q with ⟨e, q⟩ | ⟨p, fa, birth, bulk, tone, load, fl, e, ⟨⟨dp, c1⟩, c2⟩, q⟩
    · rw [show atO cs i = .non from by show (if 0 ≤ i then _ else _) = _; rw [if_pos h0, e]; rfl]
      walk_at "ev"
      exact q
    · rw [show atO cs i = .ref p from by show (if 0 ≤ i then _ else _) = _; rw [if_pos h0, e]; rfl]
      walk_at "ev"
      refine i_fldK c1 T.cl_Cell T.n_Cell_birth cellF_lk_birth ?_
      exact q
theorem _law_cell_at_rd {a : Addr} {k : Int} (T : TxC K C_Cell C_Heap) (q : ∃ ns : List Int, SqL K H a (ns.map V.int) ∧ 0 ≤ k ∧ ∀ z : Int, Q (.int z) H) : rd__law_cell_at K ⟨n, Q, bk, ct⟩ [some (.ref a), some (.int k)] H := by
  obtain ⟨ns, hS, h0, h⟩ := q
  unfold rd__law_cell_at
  walk_at "ev"
  refine i_lenL hS ?_
  walk_at "ev"
  refine ifd (fun h1 => ?_) (fun h1 => ?_)
  · walk_at "ev"
    rw [List.length_map] at h1
    have hk : k.toNat < ns.length := by omega
    exact i_ixL hS (atI_int h0 (by rw [List.getElem?_map, List.getElem?_eq_getElem hk] <;> rfl)) (h _)
  · walk_at "ev"
    exact h _
theorem _law_whole_rd {i : Int} (T : TxC K C_Cell C_Heap) (q : Q (.bl true) H) : rd__law_whole ⟨n, Q, bk, ct⟩ [some (.int i)] H := by
  unfold rd__law_whole
  walk_at "ev"
  exact q
theorem _law_room_by_rd {c : Int} (T : TxC K C_Cell C_Heap) (q : ∀ z : Int, Q (.int z) H) : rd__law_room_by ⟨n, Q, bk, ct⟩ [some (.int c)] H := by
  unfold rd__law_room_by
  walk_at "ev"
  refine ifd (fun h1 => ?_) (fun h1 => ?_)
  · walk_at "ev"
    exact q _
  · walk_at "ev"
    refine ifd (fun h1 => ?_) (fun h1 => ?_)
    · walk_at "ev"
      exact q _
    · walk_at "ev"
      exact q _
theorem _law_bulk_rd {c : Int} (T : TxC K C_Cell C_Heap) (q : ∀ z : Int, Q (.int z) H) : rd__law_bulk ⟨n, Q, bk, ct⟩ [some (.int c)] H := by
  unfold rd__law_bulk
  walk_at "ev"
  refine ifd (fun h1 => ?_) (fun h1 => ?_)
  · walk_at "ev"
    exact q _
  · walk_at "ev"
    refine ifd (fun h1 => ?_) (fun h1 => ?_)
    · walk_at "ev"
      exact q _
    · walk_at "ev"
      exact q _
theorem _law_mixed_rd {c p : Int} (T : TxC K C_Cell C_Heap) (q : 0 < p ∧ p < 2 ^ 31 ∧ ∀ z : Int, 0 ≤ z → Q (.int z) H) : rd__law_mixed ⟨n, Q, bk, ct⟩ [some (.int c), some (.int p), none] H := by
  obtain ⟨h0, h1, h⟩ := q
  unfold rd__law_mixed
  walk_at "ev"
  have a1 := Int.emod_nonneg ((c % p + 12345) * 48271) (show p ≠ 0 by omega)
  have a2 := Int.emod_lt_of_pos ((c % p + 12345) * 48271) h0
  generalize (c % p + 12345) * 48271 % p = d at *
  refine i_I (.inl ⟨by omega, by omega⟩) ?_
  walk_at "ev"
  exact h _ (by have := Int.emod_nonneg (d * d) (show (998244353 : Int) ≠ 0 by decide); omega)
theorem usd_fm (ds : List (Option Cm)) : ((ds.filterMap fun d => d.map un).sum) = usd ds := by
  induction ds with
  | nil => rfl
  | cons d ds ih =>
    unfold usd at ih ⊢
    rw [List.map_cons, List.sum_cons]
    cases d with
    | none => rw [List.filterMap_cons_none rfl, ih]; show _ = 0 + _; omega
    | some d => rw [List.filterMap_cons_some (f := fun d : Option Cm => Option.map un d) (b := un d) rfl, List.sum_cons, ih]; rfl
theorem _law_used_rd {du : Addr} (T : TxC K C_Cell C_Heap) (q : ∃ CC CH T s hp ca room born gs ds, J CC CH H T s hp ca du room born gs ds ∧ ds.length ≤ 1000 ∧ ∀ H', Same H H' → Q (.int (usd ds)) H') : rd__law_used K ⟨n, Q, bk, ct⟩ [some (.ref du)] H := by
  obtain ⟨CC, CH, Tt, s, hp, ca, room, born, gs, ds, j, hl, h⟩ := q
  have hln := j.ln
  have hlm : (gs.map eV).length = ds.length := by rw [List.length_map]; exact hln
  unfold rd__law_used
  walk_at "ev"
  refine i_lcg ?_
  walk_at "ev"
  refine ⟨du, rfl, ⟨_, SqL.of j.od⟩, ?_⟩
  refine lc_list (SqL.of j.od) (fun i => (ds[i]?.bind fun d => d.map un).map V.int) (by omega) ?_ ?_
  · intro i x hx
    have hi : i < ds.length := by rw [← hlm]; exact (List.getElem?_eq_some_iff.mp hx).1
    rw [List.getElem?_map] at hx
    cases hd : ds[i] with
    | none =>
      have hd' : ds[i]? = some none := by rw [List.getElem?_eq_getElem hi, hd]
      rw [j.at0 hd'] at hx
      have e : x = .non := (Option.some.inj hx).symm
      subst e
      rw [hd']
      refine ⟨fun q hq => ?_, fun y q hy => by simp at hy⟩
      walk_at "caps"
      walk_at "ev"
      exact hq
    | some d =>
      have hd' : ds[i]? = some (some d) := by rw [List.getElem?_eq_getElem hi, hd]
      obtain ⟨g, hg, en⟩ := j.at hd'
      rw [hg] at hx
      have e : x = .ref g.q := (Option.some.inj hx).symm
      subst e
      rw [hd']
      refine ⟨fun q hq => ?_, fun y q hy hq => ?_⟩
      · walk_at "caps"
        walk_at "ev"
        exact hq
      · walk_at "caps"
        walk_at "ev"
        refine i_ixL (SqL.of en.oq) (v := .ref g.r) rfl ?_
        walk_at "ev"
        refine i_lenL (SqL.of en.or') ?_
        walk_at "ev"
        refine i_ixL (SqL.of en.oq) (v := .int d.bulk) rfl ?_
        walk_at "ev"
        have e : V.int (un d) = y := by simpa using hy
        rw [List.length_map]
        unfold un at e
        rw [e]; exact hq
  · intro l hn
    have e : List.filterMap (fun i => (ds[i]?.bind fun d => d.map un).map V.int) (List.range (gs.map eV).length) = (ds.filterMap fun d => d.map un).map V.int := by
      rw [hlm, ← filterMap_range (fun d : Option Cm => d.map un) ds, List.map_filterMap]
    rw [e]
    walk_at "ev"
    refine i_sum (SqL.of upd_same) ?_
    rw [usd_fm]
    exact h _ (same_new hn _)
theorem _law_places_rd {du : Addr} (T : TxC K C_Cell C_Heap) (q : ∃ es, H du = some (.lst es) ∧ es.length ≤ 1000 ∧ ∀ l, H l = none → Q (.ref l) (upd H l (.lst ((plc es).map V.int)))) : rd__law_places K ⟨n, Q, bk, ct⟩ [some (.ref du)] H := by
  obtain ⟨es, h1, hl, h⟩ := q
  unfold rd__law_places
  walk_at "ev"
  refine i_lcg ?_
  walk_at "ev"
  refine i_lenL (SqL.of h1) ?_
  walk_at "ev"
  refine ⟨_, rfl, by omega, by omega, ?_⟩
  refine lc_range (n := es.length) (by omega) (p := fun i => !decide (es[i]? = some V.non)) (f := fun i => .int i) (by omega) ?_ ?_ ?_
  · intro i hi k hk
    walk_at "caps"
    walk_at "ev"
    refine i_ixL (SqL.of h1) (atI_nat (List.getElem?_eq_getElem hi)) ?_
    walk_at "ev"
    refine i_notN ?_
    rw [List.getElem?_eq_getElem hi] at hk
    walk_at "ev"
    simpa using hk
  · intro i hi _ k hk
    walk_at "caps"
    walk_at "ev"
    exact hk
  · have e : ((plc es).map V.int) = ((List.range es.length).filter fun i => !decide (es[i]? = some V.non)).map fun (i : Nat) => V.int i := by
      unfold plc
      rw [List.map_map]; rfl
    rw [← e]
    exact h
end
def PostD (CC CH : Addr) (H : Hp) (T : Tg) (s : Nat) (hp ca du : Addr) (room born : Int) (gs : List (Option G4)) (ds : List (Option Cm)) (Q : VK) : Prop := ∀ H' T' born' gs' ds', Stp s H H' T T' → J CC CH H' T' s hp ca du room born' gs' ds' →
  ((cnt gs' ≤ cnt gs ∧ born' = born) ∨ (cnt gs < cnt gs' ∧ born' = born + 1)) → ds'.length ≤ ds.length + 1 → Q (.bl true) H'
def S_made (CC CH : Addr) : Sp := fun vs H Q E => ∃ hp room du c b, vs = [.ref hp, .int room, .ref du, .int c, .int b] ∧ ∃ T s ca born gs ds, WT H T ∧ J CC CH H T s hp ca du room born gs ds ∧ ds.length ≤ 900 ∧ b = born + 1 ∧ PostD CC CH H T s hp ca du room born gs ds Q
def S_deed (CC CH : Addr) : Sp := fun vs H Q E => ∃ hp room du c b, vs = [.ref hp, .int room, .ref du, .int c, .int b] ∧ ∃ T s ca born gs ds, WT H T ∧ J CC CH H T s hp ca du room born gs ds ∧ ds.length ≤ 900 ∧ b = born + 1 ∧ PostD CC CH H T s hp ca du room born gs ds Q
theorem len_put (ds : List (Option Cm)) (d : Cm) : (putD ds d).length ≤ ds.length + 1 := by
  unfold putD
  by_cases z : none ∈ ds
  · rw [if_pos z, List.length_set]; omega
  · rw [if_neg z, List.length_append]; exact Nat.le_refl _
theorem idx_le {l : List V} : ∀ {j : Nat} {a : V}, l[j]? = some a → l.idxOf a ≤ j := by
  induction l with
  | nil => intro j a e; simp at e
  | cons x l ih =>
    intro j a e
    rw [List.idxOf_cons]
    cases h : (x == a) with
    | true => exact Nat.zero_le _
    | false =>
      cases j with
      | zero => simp at e; subst e; simp at h
      | succ j =>
        have := ih (j := j) (a := a) (by simpa using e)
        show l.idxOf a + 1 ≤ j + 1
        omega
theorem least_is {es : List V} {m : Int} (h1 : m ∈ (((List.range es.length).filter fun i => decide (es[i]? = some V.non)).map fun (i : Nat) => (i : Int)) ++ [(es.length : Int)])
    (h2 : ∀ a ∈ (((List.range es.length).filter fun i => decide (es[i]? = some V.non)).map fun (i : Nat) => (i : Int)) ++ [(es.length : Int)], m ≤ a) : m = (es.idxOf V.non : Nat) := by
  have up : m ≤ (es.idxOf V.non : Nat) := by
    by_cases z : V.non ∈ es
    · have hi : es.idxOf V.non < es.length := List.idxOf_lt_length_iff.mpr z
      refine h2 _ (List.mem_append_left _ (List.mem_map.mpr ⟨es.idxOf V.non, List.mem_filter.mpr ⟨List.mem_range.mpr hi, ?_⟩, rfl⟩))
      rw [decide_eq_true_eq, List.getElem?_eq_getElem hi, List.getElem_idxOf hi]
    · rw [List.idxOf_eq_length z]
      exact h2 _ (List.mem_append_right _ List.mem_cons_self)
  have dn : ((es.idxOf V.non : Nat) : Int) ≤ m := by
    rcases List.mem_append.mp h1 with h | h
    · obtain ⟨i, hi, rfl⟩ := List.mem_map.mp h
      have := (List.mem_filter.mp hi).2
      have := idx_le (of_decide_eq_true this)
      omega
    · have e : m = es.length := by simpa using h
      have := List.idxOf_le_length (l := es) (a := V.non)
      omega
  omega
section
variable {K : PySem.W.Frag} {C_Cell C_Heap C_Full : Addr} {H : Hp} {Q : VK} {E : XK} {n : St → Hp → Prop} {bk ct : St → Hp → Prop}
theorem made_fin {hp du ca p fa dx : Addr} {s : Nat} {T : Tg} {room born c many bulk tone : Int} {gs : List (Option G4)} {ds : List (Option Cm)} {H6 : Hp} {es6 : List V} {v8 : Option V} (w : WT H T) (j : J C_Cell C_Heap H T s hp ca du room born gs ds)
    (np : H p = none) (nf : H fa = none) (npf : p ≠ fa) (m0 : 0 ≤ many) (m1 : many ≤ 1000)
    (kp : ∀ b o, H b = some o → b ≠ hp → b ≠ ca → b ≠ du → H6 b = some o) (h1 : H6 hp = some (.ins C_Heap dx (heapF room ca (usd ds + (1 + many + bulk)) (born + 1)))) (h2 : H6 ca = some (.lst (putN (gs.map cV) (.ref p))))
    (h3 : H6 du = some (.lst es6)) (il : (gs.map eV).idxOf V.non < es6.length) (ep : ∀ v, es6.set ((gs.map eV).idxOf V.non) v = putN (gs.map eV) v)
    (c1 : ∃ dp, H6 p = some (.ins C_Cell dp (cellF (born + 1) bulk tone 0 fa))) (c2 : H6 fa = some (.lst (List.replicate many.toNat V.non)))
    (post : ∀ H' T' g c, Stp s H H' T T' → J C_Cell C_Heap H' T' s hp ca du room (born + 1) (putG gs g) (putD ds c) → Q (.bl true) H') :
    rd__law_made_t0_11 S_whole ⟨n, Q, bk, ct⟩ [some (.ref hp), some (.int room), some (.ref du), some (.int c), some (.int (born + 1)), some (.int many), some (.int bulk), some (.int tone), v8, some (.int ((gs.map cV).idxOf V.non)), some (.int ((gs.map eV).idxOf V.non))] H6 := by
  obtain ⟨dx0, h0⟩ := j.oh
  obtain ⟨dp, c1⟩ := c1
  have nph : p ≠ hp := (ne_of_none h0 np).symm
  have npc : p ≠ ca := (ne_of_none j.oc np).symm
  have npd : p ≠ du := (ne_of_none j.od np).symm
  have nfh : fa ≠ hp := (ne_of_none h0 nf).symm
  have nfc : fa ≠ ca := (ne_of_none j.oc nf).symm
  have nfd : fa ≠ du := (ne_of_none j.od nf).symm
  have ex6 : ∀ b o, H b = some o → ∃ o', H6 b = some o' := fun b o h => by
    by_cases z1 : b = hp
    · exact ⟨_, by rw [z1]; exact h1⟩
    · by_cases z2 : b = ca
      · exact ⟨_, by rw [z2]; exact h2⟩
      · by_cases z3 : b = du
        · exact ⟨_, by rw [z3]; exact h3⟩
        · exact ⟨o, kp b o h z1 z2 z3⟩
  unfold rd__law_made_t0_11
  walk_at "ev"
  refine ⟨by decide, fun l0 hl0 => ?_⟩
  have s7 := same_new hl0 (.lst [V.non])
  have g7 : upd H6 l0 (.lst [V.non]) l0 = some (.lst [V.non]) := upd_same
  generalize upd H6 l0 (.lst [V.non]) = H7 at s7 g7 ⊢
  walk_at "ev"
  refine ⟨l0, many, _, rfl, rfl, g7, by omega, by omega, ?_, fun r hr => ?_⟩
  · show 1 * many.toNat ≤ sizeLine
    exact len_ok (by omega)
  have e : (List.replicate many.toNat [V.non]).flatten = List.replicate many.toNat V.non := by
    generalize many.toNat = k
    induction k with
    | zero => rfl
    | succ k ih => rw [List.replicate_succ, List.replicate_succ, List.flatten_cons, ih]; rfl
  rw [e]
  have s8 := same_new hr (.lst (List.replicate many.toNat V.non))
  have g8 : upd H7 r (.lst (List.replicate many.toNat V.non)) r = some (.lst (List.replicate many.toNat V.non)) := upd_same
  generalize upd H7 r (.lst (List.replicate many.toNat V.non)) = H8 at s8 g8 ⊢
  walk_at "ev"
  refine ⟨len_ok (by simp), fun q hq => ?_⟩
  have s9 := same_new hq (.lst [V.int (born + 1), V.int bulk, V.int tone, V.int 0, V.ref r])
  have g9 : upd H8 q (.lst [V.int (born + 1), V.int bulk, V.int tone, V.int 0, V.ref r]) q = some (.lst [V.int (born + 1), V.int bulk, V.int tone, V.int 0, V.ref r]) := upd_same
  generalize upd H8 q (.lst [V.int (born + 1), V.int bulk, V.int tone, V.int 0, V.ref r]) = H9 at s9 g9 ⊢
  walk_at "ev"
  have s68 : Same H6 H8 := s7.trans s8
  have s69 : Same H6 H9 := s68.trans s9
  refine ⟨du, es6, _, _, rfl, rfl, s69 _ _ h3, ixN_nat il, ?_⟩
  rw [ep]
  walk_at "ev"
  refine ⟨_, rfl, ?_⟩
  walk_at "ev"
  have ei : (gs.map cV).idxOf V.non = (gs.map eV).idxOf V.non := (idx_map cV_non gs).1.trans (idx_map eV_non gs).1.symm
  rw [ei, decide_eq_true rfl]
  have nr : H r = none := by
    cases z : H r with
    | none => rfl
    | some o => obtain ⟨o', z'⟩ := ex6 r o z; rw [s7 _ _ z'] at hr; cases hr
  have nq : H q = none := by
    cases z : H q with
    | none => rfl
    | some o => obtain ⟨o', z'⟩ := ex6 q o z; rw [s68 _ _ z'] at hq; cases hq
  have npr : p ≠ r := ne_of_none (s7 _ _ c1) hr
  have nfr : fa ≠ r := ne_of_none (s7 _ _ c2) hr
  have npq : p ≠ q := ne_of_none (s68 _ _ c1) hq
  have nfq : fa ≠ q := ne_of_none (s68 _ _ c2) hq
  have nqr : q ≠ r := (ne_of_none g8 hq).symm
  have nrd : r ≠ du := (ne_of_none j.od nr).symm
  have nqd : q ≠ du := (ne_of_none j.od nq).symm
  have em : (List.replicate many.toNat (none : Option Int)).map oV = List.replicate many.toNat V.non := by rw [List.map_replicate]; rfl
  have eu : un ⟨born + 1, bulk, tone, List.replicate many.toNat none⟩ = 1 + many + bulk := by
    show 1 + ((List.replicate many.toNat (none : Option Int)).length : Int) + bulk = _
    rw [List.length_replicate]; omega
  obtain ⟨T', st, j'⟩ := J.put (g := ⟨p, fa, q, r⟩) (c := ⟨born + 1, bulk, tone, List.replicate many.toNat none⟩) (H' := upd H9 du (.lst (putN (gs.map eV) (.ref q)))) (dx := dx) j w
    (fun b o h a1 a2 a3 => by rw [upd_ne a3]; exact s69 _ _ (kp b o h a1 a2 a3)) (by rw [upd_ne j.nhd, eu]; exact s69 _ _ h1) (by rw [upd_ne j.ncd]; exact s69 _ _ h2) upd_same np nf nq nr npf npq npr nfq nfr nqr
    ⟨dp, by rw [upd_ne npd]; exact s69 _ _ c1⟩ (by rw [upd_ne nfd, em]; exact s69 _ _ c2) (by rw [upd_ne nqd]; exact g9) (by rw [upd_ne nrd, em]; exact s9 _ _ g8)
  exact post _ T' _ _ st j'
theorem made_full {hp du : Addr} {room c b many bulk tone : Int} (h : Q (.bl true) H) :
    rd__law_made_t0_8 K S_whole ⟨n, Q, bk, ct⟩ [some (.ref hp), some (.int room), some (.ref du), some (.int c), some (.int b), some (.int many), some (.int bulk), some (.int tone), some (.bl false), some (.int (-1)), none] H := by
  unfold rd__law_made_t0_8
  walk_at "ev"
  rw [decide_eq_true rfl]
  exact h
theorem made_fit {hp du ca p fa dx : Addr} {s : Nat} {T : Tg} {room born c many bulk tone : Int} {gs : List (Option G4)} {ds : List (Option Cm)} {H4 : Hp} (w : WT H T) (j : J C_Cell C_Heap H T s hp ca du room born gs ds) (hl : ds.length ≤ 900)
    (np : H p = none) (nf : H fa = none) (m0 : 0 ≤ many) (m1 : many ≤ 1000)
    (fm : Fm [hp, ca] H H4) (h1 : H4 hp = some (.ins C_Heap dx (heapF room ca (usd ds + (1 + many + bulk)) (born + 1)))) (h2 : H4 ca = some (.lst (putN (gs.map cV) (.ref p))))
    (co : CellO C_Cell H4 p fa (born + 1) bulk tone 0 (List.replicate many.toNat V.non))
    (post : ∀ H' T' g c, Stp s H H' T T' → J C_Cell C_Heap H' T' s hp ca du room (born + 1) (putG gs g) (putD ds c) → Q (.bl true) H') :
    rd__law_made_t0_8 K S_whole ⟨n, Q, bk, ct⟩ [some (.ref hp), some (.int room), some (.ref du), some (.int c), some (.int (born + 1)), some (.int many), some (.int bulk), some (.int tone), some (.bl true), some (.int ((gs.map cV).idxOf V.non)), none] H4 := by
  have el : (gs.map eV).length = ds.length := by rw [List.length_map]; exact j.ln
  have ndu : du ∉ [hp, ca] := by
    intro z
    rcases List.mem_cons.mp z with z | z
    · exact j.nhd z.symm
    · exact j.ncd (List.mem_singleton.mp z).symm
  have hd4 : H4 du = some (.lst (gs.map eV)) := fm _ _ j.od ndu
  obtain ⟨⟨dp, c1⟩, c2⟩ := co
  have npf : p ≠ fa := ne_of c1 c2 (fun z => by cases z)
  have fin := @made_fin C_Cell C_Heap H Q n bk ct hp du ca p fa dx s T room born c many bulk tone gs ds
  have kp4 : ∀ b o, H b = some o → b ≠ hp → b ≠ ca → b ≠ du → H4 b = some o := fun b o h z1 z2 _ => fm b o h fun z => by
    rcases List.mem_cons.mp z with z | z
    · exact z1 z
    · exact z2 (List.mem_singleton.mp z)
  have npd : p ≠ du := (ne_of_none j.od np).symm
  have nfd : fa ≠ du := (ne_of_none j.od nf).symm
  have lst := @least_is (gs.map eV)
  have nhd := j.nhd
  have ncd := j.ncd
  generalize (gs.map cV).idxOf V.non = ic at fin ⊢
  unfold rd__law_made_t0_8
  walk_at "ev"
  refine i_lcg ?_
  walk_at "ev"
  refine i_lenL (SqL.of hd4) ?_
  walk_at "ev"
  refine ⟨_, rfl, by omega, by omega, ?_⟩
  generalize gs.map eV = es at fin lst hd4 el ⊢
  refine lc_range (n := es.length) (by omega) (p := fun i => decide (es[i]? = some V.non)) (f := fun i => .int i) (by omega) ?_ ?_ ?_
  · intro i hi k hk
    walk_at "caps"
    walk_at "ev"
    refine i_ixL (SqL.of hd4) (atI_nat (List.getElem?_eq_getElem hi)) ?_
    walk_at "ev"
    refine i_isN ?_
    rw [List.getElem?_eq_getElem hi] at hk
    walk_at "ev"
    simpa using hk
  · intro i hi _ k hk
    walk_at "caps"
    walk_at "ev"
    exact hk
  intro a1 hn1
  have lnn : (((List.range es.length).filter fun i => decide (es[i]? = some V.non)).map fun (i : Nat) => (i : Int)).length ≤ es.length := by
    rw [List.length_map]
    exact Nat.le_trans (List.length_filter_le _ _) (by rw [List.length_range]; exact Nat.le_refl _)
  have e9 : (List.map (fun (i : Nat) => V.int i) (List.filter (fun i => decide (es[i]? = some V.non)) (List.range es.length))) = ((((List.range es.length).filter fun i => decide (es[i]? = some V.non)).map fun (i : Nat) => (i : Int))).map V.int := by
    rw [List.map_map]; rfl
  rw [e9]
  clear e9
  generalize (((List.range es.length).filter fun i => decide (es[i]? = some V.non)).map fun (i : Nat) => (i : Int)) = nn at lst lnn ⊢
  have sa := same_new hn1 (.lst (nn.map V.int))
  have ga : upd H4 a1 (.lst (nn.map V.int)) a1 = some (.lst (nn.map V.int)) := upd_same
  generalize upd H4 a1 (.lst (nn.map V.int)) = H1 at sa ga ⊢
  walk_at "ev"
  refine i_lenL (SqL.of (sa _ _ hd4)) ?_
  walk_at "ev"
  refine ⟨len_ok (by simp), fun a2 hn2 => ?_⟩
  have sb := same_new hn2 (.lst [.int es.length])
  have gb : upd H1 a2 (.lst [.int es.length]) a2 = some (.lst [.int es.length]) := upd_same
  generalize upd H1 a2 (.lst [.int es.length]) = H2 at sb gb ⊢
  walk_at "ev"
  refine ⟨a1, a2, _, _, rfl, rfl, sb _ _ ga, gb, len_ok (by rw [List.length_map, List.length_singleton]; omega), fun a3 hn3 => ?_⟩
  have e1 : nn.map V.int ++ [V.int es.length] = (nn ++ [(es.length : Int)]).map V.int := by rw [List.map_append]; rfl
  rw [e1]
  have sc := same_new hn3 (.lst ((nn ++ [(es.length : Int)]).map V.int))
  have gc : upd H2 a3 (.lst ((nn ++ [(es.length : Int)]).map V.int)) a3 = some (.lst ((nn ++ [(es.length : Int)]).map V.int)) := upd_same
  generalize upd H2 a3 (.lst ((nn ++ [(es.length : Int)]).map V.int)) = H3 at sc gc ⊢
  walk_at "ev"
  refine i_minL (SqL.of gc) (by simp) fun m hm1 hm2 => ?_
  have em := lst hm1 hm2
  subst em
  have s3 : Same H4 H3 := sa.trans (sb.trans sc)
  walk_at "ev"
  refine i_lenL (SqL.of (s3 _ _ hd4)) ?_
  walk_at "ev"
  refine ifd (fun hx => ?_) (fun hx => ?_)
  · have nin : V.non ∉ es := fun z => by
      have := List.idxOf_lt_length_iff.mpr z
      omega
    walk_at "ev"
    refine ⟨.inl ⟨rfl, _, SqL.of (s3 _ _ hd4)⟩, ?_⟩
    walk_at "ev"
    refine ⟨du, es, _, rfl, rfl, s3 _ _ hd4, Nat.lt_of_le_of_lt (show es.length ≤ 1000 by omega) (by decide), ?_⟩
    refine fin w j np nf npf m0 m1 (fun b o h z1 z2 z3 => by rw [upd_ne z3]; exact s3 _ _ (kp4 b o h z1 z2 z3)) (by rw [upd_ne nhd]; exact s3 _ _ h1) (by rw [upd_ne ncd]; exact s3 _ _ h2) upd_same (by rw [List.length_append, List.length_singleton]; omega) (fun v => ?_) ⟨dp, by rw [upd_ne npd]; exact s3 _ _ c1⟩ (by rw [upd_ne nfd]; exact s3 _ _ c2) post
    unfold putN
    rw [if_neg nin, List.idxOf_eq_length nin, List.set_append_right _ _ (Nat.le_refl _), Nat.sub_self]
    rfl
  · have yin : V.non ∈ es := by
      refine Classical.byContradiction fun z => ?_
      rw [List.idxOf_eq_length z] at hx
      exact hx rfl
    refine i_next ?_
    refine fin w j np nf npf m0 m1 (fun b o h z1 z2 z3 => s3 _ _ (kp4 b o h z1 z2 z3)) (s3 _ _ h1) (s3 _ _ h2) (s3 _ _ hd4) (List.idxOf_lt_length_iff.mpr yin) (fun v => ?_) ⟨dp, s3 _ _ c1⟩ (s3 _ _ c2) post
    unfold putN
    rw [if_pos yin]
theorem made_try {hp du : Addr} {room born c many bulk tone : Int} {s : Nat} {T : Tg} {ca : Addr} {gs : List (Option G4)} {ds : List (Option Cm)} (Tx : TxC K C_Cell C_Heap) (w : WT H T) (j : J C_Cell C_Heap H T s hp ca du room born gs ds) (hl : ds.length ≤ 900)
    (m0 : 0 ≤ many) (m1 : many ≤ 1000) (h5 : c / 7 % 6 = 5 → bulk = 0 ∧ tone = 0) (h4 : c / 7 % 6 = 4 → tone = 0) (post : PostD C_Cell C_Heap H T s hp ca du room born gs ds Q) :
    rd__law_made_t0_5 K C_Full C_Heap (S_Heap_make K C_Cell C_Heap C_Full) S_used S_whole ⟨n, Q, bk, ct⟩ [some (.ref hp), some (.int room), some (.ref du), some (.int c), some (.int (born + 1)), some (.int many), some (.int bulk), some (.int tone), none, none, none] H := by
  have hg : (gs.map cV).length ≤ 1000 := by rw [List.length_map, j.ln]; omega
  unfold rd__law_made_t0_5
  walk_at "ev"
  refine ⟨du, rfl, C_Cell, C_Heap, T, s, hp, ca, room, born, gs, ds, j, by omega, fun H1 s1 => ?_⟩
  have j1 := j.same s1
  have w1 := w.same s1
  obtain ⟨dx, h1⟩ := j1.oh
  walk_at "ev"
  have kE : ∀ H', Same H1 H' → room - usd ds < 1 + many + bulk → rd__law_made_t0_8 K S_whole ⟨n, Q, bk, ct⟩ [some (.ref hp), some (.int room), some (.ref du), some (.int c), some (.int (born + 1)), some (.int many), some (.int bulk), some (.int tone), some (.bl (decide (usd ds + 1 + many + bulk ≤ room))), some (.int (-1)), none] H' := fun H' s' z => by
    have e : decide (usd ds + 1 + many + bulk ≤ room) = false := decide_eq_false (by omega)
    rw [e]
    exact made_full (post H' T born gs ds (Stp.same w (s1.trans s')) (j1.same s') (.inl ⟨Nat.le_refl _, rfl⟩) (by omega))
  have kQ : 1 + many + bulk ≤ room - usd ds → ∀ p fa H', H1 p = none → H1 fa = none → Fm [hp, ca] H1 H' → H' hp = some (.ins C_Heap dx (heapF room ca (usd ds + (1 + many + bulk)) (born + 1))) → H' ca = some (.lst (putN (gs.map cV) (.ref p))) →
      CellO C_Cell H' p fa (born + 1) bulk tone 0 (List.replicate many.toNat V.non) → rd__law_made_t0_8 K S_whole ⟨n, Q, bk, ct⟩ [some (.ref hp), some (.int room), some (.ref du), some (.int c), some (.int (born + 1)), some (.int many), some (.int bulk), some (.int tone), some (.bl (decide (usd ds + 1 + many + bulk ≤ room))), some (.int ((gs.map cV).idxOf V.non)), none] H' := fun z p fa H' a1 a2 a3 a4 a5 a6 => by
    have e : decide (usd ds + 1 + many + bulk ≤ room) = true := decide_eq_true (by omega)
    rw [e]
    refine made_fit w1 j1 hl a1 a2 m0 m1 a3 a4 a5 a6 fun H2 T2 g cc st jj => ?_
    refine post H2 T2 (born + 1) (putG gs g) (putD ds cc) ((Stp.same w s1).trans st) jj (.inr ⟨?_, rfl⟩) (len_put _ _)
    rw [cnt_put]; omega
  refine ifd (fun z5 => ?_) (fun z5 => ?_)
  · obtain ⟨e1, e2⟩ := h5 z5
    subst e1 e2
    walk_at "ev"
    refine ⟨hp, dx, _, rfl, h1, heapF_no_make, ?_⟩
    walk_at "ev"
    refine ⟨hp, many, 0, 0, rfl, ca, dx, room, usd ds, born, gs.map cV, h1, j1.oc, j1.okn Tx, hg, m0, m1, fun z H' s' => ⟨rfl, ?_⟩, fun z p fa H' a1 a2 a3 a4 a5 a6 => ?_⟩
    · walk_at "ev"
      exact kE H' s' z
    · walk_at "ev"
      exact kQ z p fa H' a1 a2 a3 a4 a5 a6
  · refine i_if ?_
    walk_at "ev"
    refine ifd (fun z4 => ?_) (fun z4 => ?_)
    · have e2 := h4 z4
      subst e2
      walk_at "ev"
      refine ⟨hp, dx, _, rfl, h1, heapF_no_make, ?_⟩
      walk_at "ev"
      refine ⟨hp, many, bulk, 0, rfl, ca, dx, room, usd ds, born, gs.map cV, h1, j1.oc, j1.okn Tx, hg, m0, m1, fun z H' s' => ⟨rfl, ?_⟩, fun z p fa H' a1 a2 a3 a4 a5 a6 => ?_⟩
      · walk_at "ev"
        exact kE H' s' z
      · walk_at "ev"
        exact kQ z p fa H' a1 a2 a3 a4 a5 a6
    · walk_at "ev"
      refine ⟨hp, dx, _, rfl, h1, heapF_no_make, ?_⟩
      walk_at "ev"
      refine ⟨hp, many, bulk, tone, rfl, ca, dx, room, usd ds, born, gs.map cV, h1, j1.oc, j1.okn Tx, hg, m0, m1, fun z H' s' => ⟨rfl, ?_⟩, fun z p fa H' a1 a2 a3 a4 a5 a6 => ?_⟩
      · walk_at "ev"
        exact kE H' s' z
      · walk_at "ev"
        exact kQ z p fa H' a1 a2 a3 a4 a5 a6
theorem _law_made_rd {hp du : Addr} {room c b : Int} (Tx : TxC K C_Cell C_Heap) (q : ∃ T s ca born gs ds, WT H T ∧ J C_Cell C_Heap H T s hp ca du room born gs ds ∧ ds.length ≤ 900 ∧ b = born + 1 ∧ PostD C_Cell C_Heap H T s hp ca du room born gs ds Q) :
    rd__law_made K C_Full C_Heap (S_Heap_make K C_Cell C_Heap C_Full) S_any S_used S_whole ⟨n, Q, bk, ct⟩ [some (.ref hp), some (.int room), some (.ref du), some (.int c), some (.int b), none, none, none, none, none, none] H := by
  obtain ⟨T, s, ca, born, gs, ds, w, j, hl, rfl, post⟩ := q
  unfold rd__law_made
  walk_at "ev"
  refine ⟨_, rfl, fun bulk => ?_⟩
  walk_at "ev"
  have a1 := Int.emod_nonneg (c / 10) (show (9 : Int) ≠ 0 by decide)
  have a2 := Int.emod_lt_of_pos (c / 10) (show (0 : Int) < 9 by decide)
  generalize c / 10 % 9 = many at *
  generalize c / 20 % 2 = tone
  refine ifd (fun z4 => ?_) (fun z4 => ?_)
  · walk_at "ev"
    refine ifd (fun z5 => absurd z5 (by omega)) (fun z5 => ?_)
    walk_at "ev"
    exact made_try Tx w j hl a1 (by omega) (fun z => absurd z z5) (fun _ => rfl) post
  · refine i_next ?_
    walk_at "ev"
    refine ifd (fun z5 => ?_) (fun z5 => ?_)
    · walk_at "ev"
      exact made_try Tx w j hl a1 (by omega) (fun _ => ⟨rfl, rfl⟩) (fun z => absurd z z4) post
    · refine i_next ?_
      exact made_try Tx w j hl a1 (by omega) (fun z => absurd z z5) (fun z => absurd z z4) post
end
theorem Stp.fix {s : Nat} {H H' : Hp} {T : Tg} (w : WT H T) (al : ∀ b o, H b = some o → ∃ o', H' b = some o') (kp : ∀ b o, H b = some o → (T b).1 ≠ s → H' b = some o) : Stp s H H' T T :=
  ⟨kp, al, fun _ _ _ => rfl, fun b h => w b (by
    cases z : H b with
    | none => rfl
    | some o => obtain ⟨o', z'⟩ := al b o z; rw [h] at z'; cases z')⟩
section
variable {CC CH : Addr} {H H' : Hp} {T T' : Tg} {s i : Nat} {hp ca du : Addr} {room born : Int} {gs : List (Option G4)} {ds : List (Option Cm)}
theorem J.drop {dx : Addr} {c : Cm} (j : J CC CH H T s hp ca du room born gs ds) (w : WT H T) (hd : ds[i]? = some (some c))
    (kp : ∀ b o, H b = some o → b ≠ hp → b ≠ ca → b ≠ du → H' b = some o) (h1 : H' hp = some (.ins CH dx (heapF room ca (usd ds - un c) born))) (h2 : H' ca = some (.lst ((gs.map cV).set i V.non))) (h3 : H' du = some (.lst ((gs.map eV).set i V.non))) :
    Stp s H H' T T ∧ J CC CH H' T s hp ca du room born (gs.set i none) (ds.set i none) := by
  have eu : usd (ds.set i none) = usd ds - un c := by
    rw [usd_set none ds i _ hd]
    show usd ds - un c + 0 = _
    omega
  refine ⟨Stp.fix w (fun b o h => ?_) fun b o h nn => kp b o h (fun e => nn (by rw [e, j.th])) (fun e => nn (by rw [e, j.tc])) (fun e => nn (by rw [e, j.td])), ?_⟩
  · by_cases z1 : b = hp
    · exact ⟨_, by rw [z1]; exact h1⟩
    · by_cases z2 : b = ca
      · exact ⟨_, by rw [z2]; exact h2⟩
      · by_cases z3 : b = du
        · exact ⟨_, by rw [z3]; exact h3⟩
        · exact ⟨o, kp b o h z1 z2 z3⟩
  · refine ⟨j.th, j.tc, j.td, ⟨dx, by rw [eu]; exact h1⟩, by rw [List.map_set]; exact h2, by rw [List.map_set]; exact h3, by rw [List.length_set, List.length_set]; exact j.ln, fun k g d e1 e2 => ?_⟩
    by_cases hk : k = i
    · subst hk
      have l1 : k < ds.length := (List.getElem?_eq_some_iff.mp hd).1
      have l2 : k < gs.length := by rw [j.ln]; exact l1
      rw [List.getElem?_set_self l2] at e1
      rw [List.getElem?_set_self l1] at e2
      cases e1
      cases e2
      trivial
    · rw [List.getElem?_set_ne (fun w => hk w.symm)] at e1 e2
      refine (j.en k g d e1 e2).mvk (fun b o m h ht m1 m2 => kp b o h ?_ ?_ ?_) fun _ _ _ => rfl
      · exact ne_tag ht j.th (by simp; omega)
      · exact ne_tag ht j.tc (by simp; omega)
      · exact ne_tag ht j.td (by simp; omega)
theorem J.put1 {g : G4} {c : Cm} {k : Nat} {x : Int} (j : J CC CH H T s hp ca du room born gs ds) (w : WT H T) (hg : gs[i]? = some (some g)) (hd : ds[i]? = some (some c)) (en : En CC H T s i g c) :
    Stp s H (upd (upd H g.fa (.lst ((c.fl.map oV).set k (.int x)))) g.r (.lst ((c.fl.map oV).set k (.int x)))) T T ∧
    J CC CH (upd (upd H g.fa (.lst ((c.fl.map oV).set k (.int x)))) g.r (.lst ((c.fl.map oV).set k (.int x)))) T s hp ca du room born gs (ds.set i (some ⟨c.birth, c.bulk, c.tone, c.fl.set k (some x)⟩)) := by
  have em : (c.fl.set k (some x)).map oV = (c.fl.map oV).set k (.int x) := by rw [List.map_set]; rfl
  have eu : usd (ds.set i (some ⟨c.birth, c.bulk, c.tone, c.fl.set k (some x)⟩)) = usd ds := by
    rw [usd_set _ ds i _ hd]
    show usd ds - (1 + (c.fl.length : Int) + c.bulk) + (1 + ((c.fl.set k (some x)).length : Int) + c.bulk) = _
    rw [List.length_set]; omega
  have nfr : g.fa ≠ g.r := ne_tag en.tf en.tr (by simp)
  generalize ha : upd H g.fa (.lst ((c.fl.map oV).set k (.int x))) = Ha
  generalize hb : upd Ha g.r (.lst ((c.fl.map oV).set k (.int x))) = Hb
  have kp : ∀ b o, H b = some o → b ≠ g.fa → b ≠ g.r → Hb b = some o := fun b o h z1 z2 => by rw [← hb, upd_ne z2, ← ha, upd_ne z1]; exact h
  have b1 : Hb g.fa = some (.lst ((c.fl.map oV).set k (.int x))) := by rw [← hb, upd_ne nfr, ← ha, upd_same]
  have b2 : Hb g.r = some (.lst ((c.fl.map oV).set k (.int x))) := by rw [← hb, upd_same]
  refine ⟨Stp.fix w (fun b o h => ?_) fun b o h nn => kp b o h (fun e => nn (by rw [e, en.tf])) (fun e => nn (by rw [e, en.tr])), ?_⟩
  · by_cases z1 : b = g.fa
    · exact ⟨_, by rw [z1]; exact b1⟩
    · by_cases z2 : b = g.r
      · exact ⟨_, by rw [z2]; exact b2⟩
      · exact ⟨o, kp b o h z1 z2⟩
  · obtain ⟨dx, oh⟩ := j.oh
    refine ⟨j.th, j.tc, j.td, ⟨dx, by rw [eu]; exact kp _ _ oh (ne_tag j.th en.tf (by simp)) (ne_tag j.th en.tr (by simp))⟩, kp _ _ j.oc (ne_tag j.tc en.tf (by simp)) (ne_tag j.tc en.tr (by simp)), kp _ _ j.od (ne_tag j.td en.tf (by simp)) (ne_tag j.td en.tr (by simp)), by rw [List.length_set]; exact j.ln, fun m gg d e1 e2 => ?_⟩
    by_cases hk : m = i
    · subst hk
      have l1 : m < ds.length := (List.getElem?_eq_some_iff.mp hd).1
      rw [List.getElem?_set_self l1] at e2
      rw [hg] at e1
      cases e1
      cases e2
      obtain ⟨dp, op⟩ := en.op
      exact ⟨en.tp, en.tf, en.tq, en.tr, ⟨dp, kp _ _ op (ne_tag en.tp en.tf (by simp)) (ne_tag en.tp en.tr (by simp))⟩, by rw [em]; exact b1, kp _ _ en.oq (ne_tag en.tq en.tf (by simp)) (ne_tag en.tq en.tr (by simp)), by rw [em]; exact b2⟩
    · rw [List.getElem?_set_ne (fun w => hk w.symm)] at e2
      refine (j.en m gg d e1 e2).mvk (fun b o y h ht m1 m2 => kp b o h ?_ ?_) fun _ _ _ => rfl
      · exact ne_tag ht en.tf (by simp; omega)
      · exact ne_tag ht en.tr (by simp; omega)
theorem J.there (j : J CC CH H T s hp ca du room born gs ds) {x : Int} (h : x ∈ plc (gs.map eV)) : 0 ≤ x ∧ ∃ g c, gs[x.toNat]? = some (some g) ∧ ds[x.toNat]? = some (some c) ∧ En CC H T s x.toNat g c := by
  obtain ⟨h0, hl, hn⟩ := plc_mem h
  rw [List.length_map] at hl
  have hl2 : x.toNat < ds.length := by rw [← j.ln]; exact hl
  refine ⟨h0, ?_⟩
  rw [List.getElem?_map, List.getElem?_eq_getElem hl] at hn
  cases hg : gs[x.toNat] with
  | none => rw [hg] at hn; exact absurd rfl hn
  | some g =>
    have e := j.en x.toNat _ _ (List.getElem?_eq_getElem hl) (List.getElem?_eq_getElem hl2)
    rw [hg] at e
    cases hd : ds[x.toNat] with
    | none => rw [hd] at e; exact e.elim
    | some c =>
      rw [hd] at e
      exact ⟨g, c, by rw [List.getElem?_eq_getElem hl, hg], by rw [List.getElem?_eq_getElem hl2, hd], e⟩
end
theorem pick_in {ns : List Int} {z : Int} (hn : ns ≠ []) : 0 < ((ns.map V.int).length : Int) ∧ ∃ x, x ∈ ns ∧ atI (ns.map V.int) (z % ((ns.map V.int).length : Int)) = some (.int x) := by
  have hl : 0 < (ns.map V.int).length := by rw [List.length_map]; exact List.length_pos_iff.mpr hn
  have a1 := Int.emod_nonneg z (show ((ns.map V.int).length : Int) ≠ 0 by omega)
  have a2 := Int.emod_lt_of_pos z (show 0 < ((ns.map V.int).length : Int) by omega)
  generalize z % ((ns.map V.int).length : Int) = y at a1 a2 ⊢
  have hy : y.toNat < ns.length := by rw [List.length_map] at a2; omega
  exact ⟨by omega, ns[y.toNat], List.getElem_mem hy, atI_int a1 (by rw [List.getElem?_map, List.getElem?_eq_getElem hy]; rfl)⟩
section
variable {K : PySem.W.Frag} {C_Cell C_Heap C_Full : Addr} {H : Hp} {Q : VK} {E : XK} {n : St → Hp → Prop} {bk ct : St → Hp → Prop}
theorem deed_back {hp du ca : Addr} {room born c b pl : Int} {s : Nat} {T : Tg} {gs : List (Option G4)} {ds : List (Option Cm)} {v5 : Option V} (Tx : TxC K C_Cell C_Heap) (w : WT H T) (j : J C_Cell C_Heap H T s hp ca du room born gs ds) (hm : pl ∈ plc (gs.map eV))
    (post : PostD C_Cell C_Heap H T s hp ca du room born gs ds Q) :
    rd__law_deed_i1a K C_Heap (S_Heap_back C_Cell C_Heap) S_whole ⟨n, Q, bk, ct⟩ [some (.ref hp), some (.int room), some (.ref du), some (.int c), some (.int b), v5, some (.int pl), none, none, none, none, none] H := by
  obtain ⟨h0, g, d, hg, hd, en⟩ := j.there hm
  obtain ⟨dx, oh⟩ := j.oh
  have hl : pl.toNat < gs.length := (List.getElem?_eq_some_iff.mp hg).1
  unfold rd__law_deed_i1a
  walk_at "ev"
  refine ⟨hp, dx, _, rfl, oh, heapF_no_back, ?_⟩
  walk_at "ev"
  refine ⟨hp, pl, rfl, ca, dx, room, usd ds, born, gs.map cV, g.p, g.fa, d.birth, d.bulk, d.tone, 0, d.fl.map oV, h0, oh, j.oc, by rw [List.getElem?_map, hg]; rfl, ⟨en.op, en.of⟩, ?_⟩
  have eu : usd ds - (1 + ((d.fl.map oV).length : Int) + d.bulk) = usd ds - un d := by rw [List.length_map]; rfl
  rw [eu]
  generalize h1 : upd H hp (.ins C_Heap dx (heapF room ca (usd ds - un d) born)) = H1
  generalize h2 : upd H1 ca (.lst ((gs.map cV).set pl.toNat V.non)) = H2
  have k2 : ∀ b o, H b = some o → b ≠ hp → b ≠ ca → H2 b = some o := fun b o h z1 z2 => by rw [← h2, upd_ne z2, ← h1, upd_ne z1]; exact h
  have od2 : H2 du = some (.lst (gs.map eV)) := k2 _ _ j.od j.nhd.symm j.ncd.symm
  have oq2 := k2 _ _ en.oq (ne_tag en.tq j.th (by simp)) (ne_tag en.tq j.tc (by simp))
  walk_at "ev"
  refine i_ixL (SqL.of od2) (atI_int h0 (v := .ref g.q) (by rw [List.getElem?_map, hg]; rfl)) ?_
  walk_at "ev"
  refine i_ixL (SqL.of oq2) (v := .int d.birth) rfl ?_
  walk_at "ev"
  refine ⟨du, _, pl, pl.toNat, rfl, rfl, od2, ixN_int h0 (by rw [List.length_map]; exact hl), ?_⟩
  walk_at "ev"
  refine ⟨_, rfl, ?_⟩
  walk_at "ev"
  rw [decide_eq_true rfl]
  obtain ⟨st, jj⟩ := j.drop (dx := dx) (H' := upd H2 du (.lst ((gs.map eV).set pl.toNat V.non))) w hd (fun b o h z1 z2 z3 => by rw [upd_ne z3]; exact k2 b o h z1 z2) (by rw [upd_ne j.nhd, ← h2, upd_ne j.nhc, ← h1, upd_same]) (by rw [upd_ne j.ncd, ← h2, upd_same]) upd_same
  exact post _ T born _ _ st jj (.inl ⟨cnt_drop _ _, rfl⟩) (by rw [List.length_set]; omega)
theorem deed_set {hp du ca pa : Addr} {room born c b pl : Int} {s : Nat} {T : Tg} {gs : List (Option G4)} {ds : List (Option Cm)} (Tx : TxC K C_Cell C_Heap) (w : WT H T) (j : J C_Cell C_Heap H T s hp ca du room born gs ds) (hm : pl ∈ plc (gs.map eV)) {g : G4} {d : Cm} (h0 : 0 ≤ pl)
    (hg : gs[pl.toNat]? = some (some g)) (hd : ds[pl.toNat]? = some (some d)) (en : En C_Cell H T s pl.toNat g d) (hf : 0 < (d.fl.map oV).length) (hp5 : H pa = some (.lst ((plc (gs.map eV)).map V.int)))
    (h : ∀ H' T' ds', Stp s H H' T T' → J C_Cell C_Heap H' T' s hp ca du room born gs ds' → ds'.length = ds.length → ∀ σ, n σ H') :
    rd__law_deed_i2a K S_mixed ⟨n, Q, bk, ct⟩ [some (.ref hp), some (.int room), some (.ref du), some (.int c), some (.int b), some (.ref pa), some (.int pl), none, none, none, none, none] H := by
  have hne : plc (gs.map eV) ≠ [] := fun z => by rw [z] at hm; cases hm
  obtain ⟨dx, oh⟩ := j.oh
  obtain ⟨dp, op⟩ := en.op
  unfold rd__law_deed_i2a
  walk_at "ev"
  refine ⟨_, _, rfl, by decide, by decide, fun z1 _ => ?_⟩
  walk_at "ev"
  refine i_ixL (SqL.of j.od) (atI_int h0 (v := .ref g.q) (by rw [List.getElem?_map, hg]; rfl)) ?_
  walk_at "ev"
  refine i_ixL (SqL.of en.oq) (v := .ref g.r) rfl ?_
  walk_at "ev"
  refine i_lenL (SqL.of en.or') ?_
  refine i_I (show (0 : Int) < ((d.fl.map oV).length : Int) by omega) ?_
  have a1 := Int.emod_nonneg z1 (show ((d.fl.map oV).length : Int) ≠ 0 by omega)
  have a2 := Int.emod_lt_of_pos z1 (show 0 < ((d.fl.map oV).length : Int) by omega)
  generalize z1 % ((d.fl.map oV).length : Int) = k at a1 a2 ⊢
  walk_at "ev"
  refine ⟨_, _, rfl, by decide, by decide, fun z2 _ => ?_⟩
  walk_at "ev"
  refine i_lenL (SqL.of hp5) ?_
  obtain ⟨b1, x, hx, ex⟩ := pick_in (z := z2) hne
  refine i_I b1 ?_
  walk_at "ev"
  refine i_ixL (SqL.of hp5) ex ?_
  walk_at "ev"
  refine i_fldK oh Tx.cl_Heap Tx.n_Heap_cells heapF_lk_cells ?_
  walk_at "ev"
  refine i_ixL (SqL.of j.oc) (atI_int h0 (v := .ref g.p) (by rw [List.getElem?_map, hg]; rfl)) ?_
  walk_at "ev"
  refine i_fldK op Tx.cl_Cell Tx.n_Cell_fields cellF_lk_fields ?_
  walk_at "ev"
  refine ⟨g.fa, _, k, k.toNat, rfl, rfl, en.of, ixN_int a1 (by omega), ?_⟩
  have nfr : g.fa ≠ g.r := ne_tag en.tf en.tr (by simp)
  walk_at "ev"
  refine i_ixL (SqL.of (a := du) (xs := gs.map eV) ?_) (atI_int h0 (v := .ref g.q) (by rw [List.getElem?_map, hg]; rfl)) ?_
  · rw [upd_ne (ne_tag j.td en.tf (by simp))]; exact j.od
  walk_at "ev"
  refine i_ixL (SqL.of (a := g.q) (xs := [.int d.birth, .int d.bulk, .int d.tone, .int 0, .ref g.r]) ?_) (v := .ref g.r) rfl ?_
  · rw [upd_ne (ne_tag en.tq en.tf (by simp))]; exact en.oq
  walk_at "ev"
  refine ⟨g.r, d.fl.map oV, k, k.toNat, rfl, rfl, ?_, ixN_int a1 (by omega), ?_⟩
  · rw [upd_ne nfr.symm]; exact en.or'
  obtain ⟨st, jj⟩ := j.put1 (k := k.toNat) (x := x) w hg hd en
  exact h _ T _ st jj (List.length_set ..) _
theorem _law_deed_rd {hp du : Addr} {room c b : Int} (Tx : TxC K C_Cell C_Heap) (q : ∃ T s ca born gs ds, WT H T ∧ J C_Cell C_Heap H T s hp ca du room born gs ds ∧ ds.length ≤ 900 ∧ b = born + 1 ∧ PostD C_Cell C_Heap H T s hp ca du room born gs ds Q) :
    rd__law_deed K C_Heap (S_Heap_back C_Cell C_Heap) (S_made C_Cell C_Heap) S_mixed S_places S_whole ⟨n, Q, bk, ct⟩ [some (.ref hp), some (.int room), some (.ref du), some (.int c), some (.int b), none, none, none, none, none, none, none] H := by
  obtain ⟨T, s, ca, born, gs, ds, w, j, hl, rfl, post⟩ := q
  unfold rd__law_deed
  walk_at "ev"
  refine ⟨du, rfl, gs.map eV, j.od, by rw [List.length_map, j.ln]; omega, fun pa hpa => ?_⟩
  have s1 := same_new hpa (.lst ((plc (gs.map eV)).map V.int))
  have g1 : upd H pa (.lst ((plc (gs.map eV)).map V.int)) pa = some (.lst ((plc (gs.map eV)).map V.int)) := upd_same
  generalize upd H pa (.lst ((plc (gs.map eV)).map V.int)) = H1 at s1 g1 ⊢
  have pm : ∀ H', Same H H' → PostD C_Cell C_Heap H' T s hp ca du room born gs ds Q := fun H' s' H2 T2 b2 g2 d2 st jj a1 a2 => post H2 T2 b2 g2 d2 ((Stp.same w s').trans st) jj a1 a2
  have mk : ∀ H', Same H H' → S_made C_Cell C_Heap [.ref hp, .int room, .ref du, .int c, .int (born + 1)] H' Q E0 := fun H' s' => ⟨hp, room, du, c, _, rfl, T, s, ca, born, gs, ds, w.same s', j.same s', hl, rfl, pm H' s'⟩
  walk_at "ev"
  refine ifd (fun z3 => ?_) (fun z3 => ?_)
  · walk_at "ev"
    exact mk H1 s1
  · walk_at "ev"
    refine ⟨by decide, fun l5 hl5 => ?_⟩
    have s5 := same_new hl5 (.lst [])
    have g5 := s5 _ _ g1
    have g6 : upd H1 l5 (.lst []) l5 = some (.lst []) := upd_same
    generalize upd H1 l5 (.lst []) = H5 at s5 g5 g6 ⊢
    have sH := s1.trans s5
    refine i_eqLI (ms := []) (SqL.of g5) (SqL.of g6) ?_
    walk_at "ev"
    refine ifd (fun hB => ?_) (fun hB => ?_)
    · walk_at "ev"
      exact mk H5 sH
    · walk_at "ev"
      refine ⟨_, _, rfl, by decide, by decide, fun z1 _ => ?_⟩
      walk_at "ev"
      refine i_lenL (SqL.of g5) ?_
      obtain ⟨b1, x, hx, ex⟩ := pick_in (z := z1) hB
      refine i_I b1 ?_
      walk_at "ev"
      refine i_ixL (SqL.of g5) ex ?_
      walk_at "ev"
      have j5 := j.same sH
      have w5 := w.same sH
      refine ifd (fun hC => ?_) (fun hC => ?_)
      · exact deed_back Tx w5 j5 hx (pm H5 sH)
      · obtain ⟨h0, g, d, hg, hd, en⟩ := j5.there hx
        unfold rd__law_deed_i1b
        walk_at "ev"
        refine i_ixL (SqL.of j5.od) (atI_int h0 (v := .ref g.q) (by rw [List.getElem?_map, hg]; rfl)) ?_
        walk_at "ev"
        refine i_ixL (SqL.of en.oq) (v := .ref g.r) rfl ?_
        walk_at "ev"
        refine i_lenL (SqL.of en.or') ?_
        walk_at "ev"
        refine ifd (fun hD => ?_) (fun hD => ?_)
        · refine deed_set Tx w5 j5 hx h0 hg hd en (by omega) g5 fun H' T' ds' st jj el σ => ?_
          walk_at "ev"
          exact pm H5 sH H' T' born gs ds' st jj (.inl ⟨Nat.le_refl _, rfl⟩) (by omega)
        · unfold rd__law_deed_i2b
          walk_at "ev"
          exact pm H5 sH H5 T born gs ds (Stp.refl w5) j5 (.inl ⟨Nat.le_refl _, rfl⟩) (by omega)
end
def S_state (CC CH : Addr) : Sp := fun vs H Q E => ∃ hp room du born c, vs = [.ref hp, .int room, .ref du, .int born, .int c] ∧ ∃ T s ca gs ds, J CC CH H T s hp ca du room born gs ds ∧ ds.length ≤ 1000 ∧ ∀ H', Same H H' → Q (.bl true) H'
def S_end (CC CH : Addr) : Sp := fun vs H Q E => ∃ hp du, vs = [.ref hp, .ref du] ∧ ∃ T s ca room born gs ds, J CC CH H T s hp ca du room born gs ds ∧ ds.length ≤ 1000 ∧ ∀ H', Same H H' → Q (.bl true) H'
section
variable {K : PySem.W.Frag} {C_Cell C_Heap C_Full : Addr} {H : Hp} {Q : VK} {E : XK} {n : St → Hp → Prop} {bk ct : St → Hp → Prop}
theorem _law_state_rd {hp du : Addr} {room born c : Int} (Tx : TxC K C_Cell C_Heap) (q : ∃ T s ca gs ds, J C_Cell C_Heap H T s hp ca du room born gs ds ∧ ds.length ≤ 1000 ∧ ∀ H', Same H H' → Q (.bl true) H') :
    rd__law_state K C_Heap (S_Heap_free C_Heap) S_mixed S_used S_whole (S_birth_at C_Cell C_Heap) ⟨n, Q, bk, ct⟩ [some (.ref hp), some (.int room), some (.ref du), some (.int born), some (.int c), none, none, none] H := by
  obtain ⟨T, s, ca, gs, ds, j, hl, h⟩ := q
  obtain ⟨dx, h1⟩ := j.oh
  unfold rd__law_state
  walk_at "ev"
  refine ⟨hp, dx, _, rfl, h1, heapF_no_free, ?_⟩
  walk_at "ev"
  refine ⟨hp, rfl, ca, room, _, born, _, j.hpo, ?_⟩
  walk_at "ev"
  refine i_fldK h1 Tx.cl_Heap Tx.n_Heap_used heapF_lk_used ?_
  walk_at "ev"
  refine ⟨_, rfl, ?_⟩
  walk_at "ev"
  refine ⟨_, rfl, ?_⟩
  walk_at "ev"
  refine i_fldK h1 Tx.cl_Heap Tx.n_Heap_born heapF_lk_born ?_
  walk_at "ev"
  refine ⟨_, rfl, ?_⟩
  walk_at "ev"
  refine i_fldK h1 Tx.cl_Heap Tx.n_Heap_used heapF_lk_used ?_
  walk_at "ev"
  refine ⟨du, rfl, C_Cell, C_Heap, T, s, hp, ca, room, born, gs, ds, j, hl, fun H1 s1 => ?_⟩
  have j1 := j.same s1
  obtain ⟨dx1, h11⟩ := j1.oh
  walk_at "ev"
  refine ifnd (fun z => absurd rfl z) (fun _ => ?_)
  walk_at "ev"
  refine i_fldK h11 Tx.cl_Heap Tx.n_Heap_used heapF_lk_used ?_
  walk_at "ev"
  refine ifnd (fun z => absurd rfl z) (fun _ => ?_)
  walk_at "ev"
  refine i_fldK h11 Tx.cl_Heap Tx.n_Heap_born heapF_lk_born ?_
  walk_at "ev"
  refine ifnd (fun z => absurd rfl z) (fun _ => ?_)
  walk_at "ev"
  refine i_fldK h11 Tx.cl_Heap Tx.n_Heap_cells heapF_lk_cells ?_
  walk_at "ev"
  refine i_lenL (SqL.of j1.oc) ?_
  walk_at "ev"
  refine i_lenL (SqL.of j1.od) ?_
  walk_at "ev"
  rw [List.length_map, List.length_map]
  refine ifnd (fun z => absurd rfl z) (fun _ => ?_)
  walk_at "ev"
  refine ⟨hp, .non, rfl, .inl ⟨rfl, ?_⟩⟩
  walk_at "ev"
  refine ⟨by decide, fun l2 hl2 => ?_⟩
  have s2 := same_new hl2 (.lst [])
  have g2 : upd H1 l2 (.lst []) l2 = some (.lst []) := upd_same
  generalize upd H1 l2 (.lst []) = H2 at s2 g2 ⊢
  have j2 := j1.same s2
  have s02 := s1.trans s2
  refine i_eqL0 (SqL.of j2.od) (SqL.of g2) ?_
  walk_at "ev"
  refine ifd (fun hB => ?_) (fun hB => ?_)
  · walk_at "ev"
    exact h _ s02
  · walk_at "ev"
    refine ⟨_, _, rfl, by decide, by decide, fun z1 _ => ?_⟩
    walk_at "ev"
    refine i_lenL (SqL.of j2.od) ?_
    have hpos : 0 < (gs.map eV).length := List.length_pos_iff.mpr hB
    refine i_I (show (0 : Int) < ((gs.map eV).length : Int) by omega) ?_
    have a1 := Int.emod_nonneg z1 (show ((gs.map eV).length : Int) ≠ 0 by omega)
    have a2 := Int.emod_lt_of_pos z1 (show 0 < ((gs.map eV).length : Int) by omega)
    generalize z1 % ((gs.map eV).length : Int) = k at a1 a2 ⊢
    rw [List.length_map, j.ln] at a2
    have hk : k.toNat < ds.length := by omega
    walk_at "ev"
    cases hd : ds[k.toNat] with
    | none =>
      have hg := j2.at0 (i := k.toNat) (by rw [List.getElem?_eq_getElem hk, hd])
      refine ⟨hp, .int k, rfl, .inr ⟨k, ca, room, _, born, _, rfl, j2.hpo, a1, .inl ⟨by rw [List.getElem?_map, hg]; rfl, ?_⟩⟩⟩
      walk_at "ev"
      refine i_ixL (SqL.of j2.od) (atI_int a1 (v := .non) (by rw [List.getElem?_map, hg]; rfl)) ?_
      walk_at "ev"
      exact h _ s02
    | some d =>
      obtain ⟨g, hg, en⟩ := j2.at (i := k.toNat) (c := d) (by rw [List.getElem?_eq_getElem hk, hd])
      refine ⟨hp, .int k, rfl, .inr ⟨k, ca, room, _, born, _, rfl, j2.hpo, a1, .inr ⟨g.p, g.fa, d.birth, d.bulk, d.tone, 0, _, by rw [List.getElem?_map, hg]; rfl, ⟨en.op, en.of⟩, ?_⟩⟩⟩
      walk_at "ev"
      refine i_ixL (SqL.of j2.od) (atI_int a1 (v := .ref g.q) (by rw [List.getElem?_map, hg]; rfl)) ?_
      walk_at "ev"
      refine ⟨_, rfl, ?_⟩
      walk_at "ev"
      refine i_ixL (SqL.of j2.od) (atI_int a1 (v := .ref g.q) (by rw [List.getElem?_map, hg]; rfl)) ?_
      walk_at "ev"
      refine i_ixL (SqL.of en.oq) (v := .int d.birth) rfl ?_
      walk_at "ev"
      rw [decide_eq_true rfl]
      exact h _ s02
theorem _law_end_rd {hp du : Addr} (Tx : TxC K C_Cell C_Heap) (q : ∃ T s ca room born gs ds, J C_Cell C_Heap H T s hp ca du room born gs ds ∧ ds.length ≤ 1000 ∧ ∀ H', Same H H' → Q (.bl true) H') :
    rd__law_end K C_Cell (S_Cell_units C_Cell) S_whole (S_birth_at C_Cell C_Heap) ⟨n, Q, bk, ct⟩ [some (.ref hp), some (.ref du), none, none, none, none] H := by
  obtain ⟨T, s, ca, room, born, gs, ds, j, hl, h⟩ := q
  have el : (gs.map eV).length = ds.length := by rw [List.length_map]; exact j.ln
  unfold rd__law_end
  walk_at "ev"
  refine i_lenL (SqL.of j.od) ?_
  walk_at "ev"
  refine ⟨_, rfl, by omega, by omega, ?_⟩
  have ek : ((gs.map eV).length : Int).toNat = ds.length := by omega
  rw [ek]
  refine forR (fun _ σ Hx => ∃ v2 v3 v4 v5, σ = [some (.ref hp), some (.ref du), v2, v3, v4, v5] ∧ Same H Hx) ⟨_, _, _, _, rfl, Same.refl _⟩ ?_ ?_
  · rintro i σ H1 hi ⟨v2, v3, v4, v5, rfl, s1⟩
    have e0 : (0 : Int) + (i : Int) = i := by omega
    rw [e0]
    have j1 := j.same s1
    obtain ⟨dx, h1⟩ := j1.oh
    walk_at "ev"
    refine i_fldK h1 Tx.cl_Heap Tx.n_Heap_cells heapF_lk_cells ?_
    walk_at "ev"
    cases hd : ds[i] with
    | none =>
      have hg := j1.at0 (i := i) (by rw [List.getElem?_eq_getElem hi, hd])
      refine i_ixL (SqL.of j1.oc) (atI_nat (v := .non) (by rw [List.getElem?_map, hg]; rfl)) ?_
      walk_at "ev"
      refine i_ixL (SqL.of j1.od) (atI_nat (v := .non) (by rw [List.getElem?_map, hg]; rfl)) ?_
      walk_at "ev"
      refine ⟨hp, .int i, rfl, .inr ⟨i, ca, room, _, born, _, rfl, j1.hpo, by omega, .inl ⟨by rw [Int.toNat_natCast, List.getElem?_map, hg]; rfl, ?_⟩⟩⟩
      walk_at "ev"
      exact ⟨_, _, _, _, rfl, s1⟩
    | some d =>
      obtain ⟨g, hg, en⟩ := j1.at (i := i) (c := d) (by rw [List.getElem?_eq_getElem hi, hd])
      obtain ⟨dp, op⟩ := en.op
      refine i_ixL (SqL.of j1.oc) (atI_nat (v := .ref g.p) (by rw [List.getElem?_map, hg]; rfl)) ?_
      walk_at "ev"
      refine i_ixL (SqL.of j1.od) (atI_nat (v := .ref g.q) (by rw [List.getElem?_map, hg]; rfl)) ?_
      walk_at "ev"
      refine i_fldK op Tx.cl_Cell Tx.n_Cell_birth cellF_lk_birth ?_
      walk_at "ev"
      refine i_fldK op Tx.cl_Cell Tx.n_Cell_bulk cellF_lk_bulk ?_
      walk_at "ev"
      refine i_fldK op Tx.cl_Cell Tx.n_Cell_tone cellF_lk_tone ?_
      walk_at "ev"
      refine i_fldK op Tx.cl_Cell Tx.n_Cell_load cellF_lk_load ?_
      walk_at "ev"
      refine ⟨len_ok (by simp), fun t ht => ?_⟩
      have s2 := same_new ht (.lst [V.int d.birth, V.int d.bulk, V.int d.tone, V.int 0])
      have g2 : upd H1 t (.lst [V.int d.birth, V.int d.bulk, V.int d.tone, V.int 0]) t = some (.lst [V.int d.birth, V.int d.bulk, V.int d.tone, V.int 0]) := upd_same
      generalize upd H1 t (.lst [V.int d.birth, V.int d.bulk, V.int d.tone, V.int 0]) = H2 at s2 g2 ⊢
      have j2 := j1.same s2
      have en2 := en.mv (H' := H2) (T' := T) (fun b o h _ => s2 _ _ h) fun _ _ _ => rfl
      walk_at "ev"
      refine ⟨g.p, dp, _, rfl, s2 _ _ op, cellF_no_units, ?_⟩
      walk_at "ev"
      refine ⟨g.p, rfl, g.fa, _, _, _, _, _, ⟨⟨dp, s2 _ _ op⟩, en2.of⟩, ?_⟩
      walk_at "ev"
      refine ⟨hp, .int i, rfl, .inr ⟨i, ca, room, _, born, _, rfl, j2.hpo, by omega, .inr ⟨g.p, g.fa, d.birth, d.bulk, d.tone, 0, _, by rw [Int.toNat_natCast, List.getElem?_map, hg]; rfl, ⟨en2.op, en2.of⟩, ?_⟩⟩⟩
      walk_at "ev"
      refine ⟨len_ok (by simp), fun t3 ht3 => ?_⟩
      generalize hu : (1 + ((d.fl.map oV).length : Int) + d.bulk) = u
      have s3 := same_new ht3 (.lst [V.int u, V.int d.birth])
      have g3 : upd H2 t3 (.lst [V.int u, V.int d.birth]) t3 = some (.lst [V.int u, V.int d.birth]) := upd_same
      generalize upd H2 t3 (.lst [V.int u, V.int d.birth]) = H3 at s3 g3 ⊢
      walk_at "ev"
      refine ⟨t, t3, _, _, rfl, rfl, s3 _ _ g2, g3, len_ok (by simp), fun t4 ht4 => ?_⟩
      have e4 : ([V.int d.birth, V.int d.bulk, V.int d.tone, V.int 0] ++ [V.int u, V.int d.birth]) = ([d.birth, d.bulk, d.tone, 0, u, d.birth] : List Int).map V.int := rfl
      rw [e4]
      generalize ([d.birth, d.bulk, d.tone, 0, u, d.birth] : List Int) = us
      have s4 := same_new ht4 (.lst (us.map V.int))
      have g4 : upd H3 t4 (.lst (us.map V.int)) t4 = some (.lst (us.map V.int)) := upd_same
      generalize upd H3 t4 (.lst (us.map V.int)) = H4 at s4 g4 ⊢
      have s24 : Same H2 H4 := s3.trans s4
      have s04 : Same H H4 := s1.trans (s2.trans s24)
      have j4 := j.same s04
      have en4 := en2.mv (H' := H4) (T' := T) (fun b o h _ => s24 _ _ h) fun _ _ _ => rfl
      obtain ⟨dp4, op4⟩ := en4.op
      have g4t := s24 _ _ g2
      refine ⟨t4, rfl, ⟨_, SqL.of g4⟩, forL (us.map V.int) (fun _ σ Hx => ∃ v5, σ = [some (.ref hp), some (.ref du), some (.int i), some (.ref g.p), some (.ref t), v5] ∧ Hx = H4) ⟨_, rfl, rfl⟩ (fun i σ Hx _ ⟨_, _, e⟩ => by rw [e]; exact SqL.of g4) ?_ ?_⟩
      · rintro k x σ Hx hk ⟨v5, rfl, rfl⟩
        obtain ⟨z, _, rfl⟩ := List.mem_map.mp (List.mem_of_getElem? hk)
        walk_at "ev"
        refine ⟨_, rfl, ?_⟩
        walk_at "ev"
        exact ⟨_, rfl, rfl⟩
      · rintro σ Hx ⟨v5, rfl, rfl⟩
        walk_at "ev"
        refine i_ixL (SqL.of j4.od) (atI_nat (v := .ref g.q) (by rw [List.getElem?_map, hg]; rfl)) ?_
        walk_at "ev"
        refine ⟨g.q, _, rfl, SqL.of en4.oq, fun t5 ht5 => ?_⟩
        have e5 : cutV [V.int d.birth, V.int d.bulk, V.int d.tone, V.int 0, V.ref g.r] none (some 4) = [V.int d.birth, V.int d.bulk, V.int d.tone, V.int 0] := rfl
        rw [e5]
        have s5 := same_new ht5 (.lst [V.int d.birth, V.int d.bulk, V.int d.tone, V.int 0])
        have g5 : upd Hx t5 (.lst [V.int d.birth, V.int d.bulk, V.int d.tone, V.int 0]) t5 = some (.lst [V.int d.birth, V.int d.bulk, V.int d.tone, V.int 0]) := upd_same
        generalize upd Hx t5 (.lst [V.int d.birth, V.int d.bulk, V.int d.tone, V.int 0]) = H5 at s5 g5 ⊢
        have j5 := j4.same s5
        have en5 := en4.mv (H' := H5) (T' := T) (fun b o h _ => s5 _ _ h) fun _ _ _ => rfl
        have op5 := s5 _ _ op4
        refine i_neLs (SqL.of (s5 _ _ g4t)) (SqL.of g5) rfl ?_
        walk_at "ev"
        refine i_fldK op5 Tx.cl_Cell Tx.n_Cell_fields cellF_lk_fields ?_
        walk_at "ev"
        refine i_isiL_list en5.of ?_
        walk_at "ev"
        refine i_fldK op5 Tx.cl_Cell Tx.n_Cell_fields cellF_lk_fields ?_
        walk_at "ev"
        refine i_ixL (SqL.of j5.od) (atI_nat (v := .ref g.q) (by rw [List.getElem?_map, hg]; rfl)) ?_
        walk_at "ev"
        refine i_ixL (SqL.of en5.oq) (v := .ref g.r) rfl ?_
        refine i_neLs (SqL.of en5.of) (SqL.of en5.or') (flat_oV _) ?_
        walk_at "ev"
        refine ⟨g.p, dp4, _, rfl, op5, cellF_no_units, ?_⟩
        walk_at "ev"
        refine ⟨g.p, rfl, g.fa, _, _, _, _, _, ⟨⟨dp4, op5⟩, en5.of⟩, ?_⟩
        walk_at "ev"
        refine i_ixL (SqL.of j5.od) (atI_nat (v := .ref g.q) (by rw [List.getElem?_map, hg]; rfl)) ?_
        walk_at "ev"
        refine i_ixL (SqL.of en5.oq) (v := .ref g.r) rfl ?_
        walk_at "ev"
        refine i_lenL (SqL.of en5.or') ?_
        walk_at "ev"
        refine i_ixL (SqL.of j5.od) (atI_nat (v := .ref g.q) (by rw [List.getElem?_map, hg]; rfl)) ?_
        walk_at "ev"
        refine i_ixL (SqL.of en5.oq) (v := .int d.bulk) rfl ?_
        walk_at "ev"
        refine ifnd (fun z => absurd rfl z) (fun _ => ?_)
        walk_at "ev"
        refine ⟨hp, .int i, rfl, .inr ⟨i, ca, room, _, born, _, rfl, j5.hpo, by omega, .inr ⟨g.p, g.fa, d.birth, d.bulk, d.tone, 0, _, by rw [Int.toNat_natCast, List.getElem?_map, hg]; rfl, ⟨en5.op, en5.of⟩, ?_⟩⟩⟩
        walk_at "ev"
        refine i_ixL (SqL.of j5.od) (atI_nat (v := .ref g.q) (by rw [List.getElem?_map, hg]; rfl)) ?_
        walk_at "ev"
        refine i_ixL (SqL.of en5.oq) (v := .int d.birth) rfl ?_
        walk_at "ev"
        refine ifnd (fun z => absurd rfl z) (fun _ => ?_)
        walk_at "ev"
        exact ⟨_, _, _, _, rfl, s04.trans s5⟩
  · rintro σ Hx ⟨v2, v3, v4, v5, rfl, s1⟩
    walk_at "ev"
    exact h _ s1
end
def S_law (K : PySem.W.Frag) : Sp := fun vs H Q E => ∃ a, vs = [.ref a] ∧ ∃ ns : List Int, SqL K H a (ns.map V.int) ∧ ns.length ≤ 63 ∧ ∀ H', Q (.bl true) H'
def Kp (H : Hp) (T : Tg) (e : Addr) : Prop := ∃ (x y : Addr) (ns : List Int), T e = (0, 0) ∧ T x = (0, 0) ∧ T y = (0, 0) ∧ H e = some (.lst [.ref x, .ref y]) ∧ H x = some (.lst (ns.map V.int)) ∧ H y = some (.lst (ns.map V.int))
theorem Kp.mv {H H' : Hp} {T T' : Tg} {e : Addr} (k : Kp H T e) (hh : ∀ b o, H b = some o → T b = (0, 0) → H' b = some o) (ht : ∀ b o, H b = some o → T' b = T b) : Kp H' T' e := by
  obtain ⟨x, y, ns, a1, a2, a3, b1, b2, b3⟩ := k
  exact ⟨x, y, ns, (ht _ _ b1).trans a1, (ht _ _ b2).trans a2, (ht _ _ b3).trans a3, hh _ _ b1 a1, hh _ _ b2 a2, hh _ _ b3 a3⟩
theorem plc_len (es : List V) : (plc es).length ≤ es.length := by
  unfold plc
  rw [List.length_map]
  exact Nat.le_trans (List.length_filter_le _ _) (by rw [List.length_range]; exact Nat.le_refl _)
def Tk (H : Hp) (T : Tg) (L : List (Addr × (Nat × Nat))) : Prop := ∀ p ∈ L, (∃ o, H p.1 = some o) ∧ T p.1 = p.2
theorem Tk.same {H H' : Hp} {T : Tg} {L : List (Addr × (Nat × Nat))} (t : Tk H T L) (s : Same H H') : Tk H' T L := fun p hp => by
  obtain ⟨⟨o, h1⟩, h2⟩ := t p hp
  exact ⟨⟨o, s _ _ h1⟩, h2⟩
theorem Tk.new {H H' : Hp} {T : Tg} {L : List (Addr × (Nat × Nat))} {a : Addr} {v : Nat × Nat} {o : HO} (t : Tk H T L) (w : WT H T) (s : Same H H') (hn : H a = none) (ha : H' a = some o) : Tk H' (setT T a v) ((a, v) :: L) ∧ WT H' (setT T a v) := by
  refine ⟨fun p hp => ?_, fun b hb => ?_⟩
  · rcases List.mem_cons.mp hp with e | e
    · subst e
      exact ⟨⟨o, ha⟩, setT_same⟩
    · obtain ⟨⟨u, h1⟩, h2⟩ := t p e
      exact ⟨⟨u, s _ _ h1⟩, by rw [setT_ne (ne_of_none h1 hn)]; exact h2⟩
  · have n1 : b ≠ a := fun e => by rw [e, ha] at hb; cases hb
    rw [setT_ne n1]
    exact w b (s.free hb)
theorem Tk.new2 {H H' : Hp} {T : Tg} {L : List (Addr × (Nat × Nat))} {a b : Addr} {v u : Nat × Nat} {o o' : HO} (t : Tk H T L) (w : WT H T) (s : Same H H') (hn : H a = none) (ha : H' a = some o) (hn' : H b = none) (hb : H' b = some o') (nab : a ≠ b) :
    Tk H' (setT (setT T a v) b u) ((b, u) :: (a, v) :: L) ∧ WT H' (setT (setT T a v) b u) := by
  refine ⟨fun p hp => ?_, fun x hx => ?_⟩
  · rcases List.mem_cons.mp hp with e | e
    · subst e
      exact ⟨⟨o', hb⟩, setT_same⟩
    · rcases List.mem_cons.mp e with e | e
      · subst e
        exact ⟨⟨o, ha⟩, by rw [setT_ne nab, setT_same]⟩
      · obtain ⟨⟨u, h1⟩, h2⟩ := t p e
        exact ⟨⟨u, s _ _ h1⟩, by rw [setT_ne (ne_of_none h1 hn'), setT_ne (ne_of_none h1 hn)]; exact h2⟩
  · have n1 : x ≠ a := fun e => by rw [e, ha] at hx; cases hx
    have n2 : x ≠ b := fun e => by rw [e, hb] at hx; cases hx
    rw [setT_ne n2, setT_ne n1]
    exact w x (s.free hx)
structure Sd where
  hp : Addr
  ca : Addr
  du : Addr
  room : Int
  born : Int
  gs : List (Option G4)
  ds : List (Option Cm)
structure Lw (CC CH : Addr) (H : Hp) (T : Tg) (src lr lh ld lb lk : Addr) (zs : List Int) (A B : Sd) (ks : List Addr) (k : Nat) : Prop where
  w : WT H T
  ja : J CC CH H T 1 A.hp A.ca A.du A.room A.born A.gs A.ds
  jb : J CC CH H T 2 B.hp B.ca B.du B.room B.born B.gs B.ds
  ts : T src = (0, 0)
  tr : T lr = (0, 0)
  th : T lh = (0, 0)
  td : T ld = (0, 0)
  tb : T lb = (0, 1)
  tk : T lk = (0, 2)
  os : H src = some (.lst (zs.map V.int))
  or' : H lr = some (.lst [.int A.room, .int B.room])
  oh : H lh = some (.lst [.ref A.hp, .ref B.hp])
  od : H ld = some (.lst [.ref A.du, .ref B.du])
  ob : H lb = some (.lst [.int A.born, .int B.born])
  ok : H lk = some (.lst (ks.map V.ref))
  kp : ∀ e ∈ ks, Kp H T e
  la : A.ds.length ≤ k
  lb' : B.ds.length ≤ k
  lk' : ks.length ≤ k
section
variable {CC CH : Addr} {H H' : Hp} {T T' : Tg} {src lr lh ld lb lk e : Addr} {zs : List Int} {A B : Sd} {ks : List Addr} {k : Nat} {born' : Int} {gs' : List (Option G4)} {ds' : List (Option Cm)}
theorem Lw.same (l : Lw CC CH H T src lr lh ld lb lk zs A B ks k) (s : Same H H') : Lw CC CH H' T src lr lh ld lb lk zs A B ks k := by
  obtain ⟨w, ja, jb, ts, tr, th, td, tb, tk, os, or', oh, od, ob, ok, kp, la, lb', lk'⟩ := l
  exact ⟨w.same s, ja.same s, jb.same s, ts, tr, th, td, tb, tk, s _ _ os, s _ _ or', s _ _ oh, s _ _ od, s _ _ ob, s _ _ ok, fun e he => (kp e he).mv (fun b o h _ => s _ _ h) fun _ _ _ => rfl, la, lb', lk'⟩
theorem Lw.stepA (l : Lw CC CH H T src lr lh ld lb lk zs A B ks k) (w' : WT H' T') (kp : ∀ b o, H b = some o → (T b).1 ≠ 1 → b ≠ lb → b ≠ lk → H' b = some o) (tg : ∀ b o, H b = some o → T' b = T b)
    (j' : J CC CH H' T' 1 A.hp A.ca A.du A.room born' gs' ds') (ob' : H' lb = some (.lst [.int born', .int B.born])) (ok' : H' lk = some (.lst (ks.map V.ref ++ [.ref e]))) (ke : Kp H' T' e) (hl : ds'.length ≤ A.ds.length + 1) :
    Lw CC CH H' T' src lr lh ld lb lk zs ⟨A.hp, A.ca, A.du, A.room, born', gs', ds'⟩ B (ks ++ [e]) (k + 1) := by
  obtain ⟨w, ja, jb, ts, tr, th, td, tb, tk, os, or', oh, od, ob, ok, kk, la, lb', lk'⟩ := l
  have k0 : ∀ b o, H b = some o → T b = (0, 0) → H' b = some o := fun b o h t => kp b o h (by rw [t]; decide) (ne_tag t tb (by decide)) (ne_tag t tk (by decide))
  have k2 : ∀ b o, H b = some o → (T b).1 = 2 → H' b = some o := fun b o h t => kp b o h (by rw [t]; decide) (fun z => by rw [z, tb] at t; exact absurd t (by decide)) (fun z => by rw [z, tk] at t; exact absurd t (by decide))
  refine ⟨w', j', jb.mv k2 tg, (tg _ _ os).trans ts, (tg _ _ or').trans tr, (tg _ _ oh).trans th, (tg _ _ od).trans td, (tg _ _ ob).trans tb, (tg _ _ ok).trans tk, k0 _ _ os ts, k0 _ _ or' tr, k0 _ _ oh th, k0 _ _ od td, ob', by rw [List.map_append]; exact ok', fun x hx => ?_, by show ds'.length ≤ _; omega, by omega, by rw [List.length_append, List.length_singleton]; omega⟩
  rcases List.mem_append.mp hx with z | z
  · exact (kk x z).mv k0 tg
  · rw [List.mem_singleton.mp z]; exact ke
theorem Lw.stepB (l : Lw CC CH H T src lr lh ld lb lk zs A B ks k) (w' : WT H' T') (kp : ∀ b o, H b = some o → (T b).1 ≠ 2 → b ≠ lb → b ≠ lk → H' b = some o) (tg : ∀ b o, H b = some o → T' b = T b)
    (j' : J CC CH H' T' 2 B.hp B.ca B.du B.room born' gs' ds') (ob' : H' lb = some (.lst [.int A.born, .int born'])) (ok' : H' lk = some (.lst (ks.map V.ref ++ [.ref e]))) (ke : Kp H' T' e) (hl : ds'.length ≤ B.ds.length + 1) :
    Lw CC CH H' T' src lr lh ld lb lk zs A ⟨B.hp, B.ca, B.du, B.room, born', gs', ds'⟩ (ks ++ [e]) (k + 1) := by
  obtain ⟨w, ja, jb, ts, tr, th, td, tb, tk, os, or', oh, od, ob, ok, kk, la, lb', lk'⟩ := l
  have k0 : ∀ b o, H b = some o → T b = (0, 0) → H' b = some o := fun b o h t => kp b o h (by rw [t]; decide) (ne_tag t tb (by decide)) (ne_tag t tk (by decide))
  have k2 : ∀ b o, H b = some o → (T b).1 = 1 → H' b = some o := fun b o h t => kp b o h (by rw [t]; decide) (fun z => by rw [z, tb] at t; exact absurd t (by decide)) (fun z => by rw [z, tk] at t; exact absurd t (by decide))
  refine ⟨w', ja.mv k2 tg, j', (tg _ _ os).trans ts, (tg _ _ or').trans tr, (tg _ _ oh).trans th, (tg _ _ od).trans td, (tg _ _ ob).trans tb, (tg _ _ ok).trans tk, k0 _ _ os ts, k0 _ _ or' tr, k0 _ _ oh th, k0 _ _ od td, ob', by rw [List.map_append]; exact ok', fun x hx => ?_, by omega, by show ds'.length ≤ _; omega, by rw [List.length_append, List.length_singleton]; omega⟩
  rcases List.mem_append.mp hx with z | z
  · exact (kk x z).mv k0 tg
  · rw [List.mem_singleton.mp z]; exact ke
end
section
variable {K : PySem.W.Frag} {C_Cell C_Heap C_Full : Addr} {H : Hp} {Q : VK} {E : XK} {n : St → Hp → Prop} {bk ct : St → Hp → Prop} {sp : Sp} {v0 v1 v2 v3 v4 v5 v6 v7 v8 v9 v10 v11 v12 : Option V}
theorem law8 {lh hp ca du : Addr} {T : Tg} {s : Nat} {room born x : Int} {gs : List (Option G4)} {ds : List (Option Cm)} {hL : List V} (j : J C_Cell C_Heap H T s hp ca du room born gs ds) (hl : ds.length ≤ 1000) (oh : H lh = some (.lst hL)) (ah : atI hL x = some (.ref hp))
    (h : ∀ H' v11, Same H H' → rd_law_t1_12 K sp ⟨n, Q, bk, ct⟩ [v0, v1, some (.ref lh), v3, v4, v5, v6, some (.int x), some (.ref du), v9, v10, v11, v12] H') :
    rd_law_t1_8 K C_Heap (S_Heap_there C_Heap) S_places sp ⟨n, Q, bk, ct⟩ [v0, v1, some (.ref lh), v3, v4, v5, v6, some (.int x), some (.ref du), v9, v10, v11, v12] H := by
  obtain ⟨dx, h1⟩ := j.oh
  have l1 : (gs.map cV).length ≤ 1000 := by rw [List.length_map, j.ln]; exact hl
  have l2 : (gs.map eV).length ≤ 1000 := by rw [List.length_map, j.ln]; exact hl
  unfold rd_law_t1_8
  walk_at "ev"
  refine i_ixL (SqL.of oh) ah ?_
  refine ⟨hp, dx, _, rfl, h1, heapF_no_there, ?_⟩
  walk_at "ev"
  refine ⟨hp, rfl, ca, room, _, born, _, j.hpo, l1, fun l hn => ?_⟩
  walk_at "ev"
  refine ⟨.inl ⟨rfl, _, SqL.of upd_same⟩, ?_⟩
  refine ⟨l, _, rfl, rfl, upd_same, ?_⟩
  rw [upd_upd]
  walk_at "ev"
  refine ⟨.inl ⟨rfl, _, SqL.of upd_same⟩, ?_⟩
  walk_at "ev"
  refine ⟨l, _, _, rfl, rfl, upd_same, ?_, ?_⟩
  · rw [List.length_reverse, List.length_map]
    exact Nat.lt_of_le_of_lt (Nat.le_trans (plc_len _) l1) (by decide)
  rw [upd_upd]
  generalize hx : ((plc (gs.map cV)).map V.int).reverse ++ [V.int 7] = xs
  have s1 := same_new hn (.lst xs)
  generalize upd H l (.lst xs) = H1 at s1 ⊢
  have j1 := j.same s1
  walk_at "ev"
  refine i_ixL (SqL.of (s1 _ _ oh)) ah ?_
  refine ⟨hp, dx, _, rfl, s1 _ _ h1, heapF_no_there, ?_⟩
  walk_at "ev"
  refine ⟨hp, rfl, ca, room, _, born, _, j1.hpo, l1, fun l3 hn3 => ?_⟩
  have s2 := same_new hn3 (.lst ((plc (gs.map cV)).map V.int))
  have g2 : upd H1 l3 (.lst ((plc (gs.map cV)).map V.int)) l3 = some (.lst ((plc (gs.map cV)).map V.int)) := upd_same
  generalize upd H1 l3 (.lst ((plc (gs.map cV)).map V.int)) = H2 at s2 g2 ⊢
  have j2 := j1.same s2
  walk_at "ev"
  refine ⟨du, rfl, _, j2.od, l2, fun l4 hn4 => ?_⟩
  have s3 := same_new hn4 (.lst ((plc (gs.map eV)).map V.int))
  have g3 : upd H2 l4 (.lst ((plc (gs.map eV)).map V.int)) l4 = some (.lst ((plc (gs.map eV)).map V.int)) := upd_same
  generalize upd H2 l4 (.lst ((plc (gs.map eV)).map V.int)) = H3 at s3 g3 ⊢
  refine i_neLI (SqL.of (s3 _ _ g2)) (SqL.of g3) ?_
  walk_at "ev"
  refine ifnd (fun z => absurd (plc_map cV_non eV_non gs) z) (fun _ => ?_)
  walk_at "ev"
  exact h H3 _ (s1.trans (s2.trans s3))
theorem law5 {lh lk hp ca du : Addr} {T : Tg} {s : Nat} {room born x : Int} {gs : List (Option G4)} {ds : List (Option Cm)} {hL kL : List V} (hs : s ≠ 0) (w : WT H T) (j : J C_Cell C_Heap H T s hp ca du room born gs ds) (hl : ds.length ≤ 1000) (th : T lh = (0, 0)) (oh : H lh = some (.lst hL)) (ah : atI hL x = some (.ref hp))
    (tk : T lk = (0, 2)) (ok : H lk = some (.lst kL)) (hk : kL.length ≤ 1000)
    (h : ∀ H' e v10 v11, WT H' T → (∀ b o, H b = some o → b ≠ lk → H' b = some o) → H' lk = some (.lst (kL ++ [.ref e])) → Kp H' T e → rd_law_t1_12 K sp ⟨n, Q, bk, ct⟩ [v0, v1, some (.ref lh), v3, v4, some (.ref lk), v6, some (.int x), some (.ref du), v9, v10, v11, v12] H') :
    rd_law_t1_5 K C_Heap (S_Heap_there C_Heap) S_places sp ⟨n, Q, bk, ct⟩ [v0, v1, some (.ref lh), v3, v4, some (.ref lk), v6, some (.int x), some (.ref du), v9, v10, v11, v12] H := by
  obtain ⟨dx, h1⟩ := j.oh
  have l1 : (gs.map cV).length ≤ 1000 := by rw [List.length_map, j.ln]; exact hl
  have l2 : (gs.map eV).length ≤ 1000 := by rw [List.length_map, j.ln]; exact hl
  unfold rd_law_t1_5
  walk_at "ev"
  refine i_ixL (SqL.of oh) ah ?_
  refine ⟨hp, dx, _, rfl, h1, heapF_no_there, ?_⟩
  walk_at "ev"
  refine ⟨hp, rfl, ca, room, _, born, _, j.hpo, l1, fun a1 hn1 => ?_⟩
  have ta1 := w _ hn1
  have s1 := same_new hn1 (.lst ((plc (gs.map cV)).map V.int))
  have g1 : upd H a1 (.lst ((plc (gs.map cV)).map V.int)) a1 = some (.lst ((plc (gs.map cV)).map V.int)) := upd_same
  generalize upd H a1 (.lst ((plc (gs.map cV)).map V.int)) = H1 at s1 g1 ⊢
  have j1 := j.same s1
  have w1 := w.same s1
  walk_at "ev"
  refine i_isiL_list g1 ?_
  walk_at "ev"
  refine ⟨du, rfl, _, j1.od, l2, fun a2 hn2 => ?_⟩
  have s2 := same_new hn2 (.lst ((plc (gs.map eV)).map V.int))
  have g2 : upd H1 a2 (.lst ((plc (gs.map eV)).map V.int)) a2 = some (.lst ((plc (gs.map eV)).map V.int)) := upd_same
  generalize upd H1 a2 (.lst ((plc (gs.map eV)).map V.int)) = H2 at s2 g2 ⊢
  have j2 := j1.same s2
  have w2 := w1.same s2
  refine i_neLI (SqL.of (s2 _ _ g1)) (SqL.of g2) ?_
  walk_at "ev"
  refine ifnd (fun z => absurd (plc_map cV_non eV_non gs) z) (fun _ => ?_)
  walk_at "ev"
  refine ⟨.inl ⟨rfl, _, SqL.of (s2 _ _ (s1 _ _ ok))⟩, ?_⟩
  walk_at "ev"
  refine i_listL (SqL.of (s2 _ _ g1)) fun a3 hn3 => ?_
  have ta3 := w2 _ hn3
  have s3 := same_new hn3 (.lst ((plc (gs.map cV)).map V.int))
  have g3 : upd H2 a3 (.lst ((plc (gs.map cV)).map V.int)) a3 = some (.lst ((plc (gs.map cV)).map V.int)) := upd_same
  generalize upd H2 a3 (.lst ((plc (gs.map cV)).map V.int)) = H3 at s3 g3 ⊢
  have w3 := w2.same s3
  walk_at "ev"
  refine ⟨len_ok (by simp), fun e hn4 => ?_⟩
  have te := w3 _ hn4
  have s4 := same_new hn4 (.lst [.ref a1, .ref a3])
  have g4 : upd H3 e (.lst [.ref a1, .ref a3]) e = some (.lst [.ref a1, .ref a3]) := upd_same
  generalize upd H3 e (.lst [.ref a1, .ref a3]) = H4 at s4 g4 ⊢
  have w4 := w3.same s4
  have s04 : Same H H4 := s1.trans (s2.trans (s3.trans s4))
  walk_at "ev"
  have ok4 := s04 _ _ ok
  refine ⟨lk, kL, _, rfl, rfl, ok4, Nat.lt_of_le_of_lt hk (by decide), ?_⟩
  have k5 : ∀ b o, H4 b = some o → b ≠ lk → upd H4 lk (.lst (kL ++ [.ref e])) b = some o := fun b o z nb => by rw [upd_ne nb]; exact z
  have g5 : upd H4 lk (.lst (kL ++ [.ref e])) lk = some (.lst (kL ++ [.ref e])) := upd_same
  have w5 : WT (upd H4 lk (.lst (kL ++ [.ref e]))) T := fun b hb => w4 b (by
    by_cases z : b = lk
    · rw [z, g5] at hb; cases hb
    · rw [upd_ne z] at hb; exact hb)
  generalize upd H4 lk (.lst (kL ++ [.ref e])) = H5 at k5 g5 w5 ⊢
  have j5 : J C_Cell C_Heap H5 T s hp ca du room born gs ds := (j.same s04).mv (fun b o z t => k5 b o z (fun y => hs (by rw [y, tk] at t; exact t.symm))) fun _ _ _ => rfl
  have nk : ∀ b, T b = (0, 0) → b ≠ lk := fun b t => ne_tag t tk (by decide)
  walk_at "ev"
  refine law8 j5 hl (k5 _ _ (s04 _ _ oh) (nk _ th)) ah fun H6 v11 s6 => ?_
  refine h H6 e _ _ (w5.same s6) (fun b o z nb => s6 _ _ (k5 _ _ (s04 _ _ z) nb)) (s6 _ _ g5) ?_
  exact ⟨a1, a3, plc (gs.map cV), te, ta1, ta3, s6 _ _ (k5 _ _ g4 (nk _ te)), s6 _ _ (k5 _ _ (s4 _ _ (s3 _ _ (s2 _ _ g1))) (nk _ ta1)), s6 _ _ (k5 _ _ (s4 _ _ g3) (nk _ ta3))⟩
theorem law4 {lh lb lk hp ca du : Addr} {T : Tg} {s xi c0 : Nat} {room born0 born x : Int} {gs : List (Option G4)} {ds : List (Option Cm)} {hL bL kL : List V} (hs : s ≠ 0) (w : WT H T) (j : J C_Cell C_Heap H T s hp ca du room born gs ds) (hl : ds.length ≤ 1000) (th : T lh = (0, 0)) (oh : H lh = some (.lst hL)) (ah : atI hL x = some (.ref hp))
    (tb : T lb = (0, 1)) (ob : H lb = some (.lst bL)) (ab : atI bL x = some (.int born0)) (ix : ixN bL.length x = some xi) (sb : bL.set xi (.int born0) = bL)
    (tk : T lk = (0, 2)) (ok : H lk = some (.lst kL)) (hk : kL.length ≤ 1000) (hc : (cnt gs ≤ c0 ∧ born = born0) ∨ (c0 < cnt gs ∧ born = born0 + 1))
    (h : ∀ H' e v10 v11, WT H' T → (∀ b o, H b = some o → b ≠ lb → b ≠ lk → H' b = some o) → J C_Cell C_Heap H' T s hp ca du room born gs ds → H' lb = some (.lst (bL.set xi (.int born))) → H' lk = some (.lst (kL ++ [.ref e])) → Kp H' T e → rd_law_t1_12 K sp ⟨n, Q, bk, ct⟩ [v0, v1, some (.ref lh), v3, some (.ref lb), some (.ref lk), v6, some (.int x), some (.ref du), some (.int c0), v10, v11, v12] H') :
    rd_law_t1_4 K C_Heap (S_Heap_there C_Heap) S_places sp ⟨n, Q, bk, ct⟩ [v0, v1, some (.ref lh), v3, some (.ref lb), some (.ref lk), v6, some (.int x), some (.ref du), some (.int c0), v10, v11, v12] H := by
  have l2 : (gs.map eV).length ≤ 1000 := by rw [List.length_map, j.ln]; exact hl
  have nbk : lb ≠ lk := ne_tag tb tk (by decide)
  have nhb : lh ≠ lb := ne_tag th tb (by decide)
  unfold rd_law_t1_4
  walk_at "ev"
  refine ⟨du, rfl, _, j.od, l2, fun a1 hn1 => ?_⟩
  have s1 := same_new hn1 (.lst ((plc (gs.map eV)).map V.int))
  have g1 : upd H a1 (.lst ((plc (gs.map eV)).map V.int)) a1 = some (.lst ((plc (gs.map eV)).map V.int)) := upd_same
  generalize upd H a1 (.lst ((plc (gs.map eV)).map V.int)) = H1 at s1 g1 ⊢
  walk_at "ev"
  refine i_lenL (SqL.of g1) ?_
  rw [List.length_map, cnt_plc]
  walk_at "ev"
  have go : ∀ H2, (∀ b o, H1 b = some o → b ≠ lb → H2 b = some o) → WT H2 T → H2 lb = some (.lst (bL.set xi (.int born))) →
      rd_law_t1_5 K C_Heap (S_Heap_there C_Heap) S_places sp ⟨n, Q, bk, ct⟩ [v0, v1, some (.ref lh), v3, some (.ref lb), some (.ref lk), v6, some (.int x), some (.ref du), some (.int c0), v10, v11, v12] H2 := fun H2 k2 w2 b2 => by
    have j2 : J C_Cell C_Heap H2 T s hp ca du room born gs ds := (j.same s1).mv (fun b o z t => k2 b o z (fun y => hs (by rw [y, tb] at t; exact t.symm))) fun _ _ _ => rfl
    refine law5 hs w2 j2 hl th (k2 _ _ (s1 _ _ oh) nhb) ah tk (k2 _ _ (s1 _ _ ok) nbk.symm) hk fun H' e v10 v11 w' k' ok' ke => ?_
    refine h H' e v10 v11 w' (fun b o z z1 z2 => k' b o (k2 _ _ (s1 _ _ z) z1) z2) ?_ (k' _ _ b2 nbk) ok' ke
    exact j2.mv (fun b o z t => k' b o z (fun y => hs (by rw [y, tk] at t; exact t.symm))) fun _ _ _ => rfl
  refine ifd (fun z => ?_) (fun z => ?_)
  · walk_at "ev"
    refine i_ixL (SqL.of (s1 _ _ ob)) ab ?_
    walk_at "ev"
    refine ⟨lb, bL, x, xi, rfl, rfl, s1 _ _ ob, ix, ?_⟩
    have eb : born = born0 + 1 := by
      rcases hc with ⟨a, _⟩ | ⟨_, b⟩
      · omega
      · exact b
    rw [← eb]
    refine go _ (fun b o y nb => by rw [upd_ne nb]; exact y) (fun b hb => w.same s1 b ?_) upd_same
    by_cases y : b = lb
    · rw [y, upd_same] at hb; cases hb
    · rw [upd_ne y] at hb; exact hb
  · walk_at "ev"
    have eb : born = born0 := by
      rcases hc with ⟨_, b⟩ | ⟨a, _⟩
      · exact b
      · omega
    exact go H1 (fun b o y _ => y) (w.same s1) (by rw [eb, sb]; exact s1 _ _ ob)
theorem law1 {lr lh ld lb lk hp ca du : Addr} {T : Tg} {s xi : Nat} {room born x c : Int} {gs : List (Option G4)} {ds : List (Option Cm)} {rL hL dL bL kL : List V} (hs : s ≠ 0) (w : WT H T) (j : J C_Cell C_Heap H T s hp ca du room born gs ds) (hl : ds.length ≤ 900)
    (tr : T lr = (0, 0)) (or' : H lr = some (.lst rL)) (ar : atI rL x = some (.int room)) (th : T lh = (0, 0)) (oh : H lh = some (.lst hL)) (ah : atI hL x = some (.ref hp)) (od : H ld = some (.lst dL)) (ad : atI dL x = some (.ref du))
    (tb : T lb = (0, 1)) (ob : H lb = some (.lst bL)) (ab : atI bL x = some (.int born)) (ix : ixN bL.length x = some xi) (sb : bL.set xi (.int born) = bL)
    (tk : T lk = (0, 2)) (ok : H lk = some (.lst kL)) (hk : kL.length ≤ 1000)
    (h : ∀ H' T' born' gs' ds' e v9 v10 v11, WT H' T' → (∀ b o, H b = some o → (T b).1 ≠ s → b ≠ lb → b ≠ lk → H' b = some o) → (∀ b o, H b = some o → T' b = T b) → J C_Cell C_Heap H' T' s hp ca du room born' gs' ds' → H' lb = some (.lst (bL.set xi (.int born'))) → H' lk = some (.lst (kL ++ [.ref e])) → Kp H' T' e → ds'.length ≤ ds.length + 1 →
      rd_law_t1_12 K sp ⟨n, Q, bk, ct⟩ [v0, some (.ref lr), some (.ref lh), some (.ref ld), some (.ref lb), some (.ref lk), some (.int c), some (.int x), some (.ref du), v9, v10, v11, v12] H') :
    rd_law_t1_1 K C_Heap (S_Heap_there C_Heap) (S_deed C_Cell C_Heap) S_places sp ⟨n, Q, bk, ct⟩ [v0, some (.ref lr), some (.ref lh), some (.ref ld), some (.ref lb), some (.ref lk), some (.int c), some (.int x), v8, v9, v10, v11, v12] H := by
  have l2 : (gs.map eV).length ≤ 1000 := by rw [List.length_map, j.ln]; omega
  unfold rd_law_t1_1
  walk_at "ev"
  refine i_ixL (SqL.of od) ad ?_
  walk_at "ev"
  refine ⟨du, rfl, _, j.od, l2, fun a1 hn1 => ?_⟩
  have s1 := same_new hn1 (.lst ((plc (gs.map eV)).map V.int))
  have g1 : upd H a1 (.lst ((plc (gs.map eV)).map V.int)) a1 = some (.lst ((plc (gs.map eV)).map V.int)) := upd_same
  generalize upd H a1 (.lst ((plc (gs.map eV)).map V.int)) = H1 at s1 g1 ⊢
  walk_at "ev"
  refine i_lenL (SqL.of g1) ?_
  rw [List.length_map, cnt_plc]
  walk_at "ev"
  refine i_ixL (SqL.of (s1 _ _ oh)) ah ?_
  walk_at "ev"
  refine i_ixL (SqL.of (s1 _ _ or')) ar ?_
  walk_at "ev"
  refine i_ixL (SqL.of (s1 _ _ ob)) ab ?_
  walk_at "ev"
  refine ⟨hp, room, du, c, _, rfl, T, s, ca, born, gs, ds, w.same s1, j.same s1, hl, rfl, fun H2 T2 b2 gs2 ds2 st jj hc hl2 => ?_⟩
  walk_at "ev"
  have k2 : ∀ b o, H b = some o → (T b).1 ≠ s → H2 b = some o := fun b o z t => st.kp b o (s1 _ _ z) t
  have t2 : ∀ b o, H b = some o → T2 b = T b := fun b o z => st.tg b o (s1 _ _ z)
  have n0 : ∀ b m, T b = (0, m) → (T b).1 ≠ s := fun b m t z => hs (by rw [t] at z; exact z.symm)
  refine law4 hs st.wt jj (by omega) ((t2 _ _ oh).trans th) (k2 _ _ oh (n0 _ _ th)) ah ((t2 _ _ ob).trans tb) (k2 _ _ ob (n0 _ _ tb)) ab ix sb ((t2 _ _ ok).trans tk) (k2 _ _ ok (n0 _ _ tk)) hk hc fun H' e v10 v11 w' k' j' ob' ok' ke => ?_
  exact h H' T2 b2 gs2 ds2 e _ v10 v11 w' (fun b o z t z1 z2 => k' b o (k2 b o z t) z1 z2) t2 j' ob' ok' ke hl2
def Pv (CC CH : Addr) (a src lr lh ld lb lk : Addr) (zs : List Int) (k : Nat) (σ : St) (Hx : Hp) : Prop := ∃ T A B ks v6 v7 v8 v9 v10 v11 v12, σ = [some (.ref a), some (.ref lr), some (.ref lh), some (.ref ld), some (.ref lb), some (.ref lk), v6, v7, v8, v9, v10, v11, v12] ∧ Lw CC CH Hx T src lr lh ld lb lk zs A B ks k
theorem law12 {a src lr lh ld lb lk : Addr} {zs : List Int} {T : Tg} {A B : Sd} {ks : List Addr} {k : Nat} {c : Int} (Tx : TxC K C_Cell C_Heap) (l : Lw C_Cell C_Heap H T src lr lh ld lb lk zs A B ks k) (hk : k ≤ 500) (h : ∀ σ H', Pv C_Cell C_Heap a src lr lh ld lb lk zs k σ H' → n σ H') :
    rd_law_t1_12 K (S_state C_Cell C_Heap) ⟨n, Q, bk, ct⟩ [some (.ref a), some (.ref lr), some (.ref lh), some (.ref ld), some (.ref lb), some (.ref lk), some (.int c), v7, v8, v9, v10, v11, v12] H := by
  have l1 := l.la
  have l2 := l.lb'
  unfold rd_law_t1_12
  walk_at "ev"
  refine i_ixL (SqL.of l.oh) (v := .ref A.hp) rfl ?_
  walk_at "ev"
  refine i_ixL (SqL.of l.or') (v := .int A.room) rfl ?_
  walk_at "ev"
  refine i_ixL (SqL.of l.od) (v := .ref A.du) rfl ?_
  walk_at "ev"
  refine i_ixL (SqL.of l.ob) (v := .int A.born) rfl ?_
  walk_at "ev"
  refine ⟨A.hp, A.room, A.du, A.born, c, rfl, T, 1, A.ca, A.gs, A.ds, l.ja, by omega, fun H1 s1 => ?_⟩
  have m := l.same s1
  walk_at "ev"
  refine i_ixL (SqL.of m.oh) (v := .ref B.hp) rfl ?_
  walk_at "ev"
  refine i_ixL (SqL.of m.or') (v := .int B.room) rfl ?_
  walk_at "ev"
  refine i_ixL (SqL.of m.od) (v := .ref B.du) rfl ?_
  walk_at "ev"
  refine i_ixL (SqL.of m.ob) (v := .int B.born) rfl ?_
  walk_at "ev"
  refine ⟨B.hp, B.room, B.du, B.born, _, rfl, T, 2, B.ca, B.gs, B.ds, m.jb, by omega, fun H2 s2 => ?_⟩
  walk_at "ev"
  exact h _ _ ⟨T, A, B, ks, _, _, _, _, _, _, _, rfl, m.same s2⟩
theorem law_last {a src lr lh ld lb lk : Addr} {zs : List Int} {T : Tg} {A B : Sd} {ks : List Addr} {k : Nat} (Tx : TxC K C_Cell C_Heap) (l : Lw C_Cell C_Heap H T src lr lh ld lb lk zs A B ks k) (hk : k ≤ 500) (h : ∀ H', Q (.bl true) H') :
    rd_law_t0_6 K (S_end C_Cell C_Heap) ⟨n, Q, bk, ct⟩ [some (.ref a), some (.ref lr), some (.ref lh), some (.ref ld), some (.ref lb), some (.ref lk), v6, v7, v8, v9, v10, v11, v12] H := by
  have l1 := l.la
  have l2 := l.lb'
  unfold rd_law_t0_6
  walk_at "ev"
  refine ⟨lk, rfl, ⟨_, SqL.of l.ok⟩, forL (ks.map V.ref) (fun _ σ Hx => ∃ v12, σ = [some (.ref a), some (.ref lr), some (.ref lh), some (.ref ld), some (.ref lb), some (.ref lk), v6, v7, v8, v9, v10, v11, v12] ∧ Hx = H) ⟨_, rfl, rfl⟩ (fun i σ Hx _ ⟨_, _, e⟩ => by rw [e]; exact SqL.of l.ok) ?_ ?_⟩
  · rintro i x σ Hx hi ⟨v12, rfl, rfl⟩
    obtain ⟨e, he, rfl⟩ := List.mem_map.mp (List.mem_of_getElem? hi)
    obtain ⟨x, y, ns, _, _, _, b1, b2, b3⟩ := l.kp e he
    walk_at "ev"
    refine i_ixL (SqL.of b1) (v := .ref x) rfl ?_
    walk_at "ev"
    refine i_ixL (SqL.of b1) (v := .ref y) rfl ?_
    refine i_neLI (SqL.of b2) (SqL.of b3) ?_
    walk_at "ev"
    refine ifnd (fun z => absurd rfl z) (fun _ => ?_)
    walk_at "ev"
    exact ⟨_, rfl, rfl⟩
  · rintro σ Hx ⟨v12, rfl, rfl⟩
    walk_at "ev"
    refine i_ixL (SqL.of l.oh) (v := .ref A.hp) rfl ?_
    walk_at "ev"
    refine i_ixL (SqL.of l.od) (v := .ref A.du) rfl ?_
    walk_at "ev"
    refine ⟨A.hp, A.du, rfl, T, 1, A.ca, A.room, A.born, A.gs, A.ds, l.ja, by omega, fun H1 s1 => ?_⟩
    have m := l.same s1
    walk_at "ev"
    refine i_ixL (SqL.of m.oh) (v := .ref B.hp) rfl ?_
    walk_at "ev"
    refine i_ixL (SqL.of m.od) (v := .ref B.du) rfl ?_
    walk_at "ev"
    refine ⟨B.hp, B.du, rfl, T, 2, B.ca, B.room, B.born, B.gs, B.ds, m.jb, by omega, fun H2 s2 => ?_⟩
    exact h _
theorem law_rd {a : Addr} (Tx : TxC K C_Cell C_Heap) (q : ∃ ns : List Int, SqL K H a (ns.map V.int) ∧ ns.length ≤ 63 ∧ ∀ H', Q (.bl true) H') :
    rd_law K C_Heap (S_Heap_init C_Heap) (S_Heap_there C_Heap) (S_at K) (S_deed C_Cell C_Heap) (S_end C_Cell C_Heap) S_places S_any (S_state C_Cell C_Heap) ⟨n, Q, bk, ct⟩
      [some (.ref a), none, none, none, none, none, none, none, none, none, none, none, none] H := by
  obtain ⟨ns, hS, hlen, h⟩ := q
  unfold rd_law
  walk_at "ev"
  refine ⟨a, 0, rfl, ns, hS, by decide, fun z0 => ?_⟩
  walk_at "ev"
  refine ⟨z0, rfl, fun r1 => ?_⟩
  walk_at "ev"
  refine ⟨a, 1, rfl, ns, hS, by decide, fun z1 => ?_⟩
  walk_at "ev"
  refine ⟨z1, rfl, fun r2 => ?_⟩
  walk_at "ev"
  have t0 : Tk H (fun _ => (0, 0)) [] := fun p hp => nomatch hp
  have w0 : WT H (fun _ => (0, 0)) := fun _ _ => rfl
  refine ⟨len_ok (by simp), fun lr hlr => ?_⟩
  have s1 := same_new hlr (.lst [.int r1, .int r2])
  have g1 : upd H lr (.lst [.int r1, .int r2]) lr = some (.lst [.int r1, .int r2]) := upd_same
  generalize upd H lr (.lst [.int r1, .int r2]) = H1 at s1 g1 ⊢
  obtain ⟨t1, w1⟩ := t0.new (v := (0, 0)) w0 s1 hlr g1
  walk_at "ev"
  refine i_ixL (SqL.of g1) (v := .int r1) rfl ?_
  walk_at "ev"
  intro hp1 dx1 np1 ndx1 ned1
  refine ⟨hp1, r1, rfl, dx1, upd_same, fun ca1 H2 nca1 c11 c12 f1 => ⟨rfl, ?_⟩⟩
  have s2 : Same H1 H2 := fun b o hb => by
    refine f1 b o ?_ (ne_of_none hb np1)
    rw [upd_ne (ne_of_none hb np1), upd_ne (ne_of_none hb ndx1)]
    exact hb
  have nca1' : H1 ca1 = none := by
    have e := nca1
    by_cases z1 : ca1 = hp1
    · rw [z1, upd_same] at e; cases e
    · rw [upd_ne z1] at e
      by_cases z2 : ca1 = dx1
      · rw [z2, upd_same] at e; cases e
      · rw [upd_ne z2] at e; exact e
  obtain ⟨t2, w2⟩ := t1.new2 (v := (1, 0)) (u := (1, 1)) w1 s2 np1 c11 nca1' c12 (ne_of c11 c12 (fun z => by cases z))
  walk_at "ev"
  refine i_ixL (SqL.of (s2 _ _ g1)) (v := .int r2) rfl ?_
  walk_at "ev"
  intro hp2 dx2 np2 ndx2 ned2
  refine ⟨hp2, r2, rfl, dx2, upd_same, fun ca2 H3 nca2 c21 c22 f2 => ⟨rfl, ?_⟩⟩
  have s3 : Same H2 H3 := fun b o hb => by
    refine f2 b o ?_ (ne_of_none hb np2)
    rw [upd_ne (ne_of_none hb np2), upd_ne (ne_of_none hb ndx2)]
    exact hb
  have nca2' : H2 ca2 = none := by
    have e := nca2
    by_cases z1 : ca2 = hp2
    · rw [z1, upd_same] at e; cases e
    · rw [upd_ne z1] at e
      by_cases z2 : ca2 = dx2
      · rw [z2, upd_same] at e; cases e
      · rw [upd_ne z2] at e; exact e
  obtain ⟨t3, w3⟩ := t2.new2 (v := (2, 0)) (u := (2, 1)) w2 s3 np2 c21 nca2' c22 (ne_of c21 c22 (fun z => by cases z))
  walk_at "ev"
  refine ⟨len_ok (by simp), fun lh hlh => ?_⟩
  have s4 := same_new hlh (.lst [.ref hp1, .ref hp2])
  have g4 : upd H3 lh (.lst [.ref hp1, .ref hp2]) lh = some (.lst [.ref hp1, .ref hp2]) := upd_same
  generalize upd H3 lh (.lst [.ref hp1, .ref hp2]) = H4 at s4 g4 ⊢
  obtain ⟨t4, w4⟩ := t3.new (v := (0, 0)) w3 s4 hlh g4
  walk_at "ev"
  refine ⟨by decide, fun du1 hdu1 => ?_⟩
  have s5 := same_new hdu1 (.lst [])
  have g5 : upd H4 du1 (.lst []) du1 = some (.lst []) := upd_same
  generalize upd H4 du1 (.lst []) = H5 at s5 g5 ⊢
  obtain ⟨t5, w5⟩ := t4.new (v := (1, 2)) w4 s5 hdu1 g5
  walk_at "ev"
  refine ⟨by decide, fun du2 hdu2 => ?_⟩
  have s6 := same_new hdu2 (.lst [])
  have g6 : upd H5 du2 (.lst []) du2 = some (.lst []) := upd_same
  generalize upd H5 du2 (.lst []) = H6 at s6 g6 ⊢
  obtain ⟨t6, w6⟩ := t5.new (v := (2, 2)) w5 s6 hdu2 g6
  walk_at "ev"
  refine ⟨len_ok (by simp), fun ld hld => ?_⟩
  have s7 := same_new hld (.lst [.ref du1, .ref du2])
  have g7 : upd H6 ld (.lst [.ref du1, .ref du2]) ld = some (.lst [.ref du1, .ref du2]) := upd_same
  generalize upd H6 ld (.lst [.ref du1, .ref du2]) = H7 at s7 g7 ⊢
  obtain ⟨t7, w7⟩ := t6.new (v := (0, 0)) w6 s7 hld g7
  walk_at "ev"
  refine ⟨len_ok (by simp), fun lb hlb => ?_⟩
  have s8 := same_new hlb (.lst [.int 0, .int 0])
  have g8 : upd H7 lb (.lst [.int 0, .int 0]) lb = some (.lst [.int 0, .int 0]) := upd_same
  generalize upd H7 lb (.lst [.int 0, .int 0]) = H8 at s8 g8 ⊢
  obtain ⟨t8, w8⟩ := t7.new (v := (0, 1)) w7 s8 hlb g8
  walk_at "ev"
  refine ⟨by decide, fun lk hlk => ?_⟩
  have s9 := same_new hlk (.lst [])
  have g9 : upd H8 lk (.lst []) lk = some (.lst []) := upd_same
  generalize upd H8 lk (.lst []) = H9 at s9 g9 ⊢
  obtain ⟨t9, w9⟩ := t8.new (v := (0, 2)) w8 s9 hlk g9
  walk_at "ev"
  have s89 := s8.trans s9
  have s79 := s7.trans s89
  have s69 := s6.trans s79
  have s59 := s5.trans s69
  have s49 := s4.trans s59
  have s39 := s3.trans s49
  have s29 := s2.trans s39
  refine ⟨a, _, rfl, s29.seq (s1.seq hS), fun src hsrc => ?_⟩
  have zints : ∃ zs : List Int, cutV (ns.map V.int) (some 2) (some 42) = zs.map V.int ∧ zs.length ≤ 100 := by
    refine ⟨(ns.drop (HT.sIx ns.length 0 (some 2))).take (HT.sIx ns.length ns.length (some 42) - HT.sIx ns.length 0 (some 2)), ?_, ?_⟩
    · unfold cutV
      rw [List.map_take, List.map_drop, List.length_map]
    · rw [List.length_take, List.length_drop]
      omega
  obtain ⟨zs, ez, lz⟩ := zints
  rw [ez]
  have s10 := same_new hsrc (.lst (zs.map V.int))
  have g10 : upd H9 src (.lst (zs.map V.int)) src = some (.lst (zs.map V.int)) := upd_same
  generalize upd H9 src (.lst (zs.map V.int)) = H10 at s10 g10 ⊢
  obtain ⟨t10, w10⟩ := t9.new (v := (0, 0)) w9 s10 hsrc g10
  generalize setT _ src (0, 0) = T at t10 w10
  have ja : J C_Cell C_Heap H10 T 1 hp1 ca1 du1 r1 0 [] [] := ⟨(t10 (hp1, (1, 0)) (by simp)).2, (t10 (ca1, (1, 1)) (by simp)).2, (t10 (du1, (1, 2)) (by simp)).2, ⟨dx1, s10 _ _ (s39 _ _ c11)⟩, s10 _ _ (s39 _ _ c12), s10 _ _ (s69 _ _ g5), rfl, fun i g c e => by simp at e⟩
  have jb : J C_Cell C_Heap H10 T 2 hp2 ca2 du2 r2 0 [] [] := ⟨(t10 (hp2, (2, 0)) (by simp)).2, (t10 (ca2, (2, 1)) (by simp)).2, (t10 (du2, (2, 2)) (by simp)).2, ⟨dx2, s10 _ _ (s49 _ _ c21)⟩, s10 _ _ (s49 _ _ c22), s10 _ _ (s79 _ _ g6), rfl, fun i g c e => by simp at e⟩
  have l0 : Lw C_Cell C_Heap H10 T src lr lh ld lb lk zs ⟨hp1, ca1, du1, r1, 0, [], []⟩ ⟨hp2, ca2, du2, r2, 0, [], []⟩ [] 0 :=
    ⟨w10, ja, jb, (t10 (src, (0, 0)) (by simp)).2, (t10 (lr, (0, 0)) (by simp)).2, (t10 (lh, (0, 0)) (by simp)).2, (t10 (ld, (0, 0)) (by simp)).2, (t10 (lb, (0, 1)) (by simp)).2, (t10 (lk, (0, 2)) (by simp)).2,
      g10, s10 _ _ (s29 _ _ g1), s10 _ _ (s59 _ _ g4), s10 _ _ (s89 _ _ g7), s10 _ _ (s9 _ _ g8), s10 _ _ g9, fun e he => (nomatch he), Nat.le_refl _, Nat.le_refl _, Nat.le_refl _⟩
  refine ⟨src, rfl, ⟨_, SqL.of g10⟩, forL (zs.map V.int) (Pv C_Cell C_Heap a src lr lh ld lb lk zs) ⟨T, _, _, [], _, _, _, _, _, _, _, rfl, l0⟩ (fun i σ Hx _ ⟨_, _, _, _, _, _, _, _, _, _, _, _, l⟩ => SqL.of l.os) ?_ ?_⟩
  · rintro i x σ Hx hi ⟨T, A, B, ks, v6, v7, v8, v9, v10, v11, v12, rfl, l⟩
    have hil : i < (zs.map V.int).length := (List.getElem?_eq_some_iff.mp hi).1
    rw [List.length_map] at hil
    obtain ⟨c, _, rfl⟩ := List.mem_map.mp (List.mem_of_getElem? hi)
    have a1 := l.la
    have a2 := l.lb'
    have a3 := l.lk'
    have hkl : (ks.map V.ref).length ≤ 1000 := by rw [List.length_map]; omega
    walk_at "ev"
    have hx : c % 2 = 0 ∨ c % 2 = 1 := by omega
    rcases hx with e | e
    · rw [e]
      refine law1 (s := 1) (xi := 0) (by decide) l.w l.ja (by omega) l.tr l.or' rfl l.th l.oh rfl l.od rfl l.tb l.ob rfl rfl rfl l.tk l.ok hkl fun H' T' b' g' d' e' x9 x10 x11 w' kp tg j' ob' ok' ke hl' => ?_
      exact law12 Tx (l.stepA w' kp tg j' ob' ok' ke hl') (by omega) fun _ _ z => z
    · rw [e]
      refine law1 (s := 2) (xi := 1) (by decide) l.w l.jb (by omega) l.tr l.or' rfl l.th l.oh rfl l.od rfl l.tb l.ob rfl rfl rfl l.tk l.ok hkl fun H' T' b' g' d' e' x9 x10 x11 w' kp tg j' ob' ok' ke hl' => ?_
      exact law12 Tx (l.stepB w' kp tg j' ob' ok' ke hl') (by omega) fun _ _ z => z
  · rintro σ Hx ⟨T, A, B, ks, v6, v7, v8, v9, v10, v11, v12, rfl, l⟩
    rw [List.length_map] at l
    exact law_last Tx l (by omega) h
end

def top (i : Nat) : Stmt := PySem.Challenge.pw_greywalk_k06_heap_walked.main.body.getD i (.Pass ⟨0, 0, 0, 0⟩)
abbrev s_Cell___init__ : Stmt := inClass (top 5) 0
abbrev s_Cell_units : Stmt := inClass (top 5) 1
abbrev s_Heap___init__ : Stmt := inClass (top 6) 0
abbrev s_Heap_make : Stmt := inClass (top 6) 1
abbrev s_Heap_lay : Stmt := inClass (top 6) 2
abbrev s_Heap_back : Stmt := inClass (top 6) 3
abbrev s_Heap_free : Stmt := inClass (top 6) 4
abbrev s_Heap_there : Stmt := inClass (top 6) 5
abbrev s_cell_at : Stmt := top 7
abbrev s_birth_at : Stmt := top 8
abbrev s__law_cell_at : Stmt := top 10
abbrev s__law_whole : Stmt := top 11
abbrev s__law_room_by : Stmt := top 12
abbrev s__law_bulk : Stmt := top 13
abbrev s__law_mixed : Stmt := top 14
abbrev s__law_places : Stmt := top 15
abbrev s__law_used : Stmt := top 16
abbrev s__law_made : Stmt := top 17
abbrev s__law_deed : Stmt := top 18
abbrev s__law_state : Stmt := top 19
abbrev s__law_end : Stmt := top 20
abbrev s_law : Stmt := top 21
structure Txt (K : PySem.W.Frag) (mg : Str → Option Value) (C_Cell C_Heap C_Full f_Cell___init__ f_Cell_units f_Heap___init__ f_Heap_make f_Heap_lay f_Heap_back f_Heap_free f_Heap_there f_cell_at f_birth_at f__law_cell_at f__law_whole f__law_room_by f__law_bulk f__law_mixed f__law_places f__law_used f__law_made f__law_deed f__law_state f__law_end : Addr) : Prop where
  cl_Cell : Cls K C_Cell
  m_Cell : mg "Cell" = some (.ref C_Cell)
  mk_Cell : Mk K C_Cell f_Cell___init__
  n_Cell_birth : NoAttr K C_Cell "birth"
  n_Cell_bulk : NoAttr K C_Cell "bulk"
  n_Cell_tone : NoAttr K C_Cell "tone"
  n_Cell_load : NoAttr K C_Cell "load"
  n_Cell_fields : NoAttr K C_Cell "fields"
  eq_Cell : G.EqD K C_Cell
  cl_Heap : Cls K C_Heap
  m_Heap : mg "Heap" = some (.ref C_Heap)
  mk_Heap : Mk K C_Heap f_Heap___init__
  n_Heap_room : NoAttr K C_Heap "room"
  n_Heap_cells : NoAttr K C_Heap "cells"
  n_Heap_used : NoAttr K C_Heap "used"
  n_Heap_born : NoAttr K C_Heap "born"
  m_Full : mg "Full" = some (.ref C_Full)
  x_Full : G.ExcK K C_Full
  e_Full_Full : PySem.W.exmOne K (.ref C_Full) (.ref C_Full) = some true
  me_Cell___init__ : Meth K C_Cell "__init__" f_Cell___init__
  me_Cell_units : Meth K C_Cell "units" f_Cell_units
  me_Heap___init__ : Meth K C_Heap "__init__" f_Heap___init__
  me_Heap_make : Meth K C_Heap "make" f_Heap_make
  me_Heap_lay : Meth K C_Heap "lay" f_Heap_lay
  me_Heap_back : Meth K C_Heap "back" f_Heap_back
  me_Heap_free : Meth K C_Heap "free" f_Heap_free
  me_Heap_there : Meth K C_Heap "there" f_Heap_there
  m_cell_at : mg "cell_at" = some (.ref f_cell_at)
  m_birth_at : mg "birth_at" = some (.ref f_birth_at)
  m__law_cell_at : mg "_law_cell_at" = some (.ref f__law_cell_at)
  m__law_whole : mg "_law_whole" = some (.ref f__law_whole)
  m__law_room_by : mg "_law_room_by" = some (.ref f__law_room_by)
  m__law_bulk : mg "_law_bulk" = some (.ref f__law_bulk)
  m__law_mixed : mg "_law_mixed" = some (.ref f__law_mixed)
  m__law_places : mg "_law_places" = some (.ref f__law_places)
  m__law_used : mg "_law_used" = some (.ref f__law_used)
  m__law_made : mg "_law_made" = some (.ref f__law_made)
  m__law_deed : mg "_law_deed" = some (.ref f__law_deed)
  m__law_state : mg "_law_state" = some (.ref f__law_state)
  m__law_end : mg "_law_end" = some (.ref f__law_end)
  z_bool : mg "bool" = none
  z_int : mg "int" = none
  z_isinstance : mg "isinstance" = none
  z_len : mg "len" = none
  z_list : mg "list" = none
  z_min : mg "min" = none
  z_range : mg "range" = none
  z_sum : mg "sum" = none
theorem sc_Cell___init__ : FnScope ["self", "birth", "many", "bulk", "tone"] ["self", "birth", "many", "bulk", "tone"] (defScope s_Cell___init__) := ⟨rfl, rfl, rfl, by decide +kernel, rfl, by decide +kernel, by decide +kernel⟩
theorem sc_Cell_units : FnScope ["self"] ["self"] (defScope s_Cell_units) := ⟨rfl, rfl, rfl, by decide +kernel, rfl, by decide +kernel, by decide +kernel⟩
theorem sc_Heap___init__ : FnScope ["self", "room"] ["self", "room"] (defScope s_Heap___init__) := ⟨rfl, rfl, rfl, by decide +kernel, rfl, by decide +kernel, by decide +kernel⟩
theorem sc_Heap_make : FnScope ["self", "many", "bulk", "tone", "cell"] ["self", "many", "bulk", "tone"] (defScope s_Heap_make) := ⟨rfl, rfl, rfl, by decide +kernel, rfl, by decide +kernel, by decide +kernel⟩
theorem sc_Heap_lay : FnScope ["self", "cell", "place"] ["self", "cell"] (defScope s_Heap_lay) := ⟨rfl, rfl, rfl, by decide +kernel, rfl, by decide +kernel, by decide +kernel⟩
theorem sc_Heap_back : FnScope ["self", "place", "cell"] ["self", "place"] (defScope s_Heap_back) := ⟨rfl, rfl, rfl, by decide +kernel, rfl, by decide +kernel, by decide +kernel⟩
theorem sc_Heap_free : FnScope ["self"] ["self"] (defScope s_Heap_free) := ⟨rfl, rfl, rfl, by decide +kernel, rfl, by decide +kernel, by decide +kernel⟩
theorem sc_Heap_there : FnScope ["self"] ["self"] (defScope s_Heap_there) := ⟨rfl, rfl, rfl, by decide +kernel, rfl, by decide +kernel, by decide +kernel⟩
theorem sc_cell_at : FnScope ["heap", "place"] ["heap", "place"] (defScope s_cell_at) := ⟨rfl, rfl, rfl, by decide +kernel, rfl, by decide +kernel, by decide +kernel⟩
theorem sc_birth_at : FnScope ["heap", "place", "cell"] ["heap", "place"] (defScope s_birth_at) := ⟨rfl, rfl, rfl, by decide +kernel, rfl, by decide +kernel, by decide +kernel⟩
theorem sc__law_cell_at : FnScope ["_law_script", "_law_k"] ["_law_script", "_law_k"] (defScope s__law_cell_at) := ⟨rfl, rfl, rfl, by decide +kernel, rfl, by decide +kernel, by decide +kernel⟩
theorem sc__law_whole : FnScope ["_law_found"] ["_law_found"] (defScope s__law_whole) := ⟨rfl, rfl, rfl, by decide +kernel, rfl, by decide +kernel, by decide +kernel⟩
theorem sc__law_room_by : FnScope ["_law_cell"] ["_law_cell"] (defScope s__law_room_by) := ⟨rfl, rfl, rfl, by decide +kernel, rfl, by decide +kernel, by decide +kernel⟩
theorem sc__law_bulk : FnScope ["_law_cell"] ["_law_cell"] (defScope s__law_bulk) := ⟨rfl, rfl, rfl, by decide +kernel, rfl, by decide +kernel, by decide +kernel⟩
theorem sc__law_mixed : FnScope ["_law_cell", "_law_prime", "_law_drawn"] ["_law_cell", "_law_prime"] (defScope s__law_mixed) := ⟨rfl, rfl, rfl, by decide +kernel, rfl, by decide +kernel, by decide +kernel⟩
theorem sc__law_places : FnScope ["_law_due"] ["_law_due"] (defScope s__law_places) := ⟨rfl, rfl, rfl, by decide +kernel, rfl, by decide +kernel, by decide +kernel⟩
theorem sc__law_used : FnScope ["_law_due"] ["_law_due"] (defScope s__law_used) := ⟨rfl, rfl, rfl, by decide +kernel, rfl, by decide +kernel, by decide +kernel⟩
theorem sc__law_made : FnScope ["_law_heap", "_law_room", "_law_due", "_law_cell", "_law_birth", "_law_many", "_law_bulk_here", "_law_tone", "_law_fits", "_law_place", "_law_least"] ["_law_heap", "_law_room", "_law_due", "_law_cell", "_law_birth"] (defScope s__law_made) := ⟨rfl, rfl, rfl, by decide +kernel, rfl, by decide +kernel, by decide +kernel⟩
theorem sc__law_deed : FnScope ["_law_heap", "_law_room", "_law_due", "_law_cell", "_law_birth", "_law_places_here", "_law_place", "_law_found", "_law_due_birth", "_law_spot", "_law_other", "_law_inner"] ["_law_heap", "_law_room", "_law_due", "_law_cell", "_law_birth"] (defScope s__law_deed) := ⟨rfl, rfl, rfl, by decide +kernel, rfl, by decide +kernel, by decide +kernel⟩
theorem sc__law_state : FnScope ["_law_heap", "_law_room", "_law_due", "_law_born", "_law_cell", "_law_left", "_law_place", "_law_found"] ["_law_heap", "_law_room", "_law_due", "_law_born", "_law_cell"] (defScope s__law_state) := ⟨rfl, rfl, rfl, by decide +kernel, rfl, by decide +kernel, by decide +kernel⟩
theorem sc__law_end : FnScope ["_law_heap", "_law_due", "_law_place", "_law_cell", "_law_told", "_law_number"] ["_law_heap", "_law_due"] (defScope s__law_end) := ⟨rfl, rfl, rfl, by decide +kernel, rfl, by decide +kernel, by decide +kernel⟩
theorem sc_law : FnScope ["_law_script", "_law_rooms", "_law_heaps", "_law_dues", "_law_born", "_law_kept", "_law_cell", "_law_side", "_law_due", "_law_before", "_law_listed", "_law_spare", "_law_pair"] ["_law_script"] (defScope s_law) := ⟨rfl, rfl, rfl, by decide +kernel, rfl, by decide +kernel, by decide +kernel⟩
section
variable {P : Program} {w : World} {K : PySem.W.Frag} {mg : Str → Option Value} {base : Heap} {C_Cell C_Heap C_Full f_Cell___init__ f_Cell_units f_Heap___init__ f_Heap_make f_Heap_lay f_Heap_back f_Heap_free f_Heap_there f_cell_at f_birth_at f__law_cell_at f__law_whole f__law_room_by f__law_bulk f__law_mixed f__law_places f__law_used f__law_made f__law_deed f__law_state f__law_end : Addr} (T : Txt K mg C_Cell C_Heap C_Full f_Cell___init__ f_Cell_units f_Heap___init__ f_Heap_make f_Heap_lay f_Heap_back f_Heap_free f_Heap_there f_cell_at f_birth_at f__law_cell_at f__law_whole f__law_room_by f__law_bulk f__law_mixed f__law_places f__law_used f__law_made f__law_deed f__law_state f__law_end)
include T
theorem ok_Cell___init__ {fd : FuncData} (F : Fun K "__init__" "Cell.__init__" s_Cell___init__ f_Cell___init__ fd) : FnOk P w K mg base (G.CXe P w) 1 f_Cell___init__ fd ["self", "birth", "many", "bulk", "tone"] (S_Cell_init C_Cell) := by
  have sc := sc_Cell___init__
  have tx : TxC K C_Cell C_Heap := ⟨T.cl_Cell, T.n_Cell_birth, T.n_Cell_bulk, T.n_Cell_tone, T.n_Cell_load, T.n_Cell_fields, T.cl_Heap, T.n_Heap_room, T.n_Heap_cells, T.n_Heap_used, T.n_Heap_born, T.eq_Cell⟩
  refine G.fok F sc (fun vs H Q E h => ?_) (fun cdv A outer s H vs Q E hr h => ?_)
  · obtain ⟨z0, z1, z2, z3, z4, rfl, q⟩ := h; rfl
  · refine ⟨rd_Cell___init__ K, (pss_cons (ps_fld (pv 0) (pv 1) rfl)
      (pss_cons (ps_fld (pv 0) (pv 3) rfl)
      (pss_cons (ps_fld (pv 0) (pv 4) rfl)
      (pss_cons (ps_fld (pv 0) (pe_int) rfl)
      (pss_one (ps_fld (pv 0) (pe_op op_rep (pe_lst (pa_cons (pe_non) pa_nil)) (pv 2)) rfl)))))), ?_⟩
    obtain ⟨z0, z1, z2, z3, z4, rfl, q⟩ := h
    exact Cell___init___rd tx q
theorem ok_Cell_units {fd : FuncData} (F : Fun K "units" "Cell.units" s_Cell_units f_Cell_units fd) : FnOk P w K mg base (G.CXe P w) 1 f_Cell_units fd ["self"] (S_Cell_units C_Cell) := by
  have sc := sc_Cell_units
  have tx : TxC K C_Cell C_Heap := ⟨T.cl_Cell, T.n_Cell_birth, T.n_Cell_bulk, T.n_Cell_tone, T.n_Cell_load, T.n_Cell_fields, T.cl_Heap, T.n_Heap_room, T.n_Heap_cells, T.n_Heap_used, T.n_Heap_born, T.eq_Cell⟩
  refine G.fok F sc (fun vs H Q E h => ?_) (fun cdv A outer s H vs Q E hr h => ?_)
  · obtain ⟨z0, rfl, q⟩ := h; rfl
  · refine ⟨rd_Cell_units K, (pss_one (ps_ret (pe_op op_add (pe_op op_add (pe_int) (pe_callB G.call_lenL (by rfl) T.z_len G.boot_len (pa_cons (pe_fld (pv 0) rfl) pa_nil))) (pe_fld (pv 0) rfl)))), ?_⟩
    obtain ⟨z0, rfl, q⟩ := h
    exact Cell_units_rd tx q
theorem ok_Heap___init__ {fd : FuncData} (F : Fun K "__init__" "Heap.__init__" s_Heap___init__ f_Heap___init__ fd) : FnOk P w K mg base (G.CXe P w) 1 f_Heap___init__ fd ["self", "room"] (S_Heap_init C_Heap) := by
  have sc := sc_Heap___init__
  have tx : TxC K C_Cell C_Heap := ⟨T.cl_Cell, T.n_Cell_birth, T.n_Cell_bulk, T.n_Cell_tone, T.n_Cell_load, T.n_Cell_fields, T.cl_Heap, T.n_Heap_room, T.n_Heap_cells, T.n_Heap_used, T.n_Heap_born, T.eq_Cell⟩
  refine G.fok F sc (fun vs H Q E h => ?_) (fun cdv A outer s H vs Q E hr h => ?_)
  · obtain ⟨z0, z1, rfl, q⟩ := h; rfl
  · refine ⟨rd_Heap___init__ K, (pss_cons (ps_fld (pv 0) (pv 1) rfl)
      (pss_cons (ps_fld (pv 0) (pe_lst pa_nil) rfl)
      (pss_cons (ps_fld (pv 0) (pe_int) rfl)
      (pss_one (ps_fld (pv 0) (pe_int) rfl))))), ?_⟩
    obtain ⟨z0, z1, rfl, q⟩ := h
    exact Heap___init___rd tx q
theorem ok_Heap_make {fd : FuncData} (F : G.FunD K "make" "Heap.make" s_Heap_make f_Heap_make fd) {fd_Cell___init__ : FuncData} (G_Cell___init__ : FnOk P w K mg base (G.CXe P w) 1 f_Cell___init__ fd_Cell___init__ ["self", "birth", "many", "bulk", "tone"] (S_Cell_init C_Cell)) (b_Cell___init__ : Binds K fd_Cell___init__ ["self", "birth", "many", "bulk", "tone"] []) (k_Cell___init__ : PySem.W.keepIn K (.ref f_Cell___init__) = true) {fd_Cell_units : FuncData} (G_Cell_units : FnOk P w K mg base (G.CXe P w) 1 f_Cell_units fd_Cell_units ["self"] (S_Cell_units C_Cell)) (b_Cell_units : Binds K fd_Cell_units ["self"] []) (k_Cell_units : PySem.W.keepIn K (.ref f_Cell_units) = true) {fd_Heap_free : FuncData} (G_Heap_free : FnOk P w K mg base (G.CXe P w) 1 f_Heap_free fd_Heap_free ["self"] (S_Heap_free C_Heap)) (b_Heap_free : Binds K fd_Heap_free ["self"] []) (k_Heap_free : PySem.W.keepIn K (.ref f_Heap_free) = true) {fd_Heap_lay : FuncData} (G_Heap_lay : FnOk P w K mg base (G.CXe P w) 1 f_Heap_lay fd_Heap_lay ["self", "cell"] (S_Heap_lay K C_Heap)) (b_Heap_lay : Binds K fd_Heap_lay ["self", "cell"] []) (k_Heap_lay : PySem.W.keepIn K (.ref f_Heap_lay) = true) : FnOk P w K mg base (G.CXe P w) 3 f_Heap_make fd ["self", "many", "bulk", "tone"] (S_Heap_make K C_Cell C_Heap C_Full) := by
  have sc := sc_Heap_make
  have tx : TxC K C_Cell C_Heap := ⟨T.cl_Cell, T.n_Cell_birth, T.n_Cell_bulk, T.n_Cell_tone, T.n_Cell_load, T.n_Cell_fields, T.cl_Heap, T.n_Heap_room, T.n_Heap_cells, T.n_Heap_used, T.n_Heap_born, T.eq_Cell⟩
  refine G.fokDX F sc (fun vs H Q E h => ?_) (fun cdv A outer s H vs Q E hr h => ?_)
  · obtain ⟨z0, z1, z2, z3, rfl, q⟩ := h; rfl
  · refine ⟨rd_Heap_make K C_Cell C_Full C_Heap (S_Cell_init C_Cell) (S_Cell_units C_Cell) (S_Heap_free C_Heap) (S_Heap_lay K C_Heap) E, (pss_cons (ps_set (i := 4) sc.nd rfl (Or.inl rfl) (pe_make T.mk_Cell G_Cell___init__ (hr.mono (by decide)) rfl T.m_Cell b_Cell___init__ .nil G.passE0 (pa_cons (pe_op op_add (pe_fld (pv 0) rfl) (pe_int)) (pa_cons (pv 1) (pa_cons (pv 2) (pa_cons (pv 3) pa_nil))))))
      (pss_cons (ps_if (pt_cmpR op_gt (pe_meth0 (pv 4) T.cl_Cell T.me_Cell_units G_Cell_units (hr.mono (by decide)) b_Cell_units .nil G.passE0) (pe_meth0 (pv 0) T.cl_Heap T.me_Heap_free G_Heap_free (hr.mono (by decide)) b_Heap_free .nil G.passE0) (nomark _)) (pss_one (G.ps_raise rfl rfl T.m_Full T.x_Full (pa_cons (pe_str) pa_nil) (fun _ _ _ _ _ _ _ I hx hE => G.raiseL I hx hE))) pss_nil)
      (pss_cons (ps_fld (pv 0) (pe_fld (pv 4) rfl) rfl)
      (pss_cons (ps_fld (pv 0) (pe_op op_add (pe_fld (pv 0) rfl) (pe_meth0 (pv 4) T.cl_Cell T.me_Cell_units G_Cell_units (hr.mono (by decide)) b_Cell_units .nil G.passE0)) rfl)
      (pss_one (ps_ret (pe_meth (pv 0) T.cl_Heap T.me_Heap_lay G_Heap_lay (hr.mono (by decide)) b_Heap_lay .nil G.passE0 (pa_cons (pv 4) pa_nil)))))))), ?_⟩
    obtain ⟨z0, z1, z2, z3, rfl, q⟩ := h
    exact Heap_make_rd tx q
theorem ok_Heap_lay {fd : FuncData} (F : Fun K "lay" "Heap.lay" s_Heap_lay f_Heap_lay fd) : FnOk P w K mg base (G.CXe P w) 1 f_Heap_lay fd ["self", "cell"] (S_Heap_lay K C_Heap) := by
  have sc := sc_Heap_lay
  have tx : TxC K C_Cell C_Heap := ⟨T.cl_Cell, T.n_Cell_birth, T.n_Cell_bulk, T.n_Cell_tone, T.n_Cell_load, T.n_Cell_fields, T.cl_Heap, T.n_Heap_room, T.n_Heap_cells, T.n_Heap_used, T.n_Heap_born, T.eq_Cell⟩
  refine G.fok F sc (fun vs H Q E h => ?_) (fun cdv A outer s H vs Q E hr h => ?_)
  · obtain ⟨z0, z1, rfl, q⟩ := h; rfl
  · refine ⟨rd_Heap_lay K, (pss_cons (ps_if (pt_cmpR (G.op_notInN (hu_of hr)) (pe_non) (pe_fld (pv 0) rfl) (by with_unfolding_all rfl)) (pss_cons (ps_expr (pe_bm PySem.F.plainAttrs_list PySem.F.slot_list_append PySem.F.type_list_append mt_append (pe_fld (pv 0) rfl) (pa_cons (pv 1) pa_nil)))
      (pss_one (ps_ret (pe_op op_sub (pe_callB G.call_lenL (by rfl) T.z_len G.boot_len (pa_cons (pe_fld (pv 0) rfl) pa_nil)) (pe_int))))) pss_nil)
      (pss_cons (ps_set (i := 2) sc.nd rfl (Or.inl rfl) (pe_bm PySem.F.plainAttrs_list PySem.F.slot_list_index PySem.F.type_list_index (G.mt_indexN (hu_of hr)) (pe_fld (pv 0) rfl) (pa_cons (pe_non) pa_nil)))
      (pss_cons (ps_asg (pv 1) (pg_sub (pe_fld (pv 0) rfl) (pv 2) set_list))
      (pss_one (ps_ret (pv 2)))))), ?_⟩
    obtain ⟨z0, z1, rfl, q⟩ := h
    exact Heap_lay_rd tx q
theorem ok_Heap_back {fd : FuncData} (F : Fun K "back" "Heap.back" s_Heap_back f_Heap_back fd) {fd_Cell_units : FuncData} (G_Cell_units : FnOk P w K mg base (G.CXe P w) 1 f_Cell_units fd_Cell_units ["self"] (S_Cell_units C_Cell)) (b_Cell_units : Binds K fd_Cell_units ["self"] []) (k_Cell_units : PySem.W.keepIn K (.ref f_Cell_units) = true) : FnOk P w K mg base (G.CXe P w) 2 f_Heap_back fd ["self", "place"] (S_Heap_back C_Cell C_Heap) := by
  have sc := sc_Heap_back
  have tx : TxC K C_Cell C_Heap := ⟨T.cl_Cell, T.n_Cell_birth, T.n_Cell_bulk, T.n_Cell_tone, T.n_Cell_load, T.n_Cell_fields, T.cl_Heap, T.n_Heap_room, T.n_Heap_cells, T.n_Heap_used, T.n_Heap_born, T.eq_Cell⟩
  refine G.fok F sc (fun vs H Q E h => ?_) (fun cdv A outer s H vs Q E hr h => ?_)
  · obtain ⟨z0, z1, rfl, q⟩ := h; rfl
  · refine ⟨rd_Heap_back K C_Cell (S_Cell_units C_Cell), (pss_cons (ps_set (i := 2) sc.nd rfl (Or.inl rfl) (pe_ix ix_list (pe_fld (pv 0) rfl) (pv 1) (fun _ _ => rfl)))
      (pss_cons (ps_fld (pv 0) (pe_op op_sub (pe_fld (pv 0) rfl) (pe_meth0 (pv 2) T.cl_Cell T.me_Cell_units G_Cell_units (hr.mono (by decide)) b_Cell_units .nil G.passE0)) rfl)
      (pss_cons (ps_asg (pe_non) (pg_sub (pe_fld (pv 0) rfl) (pv 1) set_list))
      (pss_one (ps_ret (pe_fld (pv 2) rfl)))))), ?_⟩
    obtain ⟨z0, z1, rfl, q⟩ := h
    exact Heap_back_rd tx q
theorem ok_Heap_free {fd : FuncData} (F : Fun K "free" "Heap.free" s_Heap_free f_Heap_free fd) : FnOk P w K mg base (G.CXe P w) 1 f_Heap_free fd ["self"] (S_Heap_free C_Heap) := by
  have sc := sc_Heap_free
  have tx : TxC K C_Cell C_Heap := ⟨T.cl_Cell, T.n_Cell_birth, T.n_Cell_bulk, T.n_Cell_tone, T.n_Cell_load, T.n_Cell_fields, T.cl_Heap, T.n_Heap_room, T.n_Heap_cells, T.n_Heap_used, T.n_Heap_born, T.eq_Cell⟩
  refine G.fok F sc (fun vs H Q E h => ?_) (fun cdv A outer s H vs Q E hr h => ?_)
  · obtain ⟨z0, rfl, q⟩ := h; rfl
  · refine ⟨rd_Heap_free K, (pss_one (ps_ret (pe_op op_sub (pe_fld (pv 0) rfl) (pe_fld (pv 0) rfl)))), ?_⟩
    obtain ⟨z0, rfl, q⟩ := h
    exact Heap_free_rd tx q
theorem ok_Heap_there {fd : FuncData} (F : Fun K "there" "Heap.there" s_Heap_there f_Heap_there fd) : FnOk P w K mg base (G.CXe P w) 1 f_Heap_there fd ["self"] (S_Heap_there C_Heap) := by
  have sc := sc_Heap_there
  have tx : TxC K C_Cell C_Heap := ⟨T.cl_Cell, T.n_Cell_birth, T.n_Cell_bulk, T.n_Cell_tone, T.n_Cell_load, T.n_Cell_fields, T.cl_Heap, T.n_Heap_room, T.n_Heap_cells, T.n_Heap_used, T.n_Heap_born, T.eq_Cell⟩
  refine G.fok F sc (fun vs H Q E h => ?_) (fun cdv A outer s H vs Q E hr h => ?_)
  · obtain ⟨z0, rfl, q⟩ := h; rfl
  · refine ⟨rd_Heap_there K, (pss_one (ps_ret (G.pe_lc (cns := ["self"]) [0] (pi_range1 rfl T.z_range (pa_cons (pe_callB G.call_lenL (by rfl) T.z_len G.boot_len (pa_cons (pe_fld (pv 0) rfl) pa_nil)) pa_nil)) (fun _ _ _ _ _ => (G.pf_one (pt_cmpR G.op_notN_ (pe_ix ix_list (pe_fld (pv 1) rfl) (pv 0) (fun _ _ => rfl)) (pe_non) (nomark _)))) (fun _ _ _ _ _ => (pv 0)) rfl rfl (by repeat (first | exact trivial | refine ⟨rfl, ?_⟩)) (by repeat (first | exact trivial | refine ⟨rfl, ?_⟩)) rfl (by decide +kernel) rfl (by decide +kernel) (by decide +kernel) rfl (by decide +kernel)))), ?_⟩
    obtain ⟨z0, rfl, q⟩ := h
    exact Heap_there_rd tx q
theorem ok_cell_at {fd : FuncData} (F : Fun K "cell_at" "cell_at" s_cell_at f_cell_at fd) : FnOk P w K mg base (G.CXe P w) 1 f_cell_at fd ["heap", "place"] (S_cell_at C_Heap) := by
  have sc := sc_cell_at
  have tx : TxC K C_Cell C_Heap := ⟨T.cl_Cell, T.n_Cell_birth, T.n_Cell_bulk, T.n_Cell_tone, T.n_Cell_load, T.n_Cell_fields, T.cl_Heap, T.n_Heap_room, T.n_Heap_cells, T.n_Heap_used, T.n_Heap_born, T.eq_Cell⟩
  refine G.fok F sc (fun vs H Q E h => ?_) (fun cdv A outer s H vs Q E hr h => ?_)
  · obtain ⟨z0, z1, rfl, q⟩ := h; rfl
  · refine ⟨rd_cell_at K, (pss_cons (ps_if (PW.pt (pw_or (pt_cmpR G.op_isN_ (pv 1) (pe_non) (nomark _)) (pw_or (pt_cmpR op_lt (pv 1) (pe_int) (nomark _)) (pw_or1 (pt_cmpR op_ge (pv 1) (pe_callB G.call_lenL (by rfl) T.z_len G.boot_len (pa_cons (pe_fld (pv 0) rfl) pa_nil)) (nomark _)))))) (pss_one (ps_ret (pe_non))) pss_nil)
      (pss_one (ps_ret (pe_ix ix_list (pe_fld (pv 0) rfl) (pv 1) (fun _ _ => rfl))))), ?_⟩
    obtain ⟨z0, z1, rfl, q⟩ := h
    exact cell_at_rd tx q
theorem ok_birth_at {fd : FuncData} (F : Fun K "birth_at" "birth_at" s_birth_at f_birth_at fd) {fd_cell_at : FuncData} (G_cell_at : FnOk P w K mg base (G.CXe P w) 1 f_cell_at fd_cell_at ["heap", "place"] (S_cell_at C_Heap)) (b_cell_at : Binds K fd_cell_at ["heap", "place"] []) (k_cell_at : PySem.W.keepIn K (.ref f_cell_at) = true) : FnOk P w K mg base (G.CXe P w) 2 f_birth_at fd ["heap", "place"] (S_birth_at C_Cell C_Heap) := by
  have sc := sc_birth_at
  have tx : TxC K C_Cell C_Heap := ⟨T.cl_Cell, T.n_Cell_birth, T.n_Cell_bulk, T.n_Cell_tone, T.n_Cell_load, T.n_Cell_fields, T.cl_Heap, T.n_Heap_room, T.n_Heap_cells, T.n_Heap_used, T.n_Heap_born, T.eq_Cell⟩
  refine G.fok F sc (fun vs H Q E h => ?_) (fun cdv A outer s H vs Q E hr h => ?_)
  · obtain ⟨z0, z1, rfl, q⟩ := h; rfl
  · refine ⟨rd_birth_at K (S_cell_at C_Heap), (pss_cons (ps_set (i := 2) sc.nd rfl (Or.inl rfl) (pe_call G_cell_at (hr.mono (by decide)) rfl T.m_cell_at k_cell_at b_cell_at .nil G.passE0 (pa_cons (pv 0) (pa_cons (pv 1) pa_nil))))
      (pss_cons (ps_if (pt_cmpR G.op_isN_ (pv 2) (pe_non) (nomark _)) (pss_one (ps_ret (pe_non))) pss_nil)
      (pss_one (ps_ret (pe_fld (pv 2) rfl))))), ?_⟩
    obtain ⟨z0, z1, rfl, q⟩ := h
    exact birth_at_rd tx q
theorem ok__law_cell_at {fd : FuncData} (F : Fun K "_law_cell_at" "_law_cell_at" s__law_cell_at f__law_cell_at fd) : FnOk P w K mg base (G.CXe P w) 1 f__law_cell_at fd ["_law_script", "_law_k"] (S_at K) := by
  have sc := sc__law_cell_at
  have tx : TxC K C_Cell C_Heap := ⟨T.cl_Cell, T.n_Cell_birth, T.n_Cell_bulk, T.n_Cell_tone, T.n_Cell_load, T.n_Cell_fields, T.cl_Heap, T.n_Heap_room, T.n_Heap_cells, T.n_Heap_used, T.n_Heap_born, T.eq_Cell⟩
  refine G.fok F sc (fun vs H Q E h => ?_) (fun cdv A outer s H vs Q E hr h => ?_)
  · obtain ⟨z0, z1, rfl, q⟩ := h; rfl
  · refine ⟨rd__law_cell_at K, (pss_cons (ps_if (pt_cmpR op_lt (pv 1) (pe_callB G.call_lenL (by rfl) T.z_len G.boot_len (pa_cons (pv 0) pa_nil)) (nomark _)) (pss_one (ps_ret (pe_ix ix_list (pv 0) (pv 1) (fun _ _ => rfl)))) pss_nil)
      (pss_one (ps_ret (pe_int)))), ?_⟩
    obtain ⟨z0, z1, rfl, q⟩ := h
    exact _law_cell_at_rd tx q
theorem ok__law_whole {fd : FuncData} (F : Fun K "_law_whole" "_law_whole" s__law_whole f__law_whole fd) : FnOk P w K mg base (G.CXe P w) 1 f__law_whole fd ["_law_found"] (S_whole) := by
  have sc := sc__law_whole
  have tx : TxC K C_Cell C_Heap := ⟨T.cl_Cell, T.n_Cell_birth, T.n_Cell_bulk, T.n_Cell_tone, T.n_Cell_load, T.n_Cell_fields, T.cl_Heap, T.n_Heap_room, T.n_Heap_cells, T.n_Heap_used, T.n_Heap_born, T.eq_Cell⟩
  refine G.fok F sc (fun vs H Q E h => ?_) (fun cdv A outer s H vs Q E hr h => ?_)
  · obtain ⟨z0, rfl, q⟩ := h; rfl
  · refine ⟨rd__law_whole, (pss_one (ps_ret ((pe_and (pe_callB G.call_isi (by rfl) T.z_isinstance G.boot_isinstance (pa_cons (pv 0) (pa_cons (pe_bltn rfl T.z_int G.boot_int rfl) pa_nil))) (pe_one (pe_not (pe_callB G.call_isi (by rfl) T.z_isinstance G.boot_isinstance (pa_cons (pv 0) (pa_cons (pe_bltn rfl T.z_bool G.boot_bool rfl) pa_nil))))))))), ?_⟩
    obtain ⟨z0, rfl, q⟩ := h
    exact _law_whole_rd tx q
theorem ok__law_room_by {fd : FuncData} (F : Fun K "_law_room_by" "_law_room_by" s__law_room_by f__law_room_by fd) : FnOk P w K mg base (G.CXe P w) 1 f__law_room_by fd ["_law_cell"] (S_any) := by
  have sc := sc__law_room_by
  have tx : TxC K C_Cell C_Heap := ⟨T.cl_Cell, T.n_Cell_birth, T.n_Cell_bulk, T.n_Cell_tone, T.n_Cell_load, T.n_Cell_fields, T.cl_Heap, T.n_Heap_room, T.n_Heap_cells, T.n_Heap_used, T.n_Heap_born, T.eq_Cell⟩
  refine G.fok F sc (fun vs H Q E h => ?_) (fun cdv A outer s H vs Q E hr h => ?_)
  · obtain ⟨z0, rfl, q⟩ := h; rfl
  · refine ⟨rd__law_room_by, (pss_cons (ps_if (pt_cmpR op_eq (pe_op op_mod (pv 0) (pe_int)) (pe_int) (nomark _)) (pss_one (ps_ret (pe_op op_sub (pe_op op_pow (pe_int) (pe_int)) (pe_op op_mod (pe_op op_fdiv (pv 0) (pe_int)) (pe_int))))) pss_nil)
      (pss_cons (ps_if (pt_cmpR op_eq (pe_op op_mod (pv 0) (pe_int)) (pe_int) (nomark _)) (pss_one (ps_ret (pe_op op_add (pe_int) (pe_op op_mod (pe_op op_mod (pe_op op_mul (pe_op op_fdiv (pv 0) (pe_int)) (pe_int)) (pe_int)) (pe_op op_sub (pe_op op_pow (pe_int) (pe_int)) (pe_int)))))) pss_nil)
      (pss_one (ps_ret (pe_op op_add (pe_int) (pe_op op_mod (pe_op op_fdiv (pv 0) (pe_int)) (pe_int))))))), ?_⟩
    obtain ⟨z0, rfl, q⟩ := h
    exact _law_room_by_rd tx q
theorem ok__law_bulk {fd : FuncData} (F : Fun K "_law_bulk" "_law_bulk" s__law_bulk f__law_bulk fd) : FnOk P w K mg base (G.CXe P w) 1 f__law_bulk fd ["_law_cell"] (S_any) := by
  have sc := sc__law_bulk
  have tx : TxC K C_Cell C_Heap := ⟨T.cl_Cell, T.n_Cell_birth, T.n_Cell_bulk, T.n_Cell_tone, T.n_Cell_load, T.n_Cell_fields, T.cl_Heap, T.n_Heap_room, T.n_Heap_cells, T.n_Heap_used, T.n_Heap_born, T.eq_Cell⟩
  refine G.fok F sc (fun vs H Q E h => ?_) (fun cdv A outer s H vs Q E hr h => ?_)
  · obtain ⟨z0, rfl, q⟩ := h; rfl
  · refine ⟨rd__law_bulk, (pss_cons (ps_if (pt_cmpR op_eq (pe_op op_mod (pv 0) (pe_int)) (pe_int) (nomark _)) (pss_one (ps_ret (pe_op op_sub (pe_op op_pow (pe_int) (pe_int)) (pe_op op_mod (pe_op op_fdiv (pv 0) (pe_int)) (pe_int))))) pss_nil)
      (pss_cons (ps_if (pt_cmpR op_eq (pe_op op_mod (pv 0) (pe_int)) (pe_int) (nomark _)) (pss_one (ps_ret (pe_op op_mod (pe_op op_mod (pe_op op_mul (pe_op op_fdiv (pv 0) (pe_int)) (pe_int)) (pe_int)) (pe_op op_add (pe_op op_pow (pe_int) (pe_int)) (pe_int))))) pss_nil)
      (pss_one (ps_ret (pe_op op_mod (pe_op op_fdiv (pv 0) (pe_int)) (pe_int)))))), ?_⟩
    obtain ⟨z0, rfl, q⟩ := h
    exact _law_bulk_rd tx q
theorem ok__law_mixed {fd : FuncData} (F : Fun K "_law_mixed" "_law_mixed" s__law_mixed f__law_mixed fd) : FnOk P w K mg base (G.CXe P w) 1 f__law_mixed fd ["_law_cell", "_law_prime"] (S_mixed) := by
  have sc := sc__law_mixed
  have tx : TxC K C_Cell C_Heap := ⟨T.cl_Cell, T.n_Cell_birth, T.n_Cell_bulk, T.n_Cell_tone, T.n_Cell_load, T.n_Cell_fields, T.cl_Heap, T.n_Heap_room, T.n_Heap_cells, T.n_Heap_used, T.n_Heap_born, T.eq_Cell⟩
  refine G.fok F sc (fun vs H Q E h => ?_) (fun cdv A outer s H vs Q E hr h => ?_)
  · obtain ⟨z0, z1, rfl, q⟩ := h; rfl
  · refine ⟨rd__law_mixed, (pss_cons (ps_set (i := 2) sc.nd rfl (Or.inl rfl) (pe_op op_mod (pe_op op_mul (pe_op op_add (pe_op op_mod (pv 0) (pv 1)) (pe_int)) (pe_int)) (pv 1)))
      (pss_one (ps_ret (pe_op op_fdiv (pe_op op_mod (pe_op op_mul (pv 2) (pv 2)) (pe_int)) (pe_int))))), ?_⟩
    obtain ⟨z0, z1, rfl, q⟩ := h
    exact _law_mixed_rd tx q
theorem ok__law_places {fd : FuncData} (F : Fun K "_law_places" "_law_places" s__law_places f__law_places fd) : FnOk P w K mg base (G.CXe P w) 1 f__law_places fd ["_law_due"] (S_places) := by
  have sc := sc__law_places
  have tx : TxC K C_Cell C_Heap := ⟨T.cl_Cell, T.n_Cell_birth, T.n_Cell_bulk, T.n_Cell_tone, T.n_Cell_load, T.n_Cell_fields, T.cl_Heap, T.n_Heap_room, T.n_Heap_cells, T.n_Heap_used, T.n_Heap_born, T.eq_Cell⟩
  refine G.fok F sc (fun vs H Q E h => ?_) (fun cdv A outer s H vs Q E hr h => ?_)
  · obtain ⟨z0, rfl, q⟩ := h; rfl
  · refine ⟨rd__law_places K, (pss_one (ps_ret (G.pe_lc (cns := ["_law_due"]) [0] (pi_range1 rfl T.z_range (pa_cons (pe_callB G.call_lenL (by rfl) T.z_len G.boot_len (pa_cons (pv 0) pa_nil)) pa_nil)) (fun _ _ _ _ _ => (G.pf_one (pt_cmpR G.op_notN_ (pe_ix ix_list (pv 1) (pv 0) (fun _ _ => rfl)) (pe_non) (nomark _)))) (fun _ _ _ _ _ => (pv 0)) rfl rfl (by repeat (first | exact trivial | refine ⟨rfl, ?_⟩)) (by repeat (first | exact trivial | refine ⟨rfl, ?_⟩)) rfl (by decide +kernel) rfl (by decide +kernel) (by decide +kernel) rfl (by decide +kernel)))), ?_⟩
    obtain ⟨z0, rfl, q⟩ := h
    exact _law_places_rd tx q
theorem ok__law_used {fd : FuncData} (F : Fun K "_law_used" "_law_used" s__law_used f__law_used fd) : FnOk P w K mg base (G.CXe P w) 1 f__law_used fd ["_law_due"] (S_used) := by
  have sc := sc__law_used
  have tx : TxC K C_Cell C_Heap := ⟨T.cl_Cell, T.n_Cell_birth, T.n_Cell_bulk, T.n_Cell_tone, T.n_Cell_load, T.n_Cell_fields, T.cl_Heap, T.n_Heap_room, T.n_Heap_cells, T.n_Heap_used, T.n_Heap_born, T.eq_Cell⟩
  refine G.fok F sc (fun vs H Q E h => ?_) (fun cdv A outer s H vs Q E hr h => ?_)
  · obtain ⟨z0, rfl, q⟩ := h; rfl
  · refine ⟨rd__law_used K, (pss_one (ps_ret (pe_callB (G.call_sum rfl) (by rfl) T.z_sum G.boot_sum (pa_cons (G.pe_lc (cns := []) [] (pi_list (pv 0)) (fun _ _ _ _ _ => (G.pf_one (pt_cmpR G.op_notN_ (pv 0) (pe_non) (nomark _)))) (fun _ _ _ _ _ => (pe_op op_add (pe_op op_add (pe_int) (pe_callB G.call_lenL (by rfl) T.z_len G.boot_len (pa_cons (pe_ix ix_list (pv 0) (pe_int) (fun _ _ => rfl)) pa_nil))) (pe_ix ix_list (pv 0) (pe_int) (fun _ _ => rfl)))) rfl rfl (by repeat (first | exact trivial | refine ⟨rfl, ?_⟩)) (by repeat (first | exact trivial | refine ⟨rfl, ?_⟩)) rfl (by decide +kernel) rfl (by decide +kernel) (by decide +kernel) rfl (by decide +kernel)) pa_nil)))), ?_⟩
    obtain ⟨z0, rfl, q⟩ := h
    exact _law_used_rd tx q
theorem ok__law_made {fd : FuncData} (F : Fun K "_law_made" "_law_made" s__law_made f__law_made fd) {fd_Heap_make : FuncData} (G_Heap_make : FnOk P w K mg base (G.CXe P w) 3 f_Heap_make fd_Heap_make ["self", "many", "bulk", "tone"] (S_Heap_make K C_Cell C_Heap C_Full)) (b_Heap_make : Binds K fd_Heap_make ["self", "many", "bulk", "tone"] []) (k_Heap_make : PySem.W.keepIn K (.ref f_Heap_make) = true) {fd__law_bulk : FuncData} (G__law_bulk : FnOk P w K mg base (G.CXe P w) 1 f__law_bulk fd__law_bulk ["_law_cell"] (S_any)) (b__law_bulk : Binds K fd__law_bulk ["_law_cell"] []) (k__law_bulk : PySem.W.keepIn K (.ref f__law_bulk) = true) {fd__law_used : FuncData} (G__law_used : FnOk P w K mg base (G.CXe P w) 1 f__law_used fd__law_used ["_law_due"] (S_used)) (b__law_used : Binds K fd__law_used ["_law_due"] []) (k__law_used : PySem.W.keepIn K (.ref f__law_used) = true) {fd__law_whole : FuncData} (G__law_whole : FnOk P w K mg base (G.CXe P w) 1 f__law_whole fd__law_whole ["_law_found"] (S_whole)) (b__law_whole : Binds K fd__law_whole ["_law_found"] []) (k__law_whole : PySem.W.keepIn K (.ref f__law_whole) = true) {ds_Heap_make_1 : List Value} (bd_Heap_make_1 : Binds K fd_Heap_make ["self", "many", "bulk", "tone"] ds_Heap_make_1) (hd_Heap_make_1 : Vals [(.int 0)] ds_Heap_make_1) {ds_Heap_make_2 : List Value} (bd_Heap_make_2 : Binds K fd_Heap_make ["self", "many", "bulk", "tone"] ds_Heap_make_2) (hd_Heap_make_2 : Vals [(.int 0), (.int 0)] ds_Heap_make_2) : FnOk P w K mg base (G.CXe P w) 4 f__law_made fd ["_law_heap", "_law_room", "_law_due", "_law_cell", "_law_birth"] (S_made C_Cell C_Heap) := by
  have sc := sc__law_made
  have tx : TxC K C_Cell C_Heap := ⟨T.cl_Cell, T.n_Cell_birth, T.n_Cell_bulk, T.n_Cell_tone, T.n_Cell_load, T.n_Cell_fields, T.cl_Heap, T.n_Heap_room, T.n_Heap_cells, T.n_Heap_used, T.n_Heap_born, T.eq_Cell⟩
  refine G.fok F sc (fun vs H Q E h => ?_) (fun cdv A outer s H vs Q E hr h => ?_)
  · obtain ⟨z0, z1, z2, z3, z4, rfl, q⟩ := h; rfl
  · refine ⟨rd__law_made K C_Full C_Heap (S_Heap_make K C_Cell C_Heap C_Full) (S_any) (S_used) (S_whole), (pss_cons (ps_set (i := 5) sc.nd rfl (Or.inl rfl) (pe_op op_mod (pe_op op_fdiv (pv 3) (pe_int)) (pe_int)))
      (pss_cons (ps_set (i := 6) sc.nd rfl (Or.inl rfl) (pe_call G__law_bulk (hr.mono (by decide)) rfl T.m__law_bulk k__law_bulk b__law_bulk .nil G.passE0 (pa_cons (pe_op op_fdiv (pv 3) (pe_int)) pa_nil)))
      (pss_cons (ps_set (i := 7) sc.nd rfl (Or.inl rfl) (pe_op op_mod (pe_op op_fdiv (pv 3) (pe_int)) (pe_int)))
      (pss_cons (ps_if (pt_cmpR op_eq (pe_op op_mod (pe_op op_fdiv (pv 3) (pe_int)) (pe_int)) (pe_int) (nomark _)) (pss_one (ps_set (i := 7) sc.nd rfl (Or.inl rfl) (pe_int))) pss_nil)
      (pss_cons (ps_if (pt_cmpR op_eq (pe_op op_mod (pe_op op_fdiv (pv 3) (pe_int)) (pe_int)) (pe_int) (nomark _)) (pss_cons (ps_set (i := 6) sc.nd rfl (Or.inl rfl) (pe_int))
      (pss_one (ps_set (i := 7) sc.nd rfl (Or.inl rfl) (pe_int)))) pss_nil)
      (pss_cons (ps_set (i := 8) sc.nd rfl (Or.inl rfl) (pe_cmpR op_le (pe_op op_add (pe_op op_add (pe_op op_add (pe_call G__law_used (hr.mono (by decide)) rfl T.m__law_used k__law_used b__law_used .nil G.passE0 (pa_cons (pv 2) pa_nil)) (pe_int)) (pv 5)) (pv 6)) (pv 1) (nomark _)))
      (pss_cons (ps_set (i := 9) sc.nd rfl (Or.inl rfl) (pe_non))
      (pss_cons (G.ps_try ⟨rfl, rfl⟩ rfl T.m_Full (fun cls h => by rcases h with rfl <;> first | exact T.e_Full_Full) (fun Ex pn xe hx => (pss_one (ps_if (pt_cmpR op_eq (pe_op op_mod (pe_op op_fdiv (pv 3) (pe_int)) (pe_int)) (pe_int) (nomark _)) (pss_one (ps_set (i := 9) sc.nd rfl (Or.inl rfl) (G.pe_methX (pv 0) T.cl_Heap T.me_Heap_make G_Heap_make (hr.mono (by decide)) bd_Heap_make_2 hd_Heap_make_2 hx (pa_cons (pv 5) pa_nil)))) (pss_one (ps_if (pt_cmpR op_eq (pe_op op_mod (pe_op op_fdiv (pv 3) (pe_int)) (pe_int)) (pe_int) (nomark _)) (pss_one (ps_set (i := 9) sc.nd rfl (Or.inl rfl) (G.pe_methX (pv 0) T.cl_Heap T.me_Heap_make G_Heap_make (hr.mono (by decide)) bd_Heap_make_1 hd_Heap_make_1 hx (pa_cons (pv 5) (pa_cons (pv 6) pa_nil))))) (pss_one (ps_set (i := 9) sc.nd rfl (Or.inl rfl) (G.pe_methX (pv 0) T.cl_Heap T.me_Heap_make G_Heap_make (hr.mono (by decide)) b_Heap_make .nil hx (pa_cons (pv 5) (pa_cons (pv 6) (pa_cons (pv 7) pa_nil))))))))))) (fun ea pn => (pss_one (ps_set (i := 9) sc.nd rfl (Or.inl rfl) (pe_un un_neg (pe_int))))))
      (pss_cons (ps_if (pt_not (pt_val (pv 8))) (pss_one (ps_ret (pe_cmpR op_eq (pv 9) (pe_un un_neg (pe_int)) (nomark _)))) pss_nil)
      (pss_cons (ps_set (i := 10) sc.nd rfl (Or.inl rfl) (pe_callB (G.call_minL rfl) (by rfl) T.z_min G.boot_min (pa_cons (pe_op op_cat (G.pe_lc (cns := ["_law_due"]) [2] (pi_range1 rfl T.z_range (pa_cons (pe_callB G.call_lenL (by rfl) T.z_len G.boot_len (pa_cons (pv 2) pa_nil)) pa_nil)) (fun _ _ _ _ _ => (G.pf_one (pt_cmpR G.op_isN_ (pe_ix ix_list (pv 1) (pv 0) (fun _ _ => rfl)) (pe_non) (nomark _)))) (fun _ _ _ _ _ => (pv 0)) rfl rfl (by repeat (first | exact trivial | refine ⟨rfl, ?_⟩)) (by repeat (first | exact trivial | refine ⟨rfl, ?_⟩)) rfl (by decide +kernel) rfl (by decide +kernel) (by decide +kernel) rfl (by decide +kernel)) (pe_lst (pa_cons (pe_callB G.call_lenL (by rfl) T.z_len G.boot_len (pa_cons (pv 2) pa_nil)) pa_nil))) pa_nil)))
      (pss_cons (ps_if (pt_cmpR op_eq (pv 10) (pe_callB G.call_lenL (by rfl) T.z_len G.boot_len (pa_cons (pv 2) pa_nil)) (nomark _)) (pss_one (ps_expr (pe_bm PySem.F.plainAttrs_list PySem.F.slot_list_append PySem.F.type_list_append mt_append (pv 2) (pa_cons (pe_non) pa_nil)))) pss_nil)
      (pss_cons (ps_asg (pe_lst (pa_cons (pv 4) (pa_cons (pv 6) (pa_cons (pv 7) (pa_cons (pe_int) (pa_cons (pe_op op_rep (pe_lst (pa_cons (pe_non) pa_nil)) (pv 5)) pa_nil)))))) (pg_sub (pv 2) (pv 10) set_list))
      (pss_one (ps_ret ((pe_and (pe_call G__law_whole (hr.mono (by decide)) rfl T.m__law_whole k__law_whole b__law_whole .nil G.passE0 (pa_cons (pv 9) pa_nil)) (pe_one (pe_cmpR op_eq (pv 9) (pv 10) (nomark _))))))))))))))))))), ?_⟩
    obtain ⟨z0, z1, z2, z3, z4, rfl, q⟩ := h
    exact _law_made_rd tx q
theorem ok__law_deed {fd : FuncData} (F : Fun K "_law_deed" "_law_deed" s__law_deed f__law_deed fd) {fd_Heap_back : FuncData} (G_Heap_back : FnOk P w K mg base (G.CXe P w) 2 f_Heap_back fd_Heap_back ["self", "place"] (S_Heap_back C_Cell C_Heap)) (b_Heap_back : Binds K fd_Heap_back ["self", "place"] []) (k_Heap_back : PySem.W.keepIn K (.ref f_Heap_back) = true) {fd__law_made : FuncData} (G__law_made : FnOk P w K mg base (G.CXe P w) 4 f__law_made fd__law_made ["_law_heap", "_law_room", "_law_due", "_law_cell", "_law_birth"] (S_made C_Cell C_Heap)) (b__law_made : Binds K fd__law_made ["_law_heap", "_law_room", "_law_due", "_law_cell", "_law_birth"] []) (k__law_made : PySem.W.keepIn K (.ref f__law_made) = true) {fd__law_mixed : FuncData} (G__law_mixed : FnOk P w K mg base (G.CXe P w) 1 f__law_mixed fd__law_mixed ["_law_cell", "_law_prime"] (S_mixed)) (b__law_mixed : Binds K fd__law_mixed ["_law_cell", "_law_prime"] []) (k__law_mixed : PySem.W.keepIn K (.ref f__law_mixed) = true) {fd__law_places : FuncData} (G__law_places : FnOk P w K mg base (G.CXe P w) 1 f__law_places fd__law_places ["_law_due"] (S_places)) (b__law_places : Binds K fd__law_places ["_law_due"] []) (k__law_places : PySem.W.keepIn K (.ref f__law_places) = true) {fd__law_whole : FuncData} (G__law_whole : FnOk P w K mg base (G.CXe P w) 1 f__law_whole fd__law_whole ["_law_found"] (S_whole)) (b__law_whole : Binds K fd__law_whole ["_law_found"] []) (k__law_whole : PySem.W.keepIn K (.ref f__law_whole) = true) : FnOk P w K mg base (G.CXe P w) 5 f__law_deed fd ["_law_heap", "_law_room", "_law_due", "_law_cell", "_law_birth"] (S_deed C_Cell C_Heap) := by
  have sc := sc__law_deed
  have tx : TxC K C_Cell C_Heap := ⟨T.cl_Cell, T.n_Cell_birth, T.n_Cell_bulk, T.n_Cell_tone, T.n_Cell_load, T.n_Cell_fields, T.cl_Heap, T.n_Heap_room, T.n_Heap_cells, T.n_Heap_used, T.n_Heap_born, T.eq_Cell⟩
  refine G.fok F sc (fun vs H Q E h => ?_) (fun cdv A outer s H vs Q E hr h => ?_)
  · obtain ⟨z0, z1, z2, z3, z4, rfl, q⟩ := h; rfl
  · refine ⟨rd__law_deed K C_Heap (S_Heap_back C_Cell C_Heap) (S_made C_Cell C_Heap) (S_mixed) (S_places) (S_whole), (pss_cons (ps_set (i := 5) sc.nd rfl (Or.inl rfl) (pe_call G__law_places (hr.mono (by decide)) rfl T.m__law_places k__law_places b__law_places .nil G.passE0 (pa_cons (pv 2) pa_nil)))
      (pss_cons (ps_if (PW.pt (pw_or (pt_cmpR op_lt (pe_op op_mod (pe_op op_fdiv (pv 3) (pe_int)) (pe_int)) (pe_int) (nomark _)) (pw_or1 (pt_cmpR (G.op_eqL (hu_of hr)) (pv 5) (pe_lst pa_nil) (nomark _))))) (pss_one (ps_ret (pe_call G__law_made (hr.mono (by decide)) rfl T.m__law_made k__law_made b__law_made .nil G.passE0 (pa_cons (pv 0) (pa_cons (pv 1) (pa_cons (pv 2) (pa_cons (pv 3) (pa_cons (pv 4) pa_nil)))))))) pss_nil)
      (pss_cons (ps_set (i := 6) sc.nd rfl (Or.inl rfl) (pe_ix ix_list (pv 5) (pe_op op_mod (pe_call G__law_mixed (hr.mono (by decide)) rfl T.m__law_mixed k__law_mixed b__law_mixed .nil G.passE0 (pa_cons (pv 3) (pa_cons (pe_int) pa_nil))) (pe_callB G.call_lenL (by rfl) T.z_len G.boot_len (pa_cons (pv 5) pa_nil))) (fun _ _ => rfl)))
      (pss_cons (ps_if (pt_cmpR op_eq (pe_op op_mod (pe_op op_fdiv (pv 3) (pe_int)) (pe_int)) (pe_int) (nomark _)) (pss_cons (ps_set (i := 7) sc.nd rfl (Or.inl rfl) (pe_meth (pv 0) T.cl_Heap T.me_Heap_back G_Heap_back (hr.mono (by decide)) b_Heap_back .nil G.passE0 (pa_cons (pv 6) pa_nil)))
      (pss_cons (ps_set (i := 8) sc.nd rfl (Or.inl rfl) (pe_ix ix_list (pe_ix ix_list (pv 2) (pv 6) (fun _ _ => rfl)) (pe_int) (fun _ _ => rfl)))
      (pss_cons (ps_asg (pe_non) (pg_sub (pv 2) (pv 6) set_list))
      (pss_one (ps_ret ((pe_and (pe_call G__law_whole (hr.mono (by decide)) rfl T.m__law_whole k__law_whole b__law_whole .nil G.passE0 (pa_cons (pv 7) pa_nil)) (pe_one (pe_cmpR op_eq (pv 7) (pv 8) (nomark _)))))))))) pss_nil)
      (pss_cons (ps_if (pt_cmpR op_gt (pe_callB G.call_lenL (by rfl) T.z_len G.boot_len (pa_cons (pe_ix ix_list (pe_ix ix_list (pv 2) (pv 6) (fun _ _ => rfl)) (pe_int) (fun _ _ => rfl)) pa_nil)) (pe_int) (nomark _)) (pss_cons (ps_set (i := 9) sc.nd rfl (Or.inl rfl) (pe_op op_mod (pe_call G__law_mixed (hr.mono (by decide)) rfl T.m__law_mixed k__law_mixed b__law_mixed .nil G.passE0 (pa_cons (pv 3) (pa_cons (pe_int) pa_nil))) (pe_callB G.call_lenL (by rfl) T.z_len G.boot_len (pa_cons (pe_ix ix_list (pe_ix ix_list (pv 2) (pv 6) (fun _ _ => rfl)) (pe_int) (fun _ _ => rfl)) pa_nil))))
      (pss_cons (ps_set (i := 10) sc.nd rfl (Or.inl rfl) (pe_ix ix_list (pv 5) (pe_op op_mod (pe_call G__law_mixed (hr.mono (by decide)) rfl T.m__law_mixed k__law_mixed b__law_mixed .nil G.passE0 (pa_cons (pv 3) (pa_cons (pe_int) pa_nil))) (pe_callB G.call_lenL (by rfl) T.z_len G.boot_len (pa_cons (pv 5) pa_nil))) (fun _ _ => rfl)))
      (pss_cons (ps_set (i := 11) sc.nd rfl (Or.inl rfl) (pe_fld (pe_ix ix_list (pe_fld (pv 0) rfl) (pv 6) (fun _ _ => rfl)) rfl))
      (pss_cons (ps_asg (pv 10) (pg_sub (pv 11) (pv 9) set_list))
      (pss_one (ps_asg (pv 10) (pg_sub (pe_ix ix_list (pe_ix ix_list (pv 2) (pv 6) (fun _ _ => rfl)) (pe_int) (fun _ _ => rfl)) (pv 9) set_list))))))) pss_nil)
      (pss_one (ps_ret (pe_bl)))))))), ?_⟩
    obtain ⟨z0, z1, z2, z3, z4, rfl, q⟩ := h
    exact _law_deed_rd tx q
theorem ok__law_state {fd : FuncData} (F : Fun K "_law_state" "_law_state" s__law_state f__law_state fd) {fd_Heap_free : FuncData} (G_Heap_free : FnOk P w K mg base (G.CXe P w) 1 f_Heap_free fd_Heap_free ["self"] (S_Heap_free C_Heap)) (b_Heap_free : Binds K fd_Heap_free ["self"] []) (k_Heap_free : PySem.W.keepIn K (.ref f_Heap_free) = true) {fd__law_mixed : FuncData} (G__law_mixed : FnOk P w K mg base (G.CXe P w) 1 f__law_mixed fd__law_mixed ["_law_cell", "_law_prime"] (S_mixed)) (b__law_mixed : Binds K fd__law_mixed ["_law_cell", "_law_prime"] []) (k__law_mixed : PySem.W.keepIn K (.ref f__law_mixed) = true) {fd__law_used : FuncData} (G__law_used : FnOk P w K mg base (G.CXe P w) 1 f__law_used fd__law_used ["_law_due"] (S_used)) (b__law_used : Binds K fd__law_used ["_law_due"] []) (k__law_used : PySem.W.keepIn K (.ref f__law_used) = true) {fd__law_whole : FuncData} (G__law_whole : FnOk P w K mg base (G.CXe P w) 1 f__law_whole fd__law_whole ["_law_found"] (S_whole)) (b__law_whole : Binds K fd__law_whole ["_law_found"] []) (k__law_whole : PySem.W.keepIn K (.ref f__law_whole) = true) {fd_birth_at : FuncData} (G_birth_at : FnOk P w K mg base (G.CXe P w) 2 f_birth_at fd_birth_at ["heap", "place"] (S_birth_at C_Cell C_Heap)) (b_birth_at : Binds K fd_birth_at ["heap", "place"] []) (k_birth_at : PySem.W.keepIn K (.ref f_birth_at) = true) : FnOk P w K mg base (G.CXe P w) 3 f__law_state fd ["_law_heap", "_law_room", "_law_due", "_law_born", "_law_cell"] (S_state C_Cell C_Heap) := by
  have sc := sc__law_state
  have tx : TxC K C_Cell C_Heap := ⟨T.cl_Cell, T.n_Cell_birth, T.n_Cell_bulk, T.n_Cell_tone, T.n_Cell_load, T.n_Cell_fields, T.cl_Heap, T.n_Heap_room, T.n_Heap_cells, T.n_Heap_used, T.n_Heap_born, T.eq_Cell⟩
  refine G.fok F sc (fun vs H Q E h => ?_) (fun cdv A outer s H vs Q E hr h => ?_)
  · obtain ⟨z0, z1, z2, z3, z4, rfl, q⟩ := h; rfl
  · refine ⟨rd__law_state K C_Heap (S_Heap_free C_Heap) (S_mixed) (S_used) (S_whole) (S_birth_at C_Cell C_Heap), (pss_cons (ps_set (i := 5) sc.nd rfl (Or.inl rfl) (pe_meth0 (pv 0) T.cl_Heap T.me_Heap_free G_Heap_free (hr.mono (by decide)) b_Heap_free .nil G.passE0))
      (pss_cons (ps_if (PW.pt (pw_or (pt_not (pt_val (pe_call G__law_whole (hr.mono (by decide)) rfl T.m__law_whole k__law_whole b__law_whole .nil G.passE0 (pa_cons (pe_fld (pv 0) rfl) pa_nil)))) (pw_or (pt_not (pt_val (pe_call G__law_whole (hr.mono (by decide)) rfl T.m__law_whole k__law_whole b__law_whole .nil G.passE0 (pa_cons (pv 5) pa_nil)))) (pw_or1 (pt_not (pt_val (pe_call G__law_whole (hr.mono (by decide)) rfl T.m__law_whole k__law_whole b__law_whole .nil G.passE0 (pa_cons (pe_fld (pv 0) rfl) pa_nil)))))))) (pss_one (ps_ret (pe_bl))) pss_nil)
      (pss_cons (ps_if (PW.pt (pw_or (pt_cmpR op_ne (pe_fld (pv 0) rfl) (pe_call G__law_used (hr.mono (by decide)) rfl T.m__law_used k__law_used b__law_used .nil G.passE0 (pa_cons (pv 2) pa_nil)) (nomark _)) (pw_or (pt_cmpR op_ne (pv 5) (pe_op op_sub (pv 1) (pe_fld (pv 0) rfl)) (nomark _)) (pw_or (pt_cmpR op_ne (pe_fld (pv 0) rfl) (pv 3) (nomark _)) (pw_or1 (pt_cmpR op_ne (pe_callB G.call_lenL (by rfl) T.z_len G.boot_len (pa_cons (pe_fld (pv 0) rfl) pa_nil)) (pe_callB G.call_lenL (by rfl) T.z_len G.boot_len (pa_cons (pv 2) pa_nil)) (nomark _))))))) (pss_one (ps_ret (pe_bl))) pss_nil)
      (pss_cons (ps_if (pt_cmpR G.op_notN_ (pe_call G_birth_at (hr.mono (by decide)) rfl T.m_birth_at k_birth_at b_birth_at .nil G.passE0 (pa_cons (pv 0) (pa_cons (pe_non) pa_nil))) (pe_non) (nomark _)) (pss_one (ps_ret (pe_bl))) pss_nil)
      (pss_cons (ps_if (pt_cmpR (G.op_eqL (hu_of hr)) (pv 2) (pe_lst pa_nil) (nomark _)) (pss_one (ps_ret (pe_bl))) pss_nil)
      (pss_cons (ps_set (i := 6) sc.nd rfl (Or.inl rfl) (pe_op op_mod (pe_call G__law_mixed (hr.mono (by decide)) rfl T.m__law_mixed k__law_mixed b__law_mixed .nil G.passE0 (pa_cons (pv 4) (pa_cons (pe_int) pa_nil))) (pe_callB G.call_lenL (by rfl) T.z_len G.boot_len (pa_cons (pv 2) pa_nil))))
      (pss_cons (ps_set (i := 7) sc.nd rfl (Or.inl rfl) (pe_call G_birth_at (hr.mono (by decide)) rfl T.m_birth_at k_birth_at b_birth_at .nil G.passE0 (pa_cons (pv 0) (pa_cons (pv 6) pa_nil))))
      (pss_cons (ps_if (pt_cmpR G.op_isN_ (pe_ix ix_list (pv 2) (pv 6) (fun _ _ => rfl)) (pe_non) (nomark _)) (pss_one (ps_ret (pe_cmpR G.op_isN_ (pv 7) (pe_non) (nomark _)))) pss_nil)
      (pss_one (ps_ret ((pe_and (pe_call G__law_whole (hr.mono (by decide)) rfl T.m__law_whole k__law_whole b__law_whole .nil G.passE0 (pa_cons (pv 7) pa_nil)) (pe_one (pe_cmpR op_eq (pv 7) (pe_ix ix_list (pe_ix ix_list (pv 2) (pv 6) (fun _ _ => rfl)) (pe_int) (fun _ _ => rfl)) (nomark _))))))))))))))), ?_⟩
    obtain ⟨z0, z1, z2, z3, z4, rfl, q⟩ := h
    exact _law_state_rd tx q
theorem ok__law_end {fd : FuncData} (F : Fun K "_law_end" "_law_end" s__law_end f__law_end fd) {fd_Cell_units : FuncData} (G_Cell_units : FnOk P w K mg base (G.CXe P w) 1 f_Cell_units fd_Cell_units ["self"] (S_Cell_units C_Cell)) (b_Cell_units : Binds K fd_Cell_units ["self"] []) (k_Cell_units : PySem.W.keepIn K (.ref f_Cell_units) = true) {fd__law_whole : FuncData} (G__law_whole : FnOk P w K mg base (G.CXe P w) 1 f__law_whole fd__law_whole ["_law_found"] (S_whole)) (b__law_whole : Binds K fd__law_whole ["_law_found"] []) (k__law_whole : PySem.W.keepIn K (.ref f__law_whole) = true) {fd_birth_at : FuncData} (G_birth_at : FnOk P w K mg base (G.CXe P w) 2 f_birth_at fd_birth_at ["heap", "place"] (S_birth_at C_Cell C_Heap)) (b_birth_at : Binds K fd_birth_at ["heap", "place"] []) (k_birth_at : PySem.W.keepIn K (.ref f_birth_at) = true) : FnOk P w K mg base (G.CXe P w) 3 f__law_end fd ["_law_heap", "_law_due"] (S_end C_Cell C_Heap) := by
  have sc := sc__law_end
  have tx : TxC K C_Cell C_Heap := ⟨T.cl_Cell, T.n_Cell_birth, T.n_Cell_bulk, T.n_Cell_tone, T.n_Cell_load, T.n_Cell_fields, T.cl_Heap, T.n_Heap_room, T.n_Heap_cells, T.n_Heap_used, T.n_Heap_born, T.eq_Cell⟩
  refine G.fok F sc (fun vs H Q E h => ?_) (fun cdv A outer s H vs Q E hr h => ?_)
  · obtain ⟨z0, z1, rfl, q⟩ := h; rfl
  · refine ⟨rd__law_end K C_Cell (S_Cell_units C_Cell) (S_whole) (S_birth_at C_Cell C_Heap), (pss_cons (ps_for PassesOwn.never rfl (pi_range1 rfl T.z_range (pa_cons (pe_callB G.call_lenL (by rfl) T.z_len G.boot_len (pa_cons (pv 1) pa_nil)) pa_nil)) (pg_name (i := 2) sc.nd rfl (Or.inl rfl))
      (pss_cons (ps_set (i := 3) sc.nd rfl (Or.inl rfl) (pe_ix ix_list (pe_fld (pv 0) rfl) (pv 2) (fun _ _ => rfl)))
      (pss_one (ps_if (pt_cmpR G.op_isN_ (pe_ix ix_list (pv 1) (pv 2) (fun _ _ => rfl)) (pe_non) (nomark _)) (pss_one (ps_if (PW.pt (pw_or (pt_cmpR G.op_notN_ (pv 3) (pe_non) (nomark _)) (pw_or1 (pt_cmpR G.op_notN_ (pe_call G_birth_at (hr.mono (by decide)) rfl T.m_birth_at k_birth_at b_birth_at .nil G.passE0 (pa_cons (pv 0) (pa_cons (pv 2) pa_nil))) (pe_non) (nomark _))))) (pss_one (ps_ret (pe_bl))) pss_nil)) (pss_cons (ps_set (i := 4) sc.nd rfl (Or.inl rfl) (pe_lst (pa_cons (pe_fld (pv 3) rfl) (pa_cons (pe_fld (pv 3) rfl) (pa_cons (pe_fld (pv 3) rfl) (pa_cons (pe_fld (pv 3) rfl) pa_nil))))))
      (pss_cons (ps_for PassesOwn.never rfl (pi_list (pe_op op_cat (pv 4) (pe_lst (pa_cons (pe_meth0 (pv 3) T.cl_Cell T.me_Cell_units G_Cell_units (hr.mono (by decide)) b_Cell_units .nil G.passE0) (pa_cons (pe_call G_birth_at (hr.mono (by decide)) rfl T.m_birth_at k_birth_at b_birth_at .nil G.passE0 (pa_cons (pv 0) (pa_cons (pv 2) pa_nil))) pa_nil))))) (pg_name (i := 5) sc.nd rfl (Or.inl rfl))
      (pss_one (ps_if (pt_not (pt_val (pe_call G__law_whole (hr.mono (by decide)) rfl T.m__law_whole k__law_whole b__law_whole .nil G.passE0 (pa_cons (pv 5) pa_nil)))) (pss_one (ps_ret (pe_bl))) pss_nil)))
      (pss_cons (ps_if (PW.pt (pw_or (pt_cmpR (G.op_neL (hu_of hr)) (pv 4) (pe_slice sl_list (pe_ix ix_list (pv 1) (pv 2) (fun _ _ => rfl)) po_none (po_some (pe_int))) (nomark _)) (pw_or (pt_not (pt_val (pe_callB G.call_isi (by rfl) T.z_isinstance G.boot_isinstance (pa_cons (pe_fld (pv 3) rfl) (pa_cons (pe_bltn rfl T.z_list G.boot_list rfl) pa_nil))))) (pw_or1 (pt_cmpR (G.op_neL (hu_of hr)) (pe_fld (pv 3) rfl) (pe_ix ix_list (pe_ix ix_list (pv 1) (pv 2) (fun _ _ => rfl)) (pe_int) (fun _ _ => rfl)) (nomark _)))))) (pss_one (ps_ret (pe_bl))) pss_nil)
      (pss_one (ps_if (PW.pt (pw_or (pt_cmpR op_ne (pe_meth0 (pv 3) T.cl_Cell T.me_Cell_units G_Cell_units (hr.mono (by decide)) b_Cell_units .nil G.passE0) (pe_op op_add (pe_op op_add (pe_int) (pe_callB G.call_lenL (by rfl) T.z_len G.boot_len (pa_cons (pe_ix ix_list (pe_ix ix_list (pv 1) (pv 2) (fun _ _ => rfl)) (pe_int) (fun _ _ => rfl)) pa_nil))) (pe_ix ix_list (pe_ix ix_list (pv 1) (pv 2) (fun _ _ => rfl)) (pe_int) (fun _ _ => rfl))) (nomark _)) (pw_or1 (pt_cmpR op_ne (pe_call G_birth_at (hr.mono (by decide)) rfl T.m_birth_at k_birth_at b_birth_at .nil G.passE0 (pa_cons (pv 0) (pa_cons (pv 2) pa_nil))) (pe_ix ix_list (pe_ix ix_list (pv 1) (pv 2) (fun _ _ => rfl)) (pe_int) (fun _ _ => rfl)) (nomark _))))) (pss_one (ps_ret (pe_bl))) pss_nil)))))))))
      (pss_one (ps_ret (pe_bl)))), ?_⟩
    obtain ⟨z0, z1, rfl, q⟩ := h
    exact _law_end_rd tx q
theorem ok_law {fl : Addr} {fd : FuncData} (F : Fun K "law" "law" s_law fl fd) {fd_Heap___init__ : FuncData} (G_Heap___init__ : FnOk P w K mg base (G.CXe P w) 1 f_Heap___init__ fd_Heap___init__ ["self", "room"] (S_Heap_init C_Heap)) (b_Heap___init__ : Binds K fd_Heap___init__ ["self", "room"] []) (k_Heap___init__ : PySem.W.keepIn K (.ref f_Heap___init__) = true) {fd_Heap_there : FuncData} (G_Heap_there : FnOk P w K mg base (G.CXe P w) 1 f_Heap_there fd_Heap_there ["self"] (S_Heap_there C_Heap)) (b_Heap_there : Binds K fd_Heap_there ["self"] []) (k_Heap_there : PySem.W.keepIn K (.ref f_Heap_there) = true) {fd__law_cell_at : FuncData} (G__law_cell_at : FnOk P w K mg base (G.CXe P w) 1 f__law_cell_at fd__law_cell_at ["_law_script", "_law_k"] (S_at K)) (b__law_cell_at : Binds K fd__law_cell_at ["_law_script", "_law_k"] []) (k__law_cell_at : PySem.W.keepIn K (.ref f__law_cell_at) = true) {fd__law_deed : FuncData} (G__law_deed : FnOk P w K mg base (G.CXe P w) 5 f__law_deed fd__law_deed ["_law_heap", "_law_room", "_law_due", "_law_cell", "_law_birth"] (S_deed C_Cell C_Heap)) (b__law_deed : Binds K fd__law_deed ["_law_heap", "_law_room", "_law_due", "_law_cell", "_law_birth"] []) (k__law_deed : PySem.W.keepIn K (.ref f__law_deed) = true) {fd__law_end : FuncData} (G__law_end : FnOk P w K mg base (G.CXe P w) 3 f__law_end fd__law_end ["_law_heap", "_law_due"] (S_end C_Cell C_Heap)) (b__law_end : Binds K fd__law_end ["_law_heap", "_law_due"] []) (k__law_end : PySem.W.keepIn K (.ref f__law_end) = true) {fd__law_places : FuncData} (G__law_places : FnOk P w K mg base (G.CXe P w) 1 f__law_places fd__law_places ["_law_due"] (S_places)) (b__law_places : Binds K fd__law_places ["_law_due"] []) (k__law_places : PySem.W.keepIn K (.ref f__law_places) = true) {fd__law_room_by : FuncData} (G__law_room_by : FnOk P w K mg base (G.CXe P w) 1 f__law_room_by fd__law_room_by ["_law_cell"] (S_any)) (b__law_room_by : Binds K fd__law_room_by ["_law_cell"] []) (k__law_room_by : PySem.W.keepIn K (.ref f__law_room_by) = true) {fd__law_state : FuncData} (G__law_state : FnOk P w K mg base (G.CXe P w) 3 f__law_state fd__law_state ["_law_heap", "_law_room", "_law_due", "_law_born", "_law_cell"] (S_state C_Cell C_Heap)) (b__law_state : Binds K fd__law_state ["_law_heap", "_law_room", "_law_due", "_law_born", "_law_cell"] []) (k__law_state : PySem.W.keepIn K (.ref f__law_state) = true) : FnOk P w K mg base (G.CXe P w) 6 fl fd ["_law_script"] (S_law K) := by
  have sc := sc_law
  have tx : TxC K C_Cell C_Heap := ⟨T.cl_Cell, T.n_Cell_birth, T.n_Cell_bulk, T.n_Cell_tone, T.n_Cell_load, T.n_Cell_fields, T.cl_Heap, T.n_Heap_room, T.n_Heap_cells, T.n_Heap_used, T.n_Heap_born, T.eq_Cell⟩
  refine G.fok F sc (fun vs H Q E h => ?_) (fun cdv A outer s H vs Q E hr h => ?_)
  · obtain ⟨z0, rfl, q⟩ := h; rfl
  · refine ⟨rd_law K C_Heap (S_Heap_init C_Heap) (S_Heap_there C_Heap) (S_at K) (S_deed C_Cell C_Heap) (S_end C_Cell C_Heap) (S_places) (S_any) (S_state C_Cell C_Heap), (pss_cons (ps_set (i := 1) sc.nd rfl (Or.inl rfl) (pe_lst (pa_cons (pe_call G__law_room_by (hr.mono (by decide)) rfl T.m__law_room_by k__law_room_by b__law_room_by .nil G.passE0 (pa_cons (pe_call G__law_cell_at (hr.mono (by decide)) rfl T.m__law_cell_at k__law_cell_at b__law_cell_at .nil G.passE0 (pa_cons (pv 0) (pa_cons (pe_int) pa_nil))) pa_nil)) (pa_cons (pe_call G__law_room_by (hr.mono (by decide)) rfl T.m__law_room_by k__law_room_by b__law_room_by .nil G.passE0 (pa_cons (pe_call G__law_cell_at (hr.mono (by decide)) rfl T.m__law_cell_at k__law_cell_at b__law_cell_at .nil G.passE0 (pa_cons (pv 0) (pa_cons (pe_int) pa_nil))) pa_nil)) pa_nil))))
      (pss_cons (ps_set (i := 2) sc.nd rfl (Or.inl rfl) (pe_lst (pa_cons (pe_make T.mk_Heap G_Heap___init__ (hr.mono (by decide)) rfl T.m_Heap b_Heap___init__ .nil G.passE0 (pa_cons (pe_ix ix_list (pv 1) (pe_int) (fun _ _ => rfl)) pa_nil)) (pa_cons (pe_make T.mk_Heap G_Heap___init__ (hr.mono (by decide)) rfl T.m_Heap b_Heap___init__ .nil G.passE0 (pa_cons (pe_ix ix_list (pv 1) (pe_int) (fun _ _ => rfl)) pa_nil)) pa_nil))))
      (pss_cons (ps_set (i := 3) sc.nd rfl (Or.inl rfl) (pe_lst (pa_cons (pe_lst pa_nil) (pa_cons (pe_lst pa_nil) pa_nil))))
      (pss_cons (ps_set (i := 4) sc.nd rfl (Or.inl rfl) (pe_lst (pa_cons (pe_int) (pa_cons (pe_int) pa_nil))))
      (pss_cons (ps_set (i := 5) sc.nd rfl (Or.inl rfl) (pe_lst pa_nil))
      (pss_cons (ps_for PassesOwn.never rfl (pi_list (pe_slice sl_list (pv 0) (po_some (pe_int)) (po_some (pe_int)))) (pg_name (i := 6) sc.nd rfl (Or.inl rfl))
      (pss_cons (ps_set (i := 7) sc.nd rfl (Or.inl rfl) (pe_op op_mod (pv 6) (pe_int)))
      (pss_cons (ps_set (i := 8) sc.nd rfl (Or.inl rfl) (pe_ix ix_list (pv 3) (pv 7) (fun _ _ => rfl)))
      (pss_cons (ps_set (i := 9) sc.nd rfl (Or.inl rfl) (pe_callB G.call_lenL (by rfl) T.z_len G.boot_len (pa_cons (pe_call G__law_places (hr.mono (by decide)) rfl T.m__law_places k__law_places b__law_places .nil G.passE0 (pa_cons (pv 8) pa_nil)) pa_nil)))
      (pss_cons (ps_if (pt_not (pt_val (pe_call G__law_deed (hr.mono (by decide)) rfl T.m__law_deed k__law_deed b__law_deed .nil G.passE0 (pa_cons (pe_ix ix_list (pv 2) (pv 7) (fun _ _ => rfl)) (pa_cons (pe_ix ix_list (pv 1) (pv 7) (fun _ _ => rfl)) (pa_cons (pv 8) (pa_cons (pv 6) (pa_cons (pe_op op_add (pe_ix ix_list (pv 4) (pv 7) (fun _ _ => rfl)) (pe_int)) pa_nil)))))))) (pss_one (ps_ret (pe_bl))) pss_nil)
      (pss_cons (ps_if (pt_cmpR op_gt (pe_callB G.call_lenL (by rfl) T.z_len G.boot_len (pa_cons (pe_call G__law_places (hr.mono (by decide)) rfl T.m__law_places k__law_places b__law_places .nil G.passE0 (pa_cons (pv 8) pa_nil)) pa_nil)) (pv 9) (nomark _)) (pss_one (ps_asg (pe_op op_add (pe_ix ix_list (pv 4) (pv 7) (fun _ _ => rfl)) (pe_int)) (pg_sub (pv 4) (pv 7) set_list))) pss_nil)
      (pss_cons (ps_set (i := 10) sc.nd rfl (Or.inl rfl) (pe_meth0 (pe_ix ix_list (pv 2) (pv 7) (fun _ _ => rfl)) T.cl_Heap T.me_Heap_there G_Heap_there (hr.mono (by decide)) b_Heap_there .nil G.passE0))
      (pss_cons (ps_if (PW.pt (pw_or (pt_not (pt_val (pe_callB G.call_isi (by rfl) T.z_isinstance G.boot_isinstance (pa_cons (pv 10) (pa_cons (pe_bltn rfl T.z_list G.boot_list rfl) pa_nil))))) (pw_or1 (pt_cmpR (G.op_neL (hu_of hr)) (pv 10) (pe_call G__law_places (hr.mono (by decide)) rfl T.m__law_places k__law_places b__law_places .nil G.passE0 (pa_cons (pv 8) pa_nil)) (nomark _))))) (pss_one (ps_ret (pe_bl))) pss_nil)
      (pss_cons (ps_expr (pe_bm PySem.F.plainAttrs_list PySem.F.slot_list_append PySem.F.type_list_append mt_append (pv 5) (pa_cons (pe_lst (pa_cons (pv 10) (pa_cons (pe_callTy G.call_listL (by rfl) T.z_list G.boot_list (pa_cons (pv 10) pa_nil)) pa_nil))) pa_nil)))
      (pss_cons (ps_set (i := 11) sc.nd rfl (Or.inl rfl) (pe_meth0 (pe_ix ix_list (pv 2) (pv 7) (fun _ _ => rfl)) T.cl_Heap T.me_Heap_there G_Heap_there (hr.mono (by decide)) b_Heap_there .nil G.passE0))
      (pss_cons (ps_expr (pe_bm0 PySem.F.plainAttrs_list PySem.F.slot_list_reverse PySem.F.type_list_reverse mt_reverse (pv 11)))
      (pss_cons (ps_expr (pe_bm PySem.F.plainAttrs_list PySem.F.slot_list_append PySem.F.type_list_append mt_append (pv 11) (pa_cons (pe_int) pa_nil)))
      (pss_cons (ps_if (pt_cmpR (G.op_neL (hu_of hr)) (pe_meth0 (pe_ix ix_list (pv 2) (pv 7) (fun _ _ => rfl)) T.cl_Heap T.me_Heap_there G_Heap_there (hr.mono (by decide)) b_Heap_there .nil G.passE0) (pe_call G__law_places (hr.mono (by decide)) rfl T.m__law_places k__law_places b__law_places .nil G.passE0 (pa_cons (pv 8) pa_nil)) (nomark _)) (pss_one (ps_ret (pe_bl))) pss_nil)
      (pss_cons (ps_if (pt_not (pt_val (pe_call G__law_state (hr.mono (by decide)) rfl T.m__law_state k__law_state b__law_state .nil G.passE0 (pa_cons (pe_ix ix_list (pv 2) (pe_int) (fun _ _ => rfl)) (pa_cons (pe_ix ix_list (pv 1) (pe_int) (fun _ _ => rfl)) (pa_cons (pe_ix ix_list (pv 3) (pe_int) (fun _ _ => rfl)) (pa_cons (pe_ix ix_list (pv 4) (pe_int) (fun _ _ => rfl)) (pa_cons (pv 6) pa_nil)))))))) (pss_one (ps_ret (pe_bl))) pss_nil)
      (pss_one (ps_if (pt_not (pt_val (pe_call G__law_state (hr.mono (by decide)) rfl T.m__law_state k__law_state b__law_state .nil G.passE0 (pa_cons (pe_ix ix_list (pv 2) (pe_int) (fun _ _ => rfl)) (pa_cons (pe_ix ix_list (pv 1) (pe_int) (fun _ _ => rfl)) (pa_cons (pe_ix ix_list (pv 3) (pe_int) (fun _ _ => rfl)) (pa_cons (pe_ix ix_list (pv 4) (pe_int) (fun _ _ => rfl)) (pa_cons (pe_op op_fdiv (pv 6) (pe_int)) pa_nil)))))))) (pss_one (ps_ret (pe_bl))) pss_nil))))))))))))))))
      (pss_cons (ps_for PassesOwn.never rfl (pi_list (pv 5)) (pg_name (i := 12) sc.nd rfl (Or.inl rfl))
      (pss_one (ps_if (pt_cmpR (G.op_neL (hu_of hr)) (pe_ix ix_list (pv 12) (pe_int) (fun _ _ => rfl)) (pe_ix ix_list (pv 12) (pe_int) (fun _ _ => rfl)) (nomark _)) (pss_one (ps_ret (pe_bl))) pss_nil)))
      (pss_one (ps_ret ((pe_and (pe_call G__law_end (hr.mono (by decide)) rfl T.m__law_end k__law_end b__law_end .nil G.passE0 (pa_cons (pe_ix ix_list (pv 2) (pe_int) (fun _ _ => rfl)) (pa_cons (pe_ix ix_list (pv 3) (pe_int) (fun _ _ => rfl)) pa_nil))) (pe_one (pe_call G__law_end (hr.mono (by decide)) rfl T.m__law_end k__law_end b__law_end .nil G.passE0 (pa_cons (pe_ix ix_list (pv 2) (pe_int) (fun _ _ => rfl)) (pa_cons (pe_ix ix_list (pv 3) (pe_int) (fun _ _ => rfl)) pa_nil))))))))))))))), ?_⟩
    obtain ⟨z0, rfl, q⟩ := h
    exact law_rd tx q
end
theorem all_mk {l : PySem.W.OpenLaw} {w : World} {K : PySem.W.Frag} {h : Heap} {mg : Str → Option Value} {fa fl C_Cell C_Heap C_Full f_Cell___init__ f_Cell_units f_Heap___init__ f_Heap_make f_Heap_lay f_Heap_back f_Heap_free f_Heap_there f_cell_at f_birth_at f__law_cell_at f__law_whole f__law_room_by f__law_bulk f__law_mixed f__law_places f__law_used f__law_made f__law_deed f__law_state f__law_end : Addr} (KI : K.In h) (GN : h.Ns mainGlobals mg) (hfa : mg "law" = some (.ref fa))
    {od1 an1 : Option Addr} {sl1 : Array (Option Value)} {oc1 kV1 dc1 pm1 cd1 ct1 : Value}
    {od2 an2 : Option Addr} {sl2 : Array (Option Value)} {oc2 kV2 dc2 pm2 cd2 ct2 : Value}
    {od3 an3 : Option Addr} {sl3 : Array (Option Value)} {oc3 kV3 dc3 pm3 cd3 ct3 : Value}
    {od4 an4 : Option Addr} {sl4 : Array (Option Value)} {oc4 kV4 dc4 pm4 cd4 ct4 : Value}
    {td4 : Addr} {tc4 : Value} {to4 : Option Addr} {tn4 : Nat} {ts4 : Array (Option Value)} {dv4_0 dv4_1 : Value}
    {od5 an5 : Option Addr} {sl5 : Array (Option Value)} {oc5 kV5 dc5 pm5 cd5 ct5 : Value}
    {od6 an6 : Option Addr} {sl6 : Array (Option Value)} {oc6 kV6 dc6 pm6 cd6 ct6 : Value}
    {od7 an7 : Option Addr} {sl7 : Array (Option Value)} {oc7 kV7 dc7 pm7 cd7 ct7 : Value}
    {od8 an8 : Option Addr} {sl8 : Array (Option Value)} {oc8 kV8 dc8 pm8 cd8 ct8 : Value}
    {od9 an9 : Option Addr} {sl9 : Array (Option Value)} {oc9 kV9 dc9 pm9 cd9 ct9 : Value}
    {od10 an10 : Option Addr} {sl10 : Array (Option Value)} {oc10 kV10 dc10 pm10 cd10 ct10 : Value}
    {od11 an11 : Option Addr} {sl11 : Array (Option Value)} {oc11 kV11 dc11 pm11 cd11 ct11 : Value}
    {od12 an12 : Option Addr} {sl12 : Array (Option Value)} {oc12 kV12 dc12 pm12 cd12 ct12 : Value}
    {od13 an13 : Option Addr} {sl13 : Array (Option Value)} {oc13 kV13 dc13 pm13 cd13 ct13 : Value}
    {od14 an14 : Option Addr} {sl14 : Array (Option Value)} {oc14 kV14 dc14 pm14 cd14 ct14 : Value}
    {od15 an15 : Option Addr} {sl15 : Array (Option Value)} {oc15 kV15 dc15 pm15 cd15 ct15 : Value}
    {od16 an16 : Option Addr} {sl16 : Array (Option Value)} {oc16 kV16 dc16 pm16 cd16 ct16 : Value}
    {od17 an17 : Option Addr} {sl17 : Array (Option Value)} {oc17 kV17 dc17 pm17 cd17 ct17 : Value}
    {od18 an18 : Option Addr} {sl18 : Array (Option Value)} {oc18 kV18 dc18 pm18 cd18 ct18 : Value}
    {od19 an19 : Option Addr} {sl19 : Array (Option Value)} {oc19 kV19 dc19 pm19 cd19 ct19 : Value}
    {od20 an20 : Option Addr} {sl20 : Array (Option Value)} {oc20 kV20 dc20 pm20 cd20 ct20 : Value}
    {od21 an21 : Option Addr} {sl21 : Array (Option Value)} {oc21 kV21 dc21 pm21 cd21 ct21 : Value}
    {od22 an22 : Option Addr} {sl22 : Array (Option Value)} {oc22 kV22 dc22 pm22 cd22 ct22 : Value}
    (a_Cell : PySem.W.nsIn K mainGlobals "Cell" = some (some (.ref C_Cell)))
    (a_Heap : PySem.W.nsIn K mainGlobals "Heap" = some (some (.ref C_Heap)))
    (a_Full : PySem.W.nsIn K mainGlobals "Full" = some (some (.ref C_Full)))
    (a1 : PySem.W.findIn K (.ref C_Cell) "__init__" = some (some (.ref f_Cell___init__)))
    (i1 : PySem.W.isFn K (.ref f_Cell___init__) = true)
    (l1 : K.lookup f_Cell___init__ = some ⟨oc1, od1, .func (PySem.W.fnOf "__init__" "Cell.__init__" (defArgs s_Cell___init__) (defBody s_Cell___init__) (defScope s_Cell___init__) .none kV1 dc1 pm1 an1 cd1 ct1), sl1⟩)
    (c1 : PySem.W.codeIn K cd1 "Cell.__init__" = true)
    (k1 : PySem.W.keepIn K (.ref f_Cell___init__) = true)
    (a2 : PySem.W.findIn K (.ref C_Cell) "units" = some (some (.ref f_Cell_units)))
    (i2 : PySem.W.isFn K (.ref f_Cell_units) = true)
    (l2 : K.lookup f_Cell_units = some ⟨oc2, od2, .func (PySem.W.fnOf "units" "Cell.units" (defArgs s_Cell_units) (defBody s_Cell_units) (defScope s_Cell_units) .none kV2 dc2 pm2 an2 cd2 ct2), sl2⟩)
    (c2 : PySem.W.codeIn K cd2 "Cell.units" = true)
    (k2 : PySem.W.keepIn K (.ref f_Cell_units) = true)
    (a3 : PySem.W.findIn K (.ref C_Heap) "__init__" = some (some (.ref f_Heap___init__)))
    (i3 : PySem.W.isFn K (.ref f_Heap___init__) = true)
    (l3 : K.lookup f_Heap___init__ = some ⟨oc3, od3, .func (PySem.W.fnOf "__init__" "Heap.__init__" (defArgs s_Heap___init__) (defBody s_Heap___init__) (defScope s_Heap___init__) .none kV3 dc3 pm3 an3 cd3 ct3), sl3⟩)
    (c3 : PySem.W.codeIn K cd3 "Heap.__init__" = true)
    (k3 : PySem.W.keepIn K (.ref f_Heap___init__) = true)
    (a4 : PySem.W.findIn K (.ref C_Heap) "make" = some (some (.ref f_Heap_make)))
    (i4 : PySem.W.isFn K (.ref f_Heap_make) = true)
    (l4 : K.lookup f_Heap_make = some ⟨oc4, od4, .func (PySem.W.fnOf "make" "Heap.make" (defArgs s_Heap_make) (defBody s_Heap_make) (defScope s_Heap_make) (.ref td4) kV4 dc4 pm4 an4 cd4 ct4), sl4⟩)
    (t4 : K.lookup td4 = some ⟨tc4, to4, .seq #[dv4_0, dv4_1] tn4, ts4⟩)
    (dr4_0 : RelV (.int 0) dv4_0)
    (dr4_1 : RelV (.int 0) dv4_1)
    (c4 : PySem.W.codeIn K cd4 "Heap.make" = true)
    (k4 : PySem.W.keepIn K (.ref f_Heap_make) = true)
    (a5 : PySem.W.findIn K (.ref C_Heap) "lay" = some (some (.ref f_Heap_lay)))
    (i5 : PySem.W.isFn K (.ref f_Heap_lay) = true)
    (l5 : K.lookup f_Heap_lay = some ⟨oc5, od5, .func (PySem.W.fnOf "lay" "Heap.lay" (defArgs s_Heap_lay) (defBody s_Heap_lay) (defScope s_Heap_lay) .none kV5 dc5 pm5 an5 cd5 ct5), sl5⟩)
    (c5 : PySem.W.codeIn K cd5 "Heap.lay" = true)
    (k5 : PySem.W.keepIn K (.ref f_Heap_lay) = true)
    (a6 : PySem.W.findIn K (.ref C_Heap) "back" = some (some (.ref f_Heap_back)))
    (i6 : PySem.W.isFn K (.ref f_Heap_back) = true)
    (l6 : K.lookup f_Heap_back = some ⟨oc6, od6, .func (PySem.W.fnOf "back" "Heap.back" (defArgs s_Heap_back) (defBody s_Heap_back) (defScope s_Heap_back) .none kV6 dc6 pm6 an6 cd6 ct6), sl6⟩)
    (c6 : PySem.W.codeIn K cd6 "Heap.back" = true)
    (k6 : PySem.W.keepIn K (.ref f_Heap_back) = true)
    (a7 : PySem.W.findIn K (.ref C_Heap) "free" = some (some (.ref f_Heap_free)))
    (i7 : PySem.W.isFn K (.ref f_Heap_free) = true)
    (l7 : K.lookup f_Heap_free = some ⟨oc7, od7, .func (PySem.W.fnOf "free" "Heap.free" (defArgs s_Heap_free) (defBody s_Heap_free) (defScope s_Heap_free) .none kV7 dc7 pm7 an7 cd7 ct7), sl7⟩)
    (c7 : PySem.W.codeIn K cd7 "Heap.free" = true)
    (k7 : PySem.W.keepIn K (.ref f_Heap_free) = true)
    (a8 : PySem.W.findIn K (.ref C_Heap) "there" = some (some (.ref f_Heap_there)))
    (i8 : PySem.W.isFn K (.ref f_Heap_there) = true)
    (l8 : K.lookup f_Heap_there = some ⟨oc8, od8, .func (PySem.W.fnOf "there" "Heap.there" (defArgs s_Heap_there) (defBody s_Heap_there) (defScope s_Heap_there) .none kV8 dc8 pm8 an8 cd8 ct8), sl8⟩)
    (c8 : PySem.W.codeIn K cd8 "Heap.there" = true)
    (k8 : PySem.W.keepIn K (.ref f_Heap_there) = true)
    (a9 : PySem.W.nsIn K mainGlobals "cell_at" = some (some (.ref f_cell_at)))
    (l9 : K.lookup f_cell_at = some ⟨oc9, od9, .func (PySem.W.fnOf "cell_at" "cell_at" (defArgs s_cell_at) (defBody s_cell_at) (defScope s_cell_at) .none kV9 dc9 pm9 an9 cd9 ct9), sl9⟩)
    (c9 : PySem.W.codeIn K cd9 "cell_at" = true)
    (k9 : PySem.W.keepIn K (.ref f_cell_at) = true)
    (a10 : PySem.W.nsIn K mainGlobals "birth_at" = some (some (.ref f_birth_at)))
    (l10 : K.lookup f_birth_at = some ⟨oc10, od10, .func (PySem.W.fnOf "birth_at" "birth_at" (defArgs s_birth_at) (defBody s_birth_at) (defScope s_birth_at) .none kV10 dc10 pm10 an10 cd10 ct10), sl10⟩)
    (c10 : PySem.W.codeIn K cd10 "birth_at" = true)
    (k10 : PySem.W.keepIn K (.ref f_birth_at) = true)
    (a11 : PySem.W.nsIn K mainGlobals "_law_cell_at" = some (some (.ref f__law_cell_at)))
    (l11 : K.lookup f__law_cell_at = some ⟨oc11, od11, .func (PySem.W.fnOf "_law_cell_at" "_law_cell_at" (defArgs s__law_cell_at) (defBody s__law_cell_at) (defScope s__law_cell_at) .none kV11 dc11 pm11 an11 cd11 ct11), sl11⟩)
    (c11 : PySem.W.codeIn K cd11 "_law_cell_at" = true)
    (k11 : PySem.W.keepIn K (.ref f__law_cell_at) = true)
    (a12 : PySem.W.nsIn K mainGlobals "_law_whole" = some (some (.ref f__law_whole)))
    (l12 : K.lookup f__law_whole = some ⟨oc12, od12, .func (PySem.W.fnOf "_law_whole" "_law_whole" (defArgs s__law_whole) (defBody s__law_whole) (defScope s__law_whole) .none kV12 dc12 pm12 an12 cd12 ct12), sl12⟩)
    (c12 : PySem.W.codeIn K cd12 "_law_whole" = true)
    (k12 : PySem.W.keepIn K (.ref f__law_whole) = true)
    (a13 : PySem.W.nsIn K mainGlobals "_law_room_by" = some (some (.ref f__law_room_by)))
    (l13 : K.lookup f__law_room_by = some ⟨oc13, od13, .func (PySem.W.fnOf "_law_room_by" "_law_room_by" (defArgs s__law_room_by) (defBody s__law_room_by) (defScope s__law_room_by) .none kV13 dc13 pm13 an13 cd13 ct13), sl13⟩)
    (c13 : PySem.W.codeIn K cd13 "_law_room_by" = true)
    (k13 : PySem.W.keepIn K (.ref f__law_room_by) = true)
    (a14 : PySem.W.nsIn K mainGlobals "_law_bulk" = some (some (.ref f__law_bulk)))
    (l14 : K.lookup f__law_bulk = some ⟨oc14, od14, .func (PySem.W.fnOf "_law_bulk" "_law_bulk" (defArgs s__law_bulk) (defBody s__law_bulk) (defScope s__law_bulk) .none kV14 dc14 pm14 an14 cd14 ct14), sl14⟩)
    (c14 : PySem.W.codeIn K cd14 "_law_bulk" = true)
    (k14 : PySem.W.keepIn K (.ref f__law_bulk) = true)
    (a15 : PySem.W.nsIn K mainGlobals "_law_mixed" = some (some (.ref f__law_mixed)))
    (l15 : K.lookup f__law_mixed = some ⟨oc15, od15, .func (PySem.W.fnOf "_law_mixed" "_law_mixed" (defArgs s__law_mixed) (defBody s__law_mixed) (defScope s__law_mixed) .none kV15 dc15 pm15 an15 cd15 ct15), sl15⟩)
    (c15 : PySem.W.codeIn K cd15 "_law_mixed" = true)
    (k15 : PySem.W.keepIn K (.ref f__law_mixed) = true)
    (a16 : PySem.W.nsIn K mainGlobals "_law_places" = some (some (.ref f__law_places)))
    (l16 : K.lookup f__law_places = some ⟨oc16, od16, .func (PySem.W.fnOf "_law_places" "_law_places" (defArgs s__law_places) (defBody s__law_places) (defScope s__law_places) .none kV16 dc16 pm16 an16 cd16 ct16), sl16⟩)
    (c16 : PySem.W.codeIn K cd16 "_law_places" = true)
    (k16 : PySem.W.keepIn K (.ref f__law_places) = true)
    (a17 : PySem.W.nsIn K mainGlobals "_law_used" = some (some (.ref f__law_used)))
    (l17 : K.lookup f__law_used = some ⟨oc17, od17, .func (PySem.W.fnOf "_law_used" "_law_used" (defArgs s__law_used) (defBody s__law_used) (defScope s__law_used) .none kV17 dc17 pm17 an17 cd17 ct17), sl17⟩)
    (c17 : PySem.W.codeIn K cd17 "_law_used" = true)
    (k17 : PySem.W.keepIn K (.ref f__law_used) = true)
    (a18 : PySem.W.nsIn K mainGlobals "_law_made" = some (some (.ref f__law_made)))
    (l18 : K.lookup f__law_made = some ⟨oc18, od18, .func (PySem.W.fnOf "_law_made" "_law_made" (defArgs s__law_made) (defBody s__law_made) (defScope s__law_made) .none kV18 dc18 pm18 an18 cd18 ct18), sl18⟩)
    (c18 : PySem.W.codeIn K cd18 "_law_made" = true)
    (k18 : PySem.W.keepIn K (.ref f__law_made) = true)
    (a19 : PySem.W.nsIn K mainGlobals "_law_deed" = some (some (.ref f__law_deed)))
    (l19 : K.lookup f__law_deed = some ⟨oc19, od19, .func (PySem.W.fnOf "_law_deed" "_law_deed" (defArgs s__law_deed) (defBody s__law_deed) (defScope s__law_deed) .none kV19 dc19 pm19 an19 cd19 ct19), sl19⟩)
    (c19 : PySem.W.codeIn K cd19 "_law_deed" = true)
    (k19 : PySem.W.keepIn K (.ref f__law_deed) = true)
    (a20 : PySem.W.nsIn K mainGlobals "_law_state" = some (some (.ref f__law_state)))
    (l20 : K.lookup f__law_state = some ⟨oc20, od20, .func (PySem.W.fnOf "_law_state" "_law_state" (defArgs s__law_state) (defBody s__law_state) (defScope s__law_state) .none kV20 dc20 pm20 an20 cd20 ct20), sl20⟩)
    (c20 : PySem.W.codeIn K cd20 "_law_state" = true)
    (k20 : PySem.W.keepIn K (.ref f__law_state) = true)
    (a21 : PySem.W.nsIn K mainGlobals "_law_end" = some (some (.ref f__law_end)))
    (l21 : K.lookup f__law_end = some ⟨oc21, od21, .func (PySem.W.fnOf "_law_end" "_law_end" (defArgs s__law_end) (defBody s__law_end) (defScope s__law_end) .none kV21 dc21 pm21 an21 cd21 ct21), sl21⟩)
    (c21 : PySem.W.codeIn K cd21 "_law_end" = true)
    (k21 : PySem.W.keepIn K (.ref f__law_end) = true)
    (a22 : PySem.W.nsIn K mainGlobals "law" = some (some (.ref fl)))
    (l22 : K.lookup fl = some ⟨oc22, od22, .func (PySem.W.fnOf "law" "law" (defArgs s_law) (defBody s_law) (defScope s_law) .none kV22 dc22 pm22 an22 cd22 ct22), sl22⟩)
    (c22 : PySem.W.codeIn K cd22 "law" = true)
    (k22 : PySem.W.keepIn K (.ref fl) = true)
    (pg_Cell : PySem.W.plainGet K C_Cell Str.empty = true)
    (hd_Cell : PySem.W.hasDictIn K C_Cell = true)
    (po_Cell : PySem.W.plainOver K C_Cell = true)
    (sa_Cell : PySem.W.findIn K (.ref C_Cell) "__setattr__" = some (some (.builtin "object.__setattr__")))
    (mk_Cell : PySem.W.makesIn K C_Cell = true)
    (kc_Cell : PySem.W.keepIn K (.ref C_Cell) = true)
    (n_Cell_birth : PySem.W.findIn K (.ref C_Cell) "birth" = some none)
    (n_Cell_bulk : PySem.W.findIn K (.ref C_Cell) "bulk" = some none)
    (n_Cell_tone : PySem.W.findIn K (.ref C_Cell) "tone" = some none)
    (n_Cell_load : PySem.W.findIn K (.ref C_Cell) "load" = some none)
    (n_Cell_fields : PySem.W.findIn K (.ref C_Cell) "fields" = some none)
    (eq1_Cell : PySem.W.findIn K (.ref C_Cell) "__eq__" = some (some (.builtin "object.__eq__")))
    (eq2_Cell : PySem.W.mroIn K C_Cell (.type "object") = some true)
    (pg_Heap : PySem.W.plainGet K C_Heap Str.empty = true)
    (hd_Heap : PySem.W.hasDictIn K C_Heap = true)
    (po_Heap : PySem.W.plainOver K C_Heap = true)
    (sa_Heap : PySem.W.findIn K (.ref C_Heap) "__setattr__" = some (some (.builtin "object.__setattr__")))
    (mk_Heap : PySem.W.makesIn K C_Heap = true)
    (kc_Heap : PySem.W.keepIn K (.ref C_Heap) = true)
    (n_Heap_room : PySem.W.findIn K (.ref C_Heap) "room" = some none)
    (n_Heap_cells : PySem.W.findIn K (.ref C_Heap) "cells" = some none)
    (n_Heap_used : PySem.W.findIn K (.ref C_Heap) "used" = some none)
    (n_Heap_born : PySem.W.findIn K (.ref C_Heap) "born" = some none)
    (x_Full : PySem.W.excIn K C_Full [.type "ValueError", .type "Exception", .type "BaseException", .type "object"] "ValueError.__new__" = true)
    (e_Full_Full : PySem.W.exmOne K (.ref C_Full) (.ref C_Full) = some true)
    (z_bool : PySem.W.nsIn K mainGlobals "bool" = some none)
    (z_int : PySem.W.nsIn K mainGlobals "int" = some none)
    (z_isinstance : PySem.W.nsIn K mainGlobals "isinstance" = some none)
    (z_len : PySem.W.nsIn K mainGlobals "len" = some none)
    (z_list : PySem.W.nsIn K mainGlobals "list" = some none)
    (z_min : PySem.W.nsIn K mainGlobals "min" = some none)
    (z_range : PySem.W.nsIn K mainGlobals "range" = some none)
    (z_sum : PySem.W.nsIn K mainGlobals "sum" = some none)
    : ∃ fd : FuncData, (∀ (s : Shared) (v : Value), BindsTo s fd ⟨[v], []⟩ [("_law_script", v)]) ∧ ∀ base : Heap, K.In base → base.Ns mainGlobals mg → FnOk l.prog w K mg base (G.CXe l.prog w) 6 fa fd ["_law_script"] (S_law K) := by
  have e := hfa.symm.trans (PySem.W.mg_of KI GN a22)
  cases e
  have T : Txt K mg C_Cell C_Heap C_Full f_Cell___init__ f_Cell_units f_Heap___init__ f_Heap_make f_Heap_lay f_Heap_back f_Heap_free f_Heap_there f_cell_at f_birth_at f__law_cell_at f__law_whole f__law_room_by f__law_bulk f__law_mixed f__law_places f__law_used f__law_made f__law_deed f__law_state f__law_end := {
    cl_Cell := ⟨pg_Cell, hd_Cell, po_Cell, sa_Cell⟩
    m_Cell := PySem.W.mg_of KI GN a_Cell
    mk_Cell := ⟨mk_Cell, a1, i1, kc_Cell⟩
    n_Cell_birth := n_Cell_birth
    n_Cell_bulk := n_Cell_bulk
    n_Cell_tone := n_Cell_tone
    n_Cell_load := n_Cell_load
    n_Cell_fields := n_Cell_fields
    eq_Cell := ⟨eq1_Cell, eq2_Cell⟩
    cl_Heap := ⟨pg_Heap, hd_Heap, po_Heap, sa_Heap⟩
    m_Heap := PySem.W.mg_of KI GN a_Heap
    mk_Heap := ⟨mk_Heap, a3, i3, kc_Heap⟩
    n_Heap_room := n_Heap_room
    n_Heap_cells := n_Heap_cells
    n_Heap_used := n_Heap_used
    n_Heap_born := n_Heap_born
    m_Full := PySem.W.mg_of KI GN a_Full
    x_Full := x_Full
    e_Full_Full := e_Full_Full
    me_Cell___init__ := ⟨a1, i1, k1⟩
    me_Cell_units := ⟨a2, i2, k2⟩
    me_Heap___init__ := ⟨a3, i3, k3⟩
    me_Heap_make := ⟨a4, i4, k4⟩
    me_Heap_lay := ⟨a5, i5, k5⟩
    me_Heap_back := ⟨a6, i6, k6⟩
    me_Heap_free := ⟨a7, i7, k7⟩
    me_Heap_there := ⟨a8, i8, k8⟩
    m_cell_at := PySem.W.mg_of KI GN a9
    m_birth_at := PySem.W.mg_of KI GN a10
    m__law_cell_at := PySem.W.mg_of KI GN a11
    m__law_whole := PySem.W.mg_of KI GN a12
    m__law_room_by := PySem.W.mg_of KI GN a13
    m__law_bulk := PySem.W.mg_of KI GN a14
    m__law_mixed := PySem.W.mg_of KI GN a15
    m__law_places := PySem.W.mg_of KI GN a16
    m__law_used := PySem.W.mg_of KI GN a17
    m__law_made := PySem.W.mg_of KI GN a18
    m__law_deed := PySem.W.mg_of KI GN a19
    m__law_state := PySem.W.mg_of KI GN a20
    m__law_end := PySem.W.mg_of KI GN a21
    z_bool := PySem.W.mg_none_of KI GN z_bool
    z_int := PySem.W.mg_none_of KI GN z_int
    z_isinstance := PySem.W.mg_none_of KI GN z_isinstance
    z_len := PySem.W.mg_none_of KI GN z_len
    z_list := PySem.W.mg_none_of KI GN z_list
    z_min := PySem.W.mg_none_of KI GN z_min
    z_range := PySem.W.mg_none_of KI GN z_range
    z_sum := PySem.W.mg_none_of KI GN z_sum
  }
  have F1 := fun_mk (st := s_Cell___init__) l1 c1 k1
  have b1 := F1.binds (ps := ["self", "birth", "many", "bulk", "tone"]) fun _ _ _ _ _ _ us hl => match us, hl with | [_, _, _, _, _], _ => rfl
  have F2 := fun_mk (st := s_Cell_units) l2 c2 k2
  have b2 := F2.binds (ps := ["self"]) fun _ _ _ _ _ _ us hl => match us, hl with | [_], _ => rfl
  have F3 := fun_mk (st := s_Heap___init__) l3 c3 k3
  have b3 := F3.binds (ps := ["self", "room"]) fun _ _ _ _ _ _ us hl => match us, hl with | [_, _], _ => rfl
  have F4 := G.funD_mk (st := s_Heap_make) l4 c4 k4
  have b4 := G.bindsD (ps := ["self", "many", "bulk", "tone"]) (ds := []) l4 t4 fun us hl => match us, hl with | [_, _, _, _], _ => ⟨_, rfl, rfl⟩
  have bd4_1 := G.bindsD (ps := ["self", "many", "bulk", "tone"]) (ds := [dv4_1]) l4 t4 fun us hl => match us, hl with | [_, _, _], _ => ⟨_, rfl, rfl⟩
  have bd4_2 := G.bindsD (ps := ["self", "many", "bulk", "tone"]) (ds := [dv4_0, dv4_1]) l4 t4 fun us hl => match us, hl with | [_, _], _ => ⟨_, rfl, rfl⟩
  have F5 := fun_mk (st := s_Heap_lay) l5 c5 k5
  have b5 := F5.binds (ps := ["self", "cell"]) fun _ _ _ _ _ _ us hl => match us, hl with | [_, _], _ => rfl
  have F6 := fun_mk (st := s_Heap_back) l6 c6 k6
  have b6 := F6.binds (ps := ["self", "place"]) fun _ _ _ _ _ _ us hl => match us, hl with | [_, _], _ => rfl
  have F7 := fun_mk (st := s_Heap_free) l7 c7 k7
  have b7 := F7.binds (ps := ["self"]) fun _ _ _ _ _ _ us hl => match us, hl with | [_], _ => rfl
  have F8 := fun_mk (st := s_Heap_there) l8 c8 k8
  have b8 := F8.binds (ps := ["self"]) fun _ _ _ _ _ _ us hl => match us, hl with | [_], _ => rfl
  have F9 := fun_mk (st := s_cell_at) l9 c9 k9
  have b9 := F9.binds (ps := ["heap", "place"]) fun _ _ _ _ _ _ us hl => match us, hl with | [_, _], _ => rfl
  have F10 := fun_mk (st := s_birth_at) l10 c10 k10
  have b10 := F10.binds (ps := ["heap", "place"]) fun _ _ _ _ _ _ us hl => match us, hl with | [_, _], _ => rfl
  have F11 := fun_mk (st := s__law_cell_at) l11 c11 k11
  have b11 := F11.binds (ps := ["_law_script", "_law_k"]) fun _ _ _ _ _ _ us hl => match us, hl with | [_, _], _ => rfl
  have F12 := fun_mk (st := s__law_whole) l12 c12 k12
  have b12 := F12.binds (ps := ["_law_found"]) fun _ _ _ _ _ _ us hl => match us, hl with | [_], _ => rfl
  have F13 := fun_mk (st := s__law_room_by) l13 c13 k13
  have b13 := F13.binds (ps := ["_law_cell"]) fun _ _ _ _ _ _ us hl => match us, hl with | [_], _ => rfl
  have F14 := fun_mk (st := s__law_bulk) l14 c14 k14
  have b14 := F14.binds (ps := ["_law_cell"]) fun _ _ _ _ _ _ us hl => match us, hl with | [_], _ => rfl
  have F15 := fun_mk (st := s__law_mixed) l15 c15 k15
  have b15 := F15.binds (ps := ["_law_cell", "_law_prime"]) fun _ _ _ _ _ _ us hl => match us, hl with | [_, _], _ => rfl
  have F16 := fun_mk (st := s__law_places) l16 c16 k16
  have b16 := F16.binds (ps := ["_law_due"]) fun _ _ _ _ _ _ us hl => match us, hl with | [_], _ => rfl
  have F17 := fun_mk (st := s__law_used) l17 c17 k17
  have b17 := F17.binds (ps := ["_law_due"]) fun _ _ _ _ _ _ us hl => match us, hl with | [_], _ => rfl
  have F18 := fun_mk (st := s__law_made) l18 c18 k18
  have b18 := F18.binds (ps := ["_law_heap", "_law_room", "_law_due", "_law_cell", "_law_birth"]) fun _ _ _ _ _ _ us hl => match us, hl with | [_, _, _, _, _], _ => rfl
  have F19 := fun_mk (st := s__law_deed) l19 c19 k19
  have b19 := F19.binds (ps := ["_law_heap", "_law_room", "_law_due", "_law_cell", "_law_birth"]) fun _ _ _ _ _ _ us hl => match us, hl with | [_, _, _, _, _], _ => rfl
  have F20 := fun_mk (st := s__law_state) l20 c20 k20
  have b20 := F20.binds (ps := ["_law_heap", "_law_room", "_law_due", "_law_born", "_law_cell"]) fun _ _ _ _ _ _ us hl => match us, hl with | [_, _, _, _, _], _ => rfl
  have F21 := fun_mk (st := s__law_end) l21 c21 k21
  have b21 := F21.binds (ps := ["_law_heap", "_law_due"]) fun _ _ _ _ _ _ us hl => match us, hl with | [_, _], _ => rfl
  have F22 := fun_mk (st := s_law) l22 c22 k22
  refine ⟨PySem.W.fnOf "law" "law" (defArgs s_law) (defBody s_law) (defScope s_law) .none kV22 dc22 pm22 an22 cd22 ct22, fun s v => .of_eq rfl, fun base _ _ => ?_⟩
  have G1 := ok_Cell___init__ (P := l.prog) (w := w) (base := base) T F1 
  have G2 := ok_Cell_units (P := l.prog) (w := w) (base := base) T F2 
  have G3 := ok_Heap___init__ (P := l.prog) (w := w) (base := base) T F3 
  have G5 := ok_Heap_lay (P := l.prog) (w := w) (base := base) T F5 
  have G7 := ok_Heap_free (P := l.prog) (w := w) (base := base) T F7 
  have G8 := ok_Heap_there (P := l.prog) (w := w) (base := base) T F8 
  have G9 := ok_cell_at (P := l.prog) (w := w) (base := base) T F9 
  have G11 := ok__law_cell_at (P := l.prog) (w := w) (base := base) T F11 
  have G12 := ok__law_whole (P := l.prog) (w := w) (base := base) T F12 
  have G13 := ok__law_room_by (P := l.prog) (w := w) (base := base) T F13 
  have G14 := ok__law_bulk (P := l.prog) (w := w) (base := base) T F14 
  have G15 := ok__law_mixed (P := l.prog) (w := w) (base := base) T F15 
  have G16 := ok__law_places (P := l.prog) (w := w) (base := base) T F16 
  have G17 := ok__law_used (P := l.prog) (w := w) (base := base) T F17 
  have G6 := ok_Heap_back (P := l.prog) (w := w) (base := base) T F6 G2 b2 k2
  have G10 := ok_birth_at (P := l.prog) (w := w) (base := base) T F10 G9 b9 k9
  have G4 := ok_Heap_make (P := l.prog) (w := w) (base := base) T F4 G1 b1 k1 G2 b2 k2 G7 b7 k7 G5 b5 k5
  have G20 := ok__law_state (P := l.prog) (w := w) (base := base) T F20 G7 b7 k7 G15 b15 k15 G17 b17 k17 G12 b12 k12 G10 b10 k10
  have G21 := ok__law_end (P := l.prog) (w := w) (base := base) T F21 G2 b2 k2 G12 b12 k12 G10 b10 k10
  have G18 := ok__law_made (P := l.prog) (w := w) (base := base) T F18 G4 b4 k4 G14 b14 k14 G17 b17 k17 G12 b12 k12 bd4_1 (.cons dr4_1 .nil) bd4_2 (.cons dr4_0 (.cons dr4_1 .nil))
  have G19 := ok__law_deed (P := l.prog) (w := w) (base := base) T F19 G6 b6 k6 G18 b18 k18 G15 b15 k15 G16 b16 k16 G12 b12 k12
  exact ok_law T F22 G3 b3 k3 G8 b8 k8 G11 b11 k11 G19 b19 k19 G21 b21 k21 G16 b16 k16 G13 b13 k13 G20 b20 k20
theorem walk {l : PySem.W.OpenLaw} {q : Program} {loose : List Str} {XP : (Str → Option Value) → Heap → Prop} {YP : World → Heap → Prop} {d : DefRec} {K : Params → PySem.W.Frag} (hn : l.most = some 63) (hdf : d.params.defaults = [])
    (hY : ∀ (w : World) (h : Heap), YP w h → (K w.params).In h)
    (F : ∀ (w : World) (mg : Str → Option Value) (fa : Addr) (h : Heap), (K w.params).In h → h.Ns mainGlobals mg → mg d.name = some (.ref fa) →
      ∃ fd : FuncData, (∀ (s : Shared) (u : Value), BindsTo s fd ⟨[u], []⟩ [("_law_script", u)]) ∧ ∀ base : Heap, (K w.params).In base → base.Ns mainGlobals mg → FnOk l.prog w (K w.params) mg base (G.CXe l.prog w) 6 fa fd ["_law_script"] (S_law (K w.params))) :
    PySem.W.WalkO q loose XP YP l.row.toRowW d [] (fun f vs => PySem.call f vs) :=
  L2.walk_of (n := 63) (k := 6) (x := "_law_script") (CX := fun w => G.CXe l.prog w) (sp := fun w => S_law (K w.params)) hn (by decide) hdf ⟨rfl, by decide, by decide⟩ hY F (fun _ _ a ns hl _ hS => ⟨a, rfl, ns, hS, hl, fun _ => rfl⟩) fun _ _ _ _ _ z => by
    obtain ⟨_, _, _, _, _, _, _, _, _, _, _, _, z⟩ := z
    exact z
end K06
open PySem PySem.W PyProof.Rows
set_option maxRecDepth 100000 in
set_option maxHeartbeats 0 in
theorem PySem.Challenge.cw_greywalk_k06_heap_walked_holds : PySem.Challenge.rw_greywalk_k06_heap_walked.Holds := by
  w_on; o_law; k_head; (case hw => w_witness2)
  k_fill
  refine K06.walk (l := PySem.Challenge.rw_greywalk_k06_heap_walked) rfl rfl (fun w h Y => PySem.W.kIn_of Y) ?F
  case F =>
    intro w mg fa h KX G hmg
    refine' K06.all_mk KX G hmg ?a_Cell ?a_Heap ?a_Full ?a1 ?i1 ?l1 ?c1 ?k1 ?a2 ?i2 ?l2 ?c2 ?k2 ?a3 ?i3 ?l3 ?c3 ?k3 ?a4 ?i4 ?l4 ?t4 ?dr4_0 ?dr4_1 ?c4 ?k4 ?a5 ?i5 ?l5 ?c5 ?k5 ?a6 ?i6 ?l6 ?c6 ?k6 ?a7 ?i7 ?l7 ?c7 ?k7 ?a8 ?i8 ?l8 ?c8 ?k8 ?a9 ?l9 ?c9 ?k9 ?a10 ?l10 ?c10 ?k10 ?a11 ?l11 ?c11 ?k11 ?a12 ?l12 ?c12 ?k12 ?a13 ?l13 ?c13 ?k13 ?a14 ?l14 ?c14 ?k14 ?a15 ?l15 ?c15 ?k15 ?a16 ?l16 ?c16 ?k16 ?a17 ?l17 ?c17 ?k17 ?a18 ?l18 ?c18 ?k18 ?a19 ?l19 ?c19 ?k19 ?a20 ?l20 ?c20 ?k20 ?a21 ?l21 ?c21 ?k21 ?a22 ?l22 ?c22 ?k22 ?pg_Cell ?hd_Cell ?po_Cell ?sa_Cell ?mk_Cell ?kc_Cell ?n_Cell_birth ?n_Cell_bulk ?n_Cell_tone ?n_Cell_load ?n_Cell_fields ?eq1_Cell ?eq2_Cell ?pg_Heap ?hd_Heap ?po_Heap ?sa_Heap ?mk_Heap ?kc_Heap ?n_Heap_room ?n_Heap_cells ?n_Heap_used ?n_Heap_born ?x_Full ?e_Full_Full ?z_bool ?z_int ?z_isinstance ?z_len ?z_list ?z_min ?z_range ?z_sum
    (case a_Cell => k_is)
    (case a_Heap => k_is)
    (case a_Full => k_is)
    (case a1 => k_is)
    (case i1 => k_is)
    (case l1 => k_is)
    (case c1 => k_is)
    (case k1 => k_is)
    (case a2 => k_is)
    (case i2 => k_is)
    (case l2 => k_is)
    (case c2 => k_is)
    (case k2 => k_is)
    (case a3 => k_is)
    (case i3 => k_is)
    (case l3 => k_is)
    (case c3 => k_is)
    (case k3 => k_is)
    (case a4 => k_is)
    (case i4 => k_is)
    (case l4 => k_is)
    (case t4 => k_is)
    (case dr4_0 => first | exact rfl | exact ⟨_, rfl⟩)
    (case dr4_1 => first | exact rfl | exact ⟨_, rfl⟩)
    (case c4 => k_is)
    (case k4 => k_is)
    (case a5 => k_is)
    (case i5 => k_is)
    (case l5 => k_is)
    (case c5 => k_is)
    (case k5 => k_is)
    (case a6 => k_is)
    (case i6 => k_is)
    (case l6 => k_is)
    (case c6 => k_is)
    (case k6 => k_is)
    (case a7 => k_is)
    (case i7 => k_is)
    (case l7 => k_is)
    (case c7 => k_is)
    (case k7 => k_is)
    (case a8 => k_is)
    (case i8 => k_is)
    (case l8 => k_is)
    (case c8 => k_is)
    (case k8 => k_is)
    (case a9 => k_is)
    (case l9 => k_is)
    (case c9 => k_is)
    (case k9 => k_is)
    (case a10 => k_is)
    (case l10 => k_is)
    (case c10 => k_is)
    (case k10 => k_is)
    (case a11 => k_is)
    (case l11 => k_is)
    (case c11 => k_is)
    (case k11 => k_is)
    (case a12 => k_is)
    (case l12 => k_is)
    (case c12 => k_is)
    (case k12 => k_is)
    (case a13 => k_is)
    (case l13 => k_is)
    (case c13 => k_is)
    (case k13 => k_is)
    (case a14 => k_is)
    (case l14 => k_is)
    (case c14 => k_is)
    (case k14 => k_is)
    (case a15 => k_is)
    (case l15 => k_is)
    (case c15 => k_is)
    (case k15 => k_is)
    (case a16 => k_is)
    (case l16 => k_is)
    (case c16 => k_is)
    (case k16 => k_is)
    (case a17 => k_is)
    (case l17 => k_is)
    (case c17 => k_is)
    (case k17 => k_is)
    (case a18 => k_is)
    (case l18 => k_is)
    (case c18 => k_is)
    (case k18 => k_is)
    (case a19 => k_is)
    (case l19 => k_is)
    (case c19 => k_is)
    (case k19 => k_is)
    (case a20 => k_is)
    (case l20 => k_is)
    (case c20 => k_is)
    (case k20 => k_is)
    (case a21 => k_is)
    (case l21 => k_is)
    (case c21 => k_is)
    (case k21 => k_is)
    (case a22 => k_is)
    (case l22 => k_is)
    (case c22 => k_is)
    (case k22 => k_is)
    (case pg_Cell => k_is)
    (case hd_Cell => k_is)
    (case po_Cell => k_is)
    (case sa_Cell => k_is)
    (case mk_Cell => k_is)
    (case kc_Cell => k_is)
    (case n_Cell_birth => k_is)
    (case n_Cell_bulk => k_is)
    (case n_Cell_tone => k_is)
    (case n_Cell_load => k_is)
    (case n_Cell_fields => k_is)
    (case eq1_Cell => k_is)
    (case eq2_Cell => k_is)
    (case pg_Heap => k_is)
    (case hd_Heap => k_is)
    (case po_Heap => k_is)
    (case sa_Heap => k_is)
    (case mk_Heap => k_is)
    (case kc_Heap => k_is)
    (case n_Heap_room => k_is)
    (case n_Heap_cells => k_is)
    (case n_Heap_used => k_is)
    (case n_Heap_born => k_is)
    (case x_Full => k_exc)
    (case e_Full_Full => kts_exm)
    (case z_bool => k_is)
    (case z_int => k_is)
    (case z_isinstance => k_is)
    (case z_len => k_is)
    (case z_list => k_is)
    (case z_min => k_is)
    (case z_range => k_is)
    (case z_sum => k_is)
#print axioms PySem.Challenge.cw_greywalk_k06_heap_walked_holds

