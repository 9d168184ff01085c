import PyProof.Rows.All
import Wide.All
import OpenK.AllK
import Wide.FinOn
import Lean
import PyProof.EqAt
import PyProof.EqKinds
import PyProof.TupleCall
import KE.KEqDict
import PySem.Challenge.RW_greywalk_k13_a_world_told
set_option Elab.async false
set_option linter.all false
set_option maxRecDepth 100000
namespace L2
open PySem PySem.Spec PyProof.Rows

abbrev Key := Sum Int Str
def keyIs : Key → Value → Bool
  | .inl k, v => Value.isInt k v
  | .inr x, v => Value.isStrOf x v
def keyH (w : World) : Key → Int
  | .inl k => hashInt k
  | .inr x => hashStr w x
theorem keyIs_shape : ∀ {k : Key} {v : Value}, keyIs k v = true → (∃ i t, k = Sum.inl i ∧ v = Value.int i t) ∨ (∃ x t, k = Sum.inr x ∧ v = Value.str x t)
  | .inl i, v, h => by
    obtain ⟨t, e⟩ := Value.isInt_shape (k := i) (v := v) h
    exact .inl ⟨i, t, rfl, e⟩
  | .inr x, v, h => by
    obtain ⟨t, e⟩ := Value.isStrOf_shape (x := x) (v := v) h
    exact .inr ⟨x, t, rfl, e⟩
theorem key_ll (a b : Int) : decide ((Sum.inl a : Key) = Sum.inl b) = (a == b) := by
  by_cases e : a = b
  · subst e; simp
  · have h : ¬ (Sum.inl a : Key) = Sum.inl b := fun q => e (Sum.inl.inj q)
    rw [decide_eq_false h]
    exact (beq_eq_false_iff_ne.mpr e).symm
theorem key_rr (a b : Str) : decide ((Sum.inr a : Key) = Sum.inr b) = decide (a = b) := by
  by_cases e : a = b
  · subst e; simp
  · have h : ¬ (Sum.inr a : Key) = Sum.inr b := fun q => e (Sum.inr.inj q)
    rw [decide_eq_false h, decide_eq_false e]
theorem key_lr (a : Int) (b : Str) : decide ((Sum.inl a : Key) = Sum.inr b) = false := decide_eq_false (fun q => nomatch q)
theorem key_rl (a : Str) (b : Int) : decide ((Sum.inr a : Key) = Sum.inl b) = false := decide_eq_false (fun q => nomatch q)

def mixKind (prog : Program) (w : World) : PySem.KeyKind prog w Key where
  is := keyIs
  hash := keyH w
  inj := fun v a b ha hb => by
    rcases keyIs_shape ha with ⟨i, t, rfl, rfl⟩ | ⟨x, t, rfl, rfl⟩
    · rcases keyIs_shape hb with ⟨j, u, rfl, e⟩ | ⟨y, u, rfl, e⟩
      · injection e with e1 _; rw [e1]
      · exact nomatch e
    · rcases keyIs_shape hb with ⟨j, u, rfl, e⟩ | ⟨y, u, rfl, e⟩
      · exact nomatch e
      · injection e with e1 _; rw [e1]
  byValue := fun k v h => by
    rcases keyIs_shape h with ⟨i, t, rfl, rfl⟩ | ⟨x, t, rfl, rfl⟩ <;> rfl
  pyHash := fun hv h => by
    rcases keyIs_shape hv with ⟨i, t, rfl, rfl⟩ | ⟨x, t, rfl, rfl⟩
    · exact wpAny_pyHash_int h
    · exact wpAny_pyHash_str h
  eqBool := fun hu hv h => by
    rcases keyIs_shape hu with ⟨i, t, rfl, rfl⟩ | ⟨x, t, rfl, rfl⟩
    · rcases keyIs_shape hv with ⟨j, u, rfl, rfl⟩ | ⟨y, u, rfl, rfl⟩
      · rw [key_ll] at h; exact wpAny_eqBool_int h
      · rw [key_lr] at h; exact SeqAt.EqAt.int_str i t y u _ _ _ _ h
    · rcases keyIs_shape hv with ⟨j, u, rfl, rfl⟩ | ⟨y, u, rfl, rfl⟩
      · rw [key_rl] at h; exact SeqAt.EqAt.str_int x t j u _ _ _ _ h
      · rw [key_rr] at h; exact wpAny_eqBool_str h
  «strs» := fun k x t v h => by
    rcases keyIs_shape h with ⟨i, u, rfl, e⟩ | ⟨y, u, rfl, e⟩
    · exact nomatch e
    · injection e with e1 _
      subst e1
      cases v <;> rfl

end L2

namespace L2
open PySem PySem.Spec PyProof.Rows

inductive V where
  | non | bl (b : Bool) | int (i : Int) | str (x : Str) | byt (b : Array UInt8) | flt (b : UInt64) | ref (a : Addr) | ty (n : String)
  deriving DecidableEq

def RelV : V → Value → Prop
  | .non, u => u = Value.none
  | .bl b, u => u = Value.bool b
  | .int i, u => ∃ t, u = Value.int i t
  | .str x, u => ∃ t, u = Value.str x t
  | .byt b, u => ∃ t, u = Value.bytes b t
  | .flt b, u => ∃ t, u = Value.float b t
  | .ref a, u => u = Value.ref a
  | .ty n, u => u = Value.type n

abbrev Vals : List V → List Value → Prop := Paired RelV
theorem Vals.length {xs : List V} {us : List Value} (r : Vals xs us) : xs.length = us.length := Paired.length r
theorem Vals.get : ∀ {xs : List V} {us : List Value} {i : Nat} {x : V}, Vals xs us → xs[i]? = some x → ∃ u, us[i]? = some u ∧ RelV x u
  | _, _, _, _, .nil, e => by simp at e
  | _, _, 0, _, .cons r _, e => by simp at e; subst e; exact ⟨_, rfl, r⟩
  | _, _, i + 1, x, .cons _ t, e => by
    obtain ⟨u, h1, h2⟩ := Vals.get (i := i) (x := x) t (by simpa using e)
    exact ⟨u, by simpa using h1, h2⟩
theorem Vals.set {x : V} {u : Value} (r : RelV x u) : ∀ {xs : List V} {us : List Value} (i : Nat), Vals xs us → Vals (xs.set i x) (us.set i u)
  | _, _, _, .nil => .nil
  | _, _, 0, .cons _ t => .cons r t
  | _, _, i + 1, .cons q t => .cons q (Vals.set r i t)
theorem Vals.append : ∀ {xs ys : List V} {us ws : List Value}, Vals xs us → Vals ys ws → Vals (xs ++ ys) (us ++ ws)
  | _, _, _, _, .nil, s => s
  | _, _, _, _, .cons r t, s => .cons r (Vals.append t s)
theorem Vals.take : ∀ {xs : List V} {us : List Value} (n : Nat), Vals xs us → Vals (xs.take n) (us.take n)
  | _, _, 0, _ => .nil
  | _, _, _ + 1, .nil => .nil
  | _, _, n + 1, .cons r t => .cons r (Vals.take n t)
theorem Vals.drop : ∀ {xs : List V} {us : List Value} (n : Nat), Vals xs us → Vals (xs.drop n) (us.drop n)
  | _, _, 0, r => r
  | _, _, _ + 1, .nil => .nil
  | _, _, n + 1, .cons _ t => Vals.drop n t
def RelO : Option V → Option Value → Prop
  | some v, some u => RelV v u
  | none, none => True
  | _, _ => False
def KV {κ : Type} : List (κ × V) → List (κ × Value) → Prop := Paired fun (p : κ × V) (q : κ × Value) => p.1 = q.1 ∧ RelV p.2 q.2

def kV : Key → V
  | .inl i => .int i
  | .inr x => .str x

inductive HO where
    | lst (xs : List V)
    | tup (xs : List V)
    | dK (kvs : List (Key × V)) | dT (kvs : List (List Key × V))
    | set (S : Int → Bool) (n : Nat)
    | ins (C dx : Addr) (fs : List (Str × V))
    | own (x : Addr)
    | xd (fs : List (Str × V))
    | met (f x : Addr)
    | rng (lo hi : Int)
    | frz (o : Obj) (u : HO)
    | tbl (ps : Array Value)
    | ext (φ : Heap → Prop)

abbrev Hp := Addr → Option HO
def upd (H : Hp) (a : Addr) (o : HO) : Hp := fun b => if b = a then some o else H b
theorem upd_same {H : Hp} {a : Addr} {o : HO} : upd H a o a = some o := by unfold upd; rw [if_pos rfl]
theorem upd_ne {H : Hp} {a b : Addr} {o : HO} (h : b ≠ a) : upd H a o b = H b := by unfold upd; rw [if_neg h]
theorem upd_upd {H : Hp} {a : Addr} {o u : HO} : upd (upd H a o) a u = upd H a u := by
  funext b; unfold upd; split <;> rfl
theorem ne_of {H : Hp} {a b : Addr} {o u : HO} (h : H a = some o) (h' : H b = some u) (d : o ≠ u) : a ≠ b := by
  intro e; subst e; rw [h] at h'; exact d (Option.some.inj h')
theorem ne_of_none {H : Hp} {a b : Addr} {o : HO} (h : H a = some o) (h' : H b = none) : a ≠ b := by
  intro e; subst e; rw [h] at h'; cases h'

section
variable (P : Program) (w : World)
def ObjOk (H : Hp) (h : Heap) (a : Addr) : HO → Prop
  | .lst xs => xs.length ≤ sizeLine ∧ ∃ (its : List Value) (n : Nat), Vals xs its ∧ h.get? a = some { cls := .type "list", data := .seq its.toArray n }
  | .tup xs => xs.length ≤ sizeLine ∧ ∃ its : List Value, Vals xs its ∧ IsTup h a its.toArray
  | .dK kvs => kvs.length ≤ sizeLine ∧ (a == sysModules) = false ∧ ∃ vs, KV kvs vs ∧ h.DictOf (mixKind P w) a vs
  | .dT kvs => kvs.length ≤ sizeLine ∧ (a == sysModules) = false ∧ ∃ xs : List (List Key × Addr × Value),
      Paired (fun (p : List Key × V) (q : List Key × Addr × Value) => p.1 = q.1 ∧ H q.2.1 = some (.tup (p.1.map kV)) ∧ RelV p.2 q.2.2) kvs xs ∧
      ∃ o es ep, h.get? a = some o ∧ o.ExactDict ∧ o.data = .dict es ep ∧ es.toList = xs.map (entryOfKey (tupleKind (mixKind P w))) ∧ (xs.map (·.1)).Nodup
  | .set S n => h.SetOf (intKind P w) a S n
  | .ins C dx fs => H dx = some (.own a) ∧ fs.length ≤ 1000 ∧ dx ≠ a ∧ h.get? a = some (PySem.W.instObj C dx) ∧
      ∃ mA, h.Ns1 dx mA ∧ (∀ f, RelO (fs.lookup f) (mA f)) ∧ PySem.Within mA (fs.map (·.1))
  | .own _ => ∃ o, h.get? a = some o
  | .xd fs => ∃ mA, h.Ns1 a mA ∧ ∀ f, RelO (fs.lookup f) (mA f)
  | .rng lo hi => ∃ t u v, h.get? a = some { cls := .type "range", data := .fields #[.int lo t, .int hi u, .int 1 v] }
  | .frz o u => h.get? a = some o ∧ ObjOk H h a u
  | .tbl ps => h.get? a = some { cls := .none, data := .fields ps }
  | .met f x => h.get? a = some (PySem.W.methodObj (.ref f) (.ref x))
  | .ext φ => φ h ∧ (∃ o, h.get? a = some o) ∧ ∀ h1 h2 : Heap, φ h1 → (∀ o, h1.get? a = some o → h2.get? a = some o) → φ h2
def HOk (H : Hp) (h : Heap) : Prop := ∀ a o, H a = some o → ObjOk P w H h a o
end

section
variable {P : Program} {w : World} {H H' : Hp} {h h' : Heap} {a : Addr} {o : HO}
theorem ObjOk.lt (x : ObjOk P w H h a o) : a < h.objs.size := by
  cases o with
  | lst xs => obtain ⟨_, _, _, _, e⟩ := x; exact Heap.lt_size e
  | tup xs => obtain ⟨_, _, _, p⟩ := x; exact p.lt
  | dK kvs => obtain ⟨_, _, _, _, o, _, _, e, _⟩ := x; exact Heap.lt_size e
  | dT kvs => obtain ⟨_, _, _, _, o, _, _, e, _⟩ := x; exact Heap.lt_size e
  | set S n => obtain ⟨o, _, _, _, e, _⟩ := x; exact Heap.lt_size e
  | ins C dx fs => obtain ⟨_, _, _, e, _⟩ := x; exact Heap.lt_size e
  | own y => obtain ⟨_, e⟩ := x; exact Heap.lt_size e
  | xd fs => obtain ⟨_, ⟨_, _, _, e, _⟩, _⟩ := x; exact Heap.lt_size e
  | rng lo hi => obtain ⟨_, _, _, e⟩ := x; exact Heap.lt_size e
  | frz ob u => obtain ⟨e, _⟩ := x; exact Heap.lt_size e
  | tbl ps => exact Heap.lt_size (show h.get? a = some _ from x)
  | met f y => exact Heap.lt_size (show h.get? a = some _ from x)
  | ext φ => obtain ⟨_, ⟨_, e⟩, _⟩ := x; exact Heap.lt_size e
theorem Paired.mapP {α β : Type} {F G : α → β → Prop} : ∀ {l₁ : List α} {l₂ : List β}, Paired F l₁ l₂ → (∀ a b, F a b → G a b) → Paired G l₁ l₂
  | _, _, .nil, _ => .nil
  | _, _, .cons r t, f => .cons (f _ _ r) (Paired.mapP t f)
theorem ObjOk.stay (x : ObjOk P w H h a o) (k : ∀ b u, (b = a ∨ H b = some (.own a)) → h.get? b = some u → h'.get? b = some u)
    (ho : ∀ b, H b = some (.own a) → H' b = some (.own a)) (ht : ∀ b xs, H b = some (.tup xs) → H' b = some (.tup xs)) : ObjOk P w H' h' a o := by
  induction o with
  | lst xs => obtain ⟨z, its, n, r, e⟩ := x; exact ⟨z, its, n, r, k _ _ (.inl rfl) e⟩
  | tup xs => obtain ⟨z, its, r, ob, e, c⟩ := x; exact ⟨z, its, r, ob, k _ _ (.inl rfl) e, c⟩
  | dK kvs => obtain ⟨z, y, vs, r, ob, es, ep, e, c⟩ := x; exact ⟨z, y, vs, r, ob, es, ep, k _ _ (.inl rfl) e, c⟩
  | dT kvs =>
    obtain ⟨z, y, xs, r, ob, es, ep, e, c⟩ := x
    exact ⟨z, y, xs, Paired.mapP r fun p q z => ⟨z.1, ht _ _ z.2.1, z.2.2⟩, ob, es, ep, k _ _ (.inl rfl) e, c⟩
  | set S n => obtain ⟨ob, es, ep, t, e, c⟩ := x; exact ⟨ob, es, ep, t, k _ _ (.inl rfl) e, c⟩
  | ins C dx fs =>
    obtain ⟨d, z, ne, e, mA, ⟨od, es, ep, e2, c⟩, r⟩ := x
    exact ⟨ho _ d, z, ne, k _ _ (.inl rfl) e, mA, ⟨od, es, ep, k _ _ (.inr d) e2, c⟩, r⟩
  | own y => obtain ⟨ob, e⟩ := x; exact ⟨ob, k _ _ (.inl rfl) e⟩
  | xd fs => obtain ⟨mA, ⟨od, es, ep, e, c⟩, r⟩ := x; exact ⟨mA, ⟨od, es, ep, k _ _ (.inl rfl) e, c⟩, r⟩
  | rng lo hi => obtain ⟨t, u, v, e⟩ := x; exact ⟨t, u, v, k _ _ (.inl rfl) e⟩
  | frz ob u ih => obtain ⟨e, q⟩ := x; exact ⟨k _ _ (.inl rfl) e, ih q⟩
  | tbl ps =>
    have e : h.get? a = some { cls := .none, data := .fields ps } := x
    show h'.get? a = some { cls := .none, data := .fields ps }
    exact k a _ (.inl rfl) e
  | met f y =>
    have e : h.get? a = some (PySem.W.methodObj (.ref f) (.ref y)) := x
    show h'.get? a = some (PySem.W.methodObj (.ref f) (.ref y))
    exact k a _ (.inl rfl) e
  | ext φ => obtain ⟨p, ⟨o, e⟩, st⟩ := x; exact ⟨st _ _ p fun o q => k _ _ (.inl rfl) q, ⟨o, k _ _ (.inl rfl) e⟩, st⟩
theorem HOk.lt (x : HOk P w H h) (e : H a = some o) : a < h.objs.size := (x a o e).lt
theorem HOk.fresh (x : HOk P w H h) (e : h.objs.size ≤ a) : H a = none := by
  cases q : H a with
  | none => rfl
  | some u => exact absurd (Nat.lt_of_lt_of_le (x.lt q) e) (Nat.lt_irrefl _)
theorem HOk.kept (x : HOk P w H h) (k : ∀ b u, h.get? b = some u → h'.get? b = some u) : HOk P w H h' := fun a o e =>
  (x a o e).stay (fun b u _ q => k b u q) (fun _ q => q) fun _ _ q => q
theorem HOk.laid (x : HOk P w H h) (k : ∀ b u, h.get? b = some u → h'.get? b = some u) (hp : h.objs.size ≤ a) (new : ObjOk P w (upd H a o) h' a o) : HOk P w (upd H a o) h' := fun b u e => by
  have hn := x.fresh hp
  by_cases hb : b = a
  · subst hb; rw [upd_same] at e; cases e; exact new
  · rw [upd_ne hb] at e
    exact (x b u e).stay (fun c v _ q => k c v q) (fun c q => by rw [upd_ne (ne_of_none q hn)]; exact q) fun c xs q => by rw [upd_ne (ne_of_none q hn)]; exact q
end

def Rd (H : Hp) (a : Addr) (u : HO) : Prop := H a = some u ∨ ∃ o, H a = some (.frz o u)
theorem Rd.ok {P : Program} {w : World} {H : Hp} {h : Heap} {a : Addr} {u : HO} (r : Rd H a u) (x : HOk P w H h) : ObjOk P w H h a u := by
  rcases r with r | ⟨o, r⟩
  · exact x a u r
  · obtain ⟨_, q⟩ := x a _ r
    exact q
def Mut : Option HO → Prop
  | some (.lst _) => True
  | some (.dK _) => True
  | some (.dT _) => True
  | some (.set _ _) => True
  | some (.ins _ _ _) => True
  | some (.ext _) => True
  | _ => False
section
variable {P : Program} {w : World} {H : Hp} {h h' : Heap} {x e : Addr} {o' : HO}
theorem HOk.write (ok : HOk P w H h) (mu : Mut (H x)) (he : e = x ∨ H e = some (.own x)) (k : ∀ b u, b ≠ e → h.get? b = some u → h'.get? b = some u) (heo : ∃ u, h'.get? e = some u)
    (new : ObjOk P w (upd H x o') h' x o') : HOk P w (upd H x o') h' := fun b u q => by
  have nown : ∀ c y, H c = some (.own y) → c ≠ x := fun c y r z => by subst z; rw [r] at mu; exact mu
  have ntup : ∀ c xs, H c = some (.tup xs) → c ≠ x := fun c xs r z => by subst z; rw [r] at mu; exact mu
  by_cases hb : b = x
  · subst hb; rw [upd_same] at q; cases q; exact new
  · rw [upd_ne hb] at q
    by_cases hbe : b = e
    · have q' : H b = some (.own x) := by
        rcases he with z | z
        · exact absurd (hbe.trans z) hb
        · rw [hbe]; exact z
      rw [q] at q'; cases q'
      obtain ⟨v, hv⟩ := heo
      exact ⟨v, by rw [hbe]; exact hv⟩
    · refine (ok b u q).stay (fun c v hc r => k c v ?_ r) (fun c r => by rw [upd_ne (nown c b r)]; exact r) fun c xs r => by rw [upd_ne (ntup c xs r)]; exact r
      rcases hc with rfl | hc
      · exact hbe
      · rintro rfl
        rcases he with z | z
        · exact nown c b hc z
        · rw [hc] at z; cases z; exact hb rfl
end

structure Un (fs ex : List Addr) (H H' : Hp) (h h' : Heap) : Prop where
  keep : ∀ b o, h.get? b = some o → H b = none → b ∉ fs → b ∉ ex → h'.get? b = some o
  slot : ∀ b o, h.get? b = some o → H b = none → b ∈ fs → b ∉ ex → ∃ sl, h'.get? b = some { o with slots := sl }
  free : ∀ b o, h.get? b = some o → H b = none → b ∉ ex → H' b = none
  there : ∀ b o, h.get? b = some o → b ∉ ex → ∃ o', h'.get? b = some o'
  tups : ∀ b xs, H b = some (.tup xs) → H' b = some (.tup xs)
  frzs : ∀ b o u, H b = some (.frz o u) → H' b = some (.frz o u)
  tbls : ∀ b ps, H b = some (.tbl ps) → ∃ more, H' b = some (.tbl (ps ++ more))
section
variable {fs fs' ex ex' : List Addr} {H H1 H2 : Hp} {h h1 h2 h' : Heap} {a x e : Addr} {o : HO}
theorem Un.any (u : Un fs ex H H1 h h1) {b : Addr} {ob : Obj} (q : h.get? b = some ob) (n : H b = none) (hx : b ∉ ex) : ∃ sl, h1.get? b = some { ob with slots := sl } := by
  by_cases hb : b ∈ fs
  · exact u.slot b ob q n hb hx
  · exact ⟨ob.slots, u.keep b ob q n hb hx⟩
theorem Un.kept (k : ∀ b u, h.get? b = some u → h'.get? b = some u) : Un fs ex H H h h' :=
  ⟨fun b ob q _ _ _ => k b ob q, fun b ob q _ _ _ => ⟨ob.slots, k b ob q⟩, fun _ _ _ n _ => n, fun b ob q _ => ⟨ob, k b ob q⟩, fun _ _ q => q, fun _ _ _ q => q, fun _ ps q => ⟨#[], by rw [q]; simp⟩⟩
theorem Un.refl : Un fs ex H H h h := Un.kept fun _ _ q => q
theorem Un.laid (k : ∀ b u, h.get? b = some u → h'.get? b = some u) (hp : h.objs.size ≤ a) (hn : H a = none) : Un fs ex H (upd H a o) h h' where
  keep := fun b u q _ _ _ => k b u q
  slot := fun b u q _ _ _ => ⟨u.slots, k b u q⟩
  free := fun b u q n _ => by rw [upd_ne (Nat.ne_of_lt (Nat.lt_of_lt_of_le (Heap.lt_size q) hp))]; exact n
  there := fun b u q _ => ⟨u, k b u q⟩
  tups := fun b xs q => by rw [upd_ne (ne_of_none q hn)]; exact q
  frzs := fun b u xs q => by rw [upd_ne (ne_of_none q hn)]; exact q
  tbls := fun b ps q => ⟨#[], by rw [upd_ne (ne_of_none q hn), q]; simp⟩
theorem Un.write (mu : Mut (H x)) (he : e = x ∨ H e = some (.own x)) (k : ∀ b u, b ≠ e → h.get? b = some u → h'.get? b = some u) (heo : ∃ u, h'.get? e = some u) : Un fs ex H (upd H x o) h h' := by
  have hx : ∀ b, H b = none → b ≠ x := fun b n z => by subst z; rw [n] at mu; exact mu
  have hb : ∀ b, H b = none → b ≠ e := fun b n z => by
    subst z
    rcases he with r | r
    · exact hx b n r
    · rw [n] at r; cases r
  have hm : ∀ b u, H b = some u → ¬ Mut (some u) → b ≠ x := fun b u q nm z => by subst z; rw [q] at mu; exact nm mu
  refine ⟨fun b u q n _ _ => k b u (hb b n) q, fun b u q n _ _ => ⟨u.slots, k b u (hb b n) q⟩, fun b u q n _ => by rw [upd_ne (hx b n)]; exact n, fun b u q _ => ?_,
    fun b xs q => by rw [upd_ne (hm b _ q fun z => z)]; exact q, fun b u xs q => by rw [upd_ne (hm b _ q fun z => z)]; exact q, fun b ps q => ⟨#[], by rw [upd_ne (hm b _ q fun z => z), q]; simp⟩⟩
  by_cases hbe : b = e
  · subst hbe; exact heo
  · exact ⟨u, k b u hbe q⟩
end

def trk (h : Heap) (H : Hp) : List Addr := (List.range h.objs.size).filter fun a => (H a).isSome
def hidT (h : Heap) (H : Hp) : Heap := PySem.W.hideAll h (trk h H)
theorem hidT_size (h : Heap) (H : Hp) : (hidT h H).objs.size = h.objs.size := PySem.W.hideAll_size _ _
theorem hidT_get {h : Heap} {H : Hp} {b : Addr} {o : Obj} (e : h.get? b = some o) (n : H b = none) : (hidT h H).get? b = some o :=
  PySem.W.hideAll_get _ e fun hm => by
    have q : (H b).isSome = true := (List.mem_filter.mp hm).2
    rw [n] at q; simp at q
theorem of_hidT {h : Heap} {H : Hp} {b : Addr} {o : Obj} (e : (hidT h H).get? b = some o) : h.get? b = some o ∧ H b = none := by
  have e' : h.get? b = some o := PySem.W.of_hideAll (trk h H) e
  refine ⟨e', ?_⟩
  cases q : H b with
  | none => rfl
  | some x =>
    have hm : b ∈ trk h H := List.mem_filter.mpr ⟨List.mem_range.mpr (Heap.lt_size e'), by simp [q]⟩
    have z : (hidT h H).get? b = none := PySem.W.hideAll_none (trk h H) hm
    rw [z] at e; cases e

def allNews (g h : Heap) (L : Addr) : List (Addr × Obj) := (List.range h.objs.size).filterMap fun a => if a = L ∨ (g.get? a).isSome = true then none else (h.get? a).map fun o => (a, o)
def rest (g h : Heap) (L d : Addr) : List (Addr × Obj) := (allNews g h L).filter fun p => decide (p.1 ≠ d)
end L2

namespace L2
open PySem PySem.Spec PyProof.Rows

structure Mod (K : PySem.W.Frag) (mg : Str → Option Value) (base : Heap) : Prop where
  kin : K.In base
  glob : base.Ns mainGlobals mg
  blt : ∃ mb, base.Ns builtinsNs mb ∧ ∀ x : Str, x ≠ "__name__" → mb x = bootBuiltins x
  nolimit : base.NoLimit

structure Cx where
  prog : Program
  w : World
  K : PySem.W.Frag
  mg : Str → Option Value
  base : Heap
  A : Around
  N : List Str
  s₀ : Shared
  H₀ : Hp
  env : Env
  outer : List Env
  stack : List Env
  ex : List Addr
  fn : Str → Bool
  calm : Bool
  pn : List (Addr × Obj)
  xe : Value → Shared → Prop
def frs (l : List Env) : List Addr := l.filterMap (·.frame)
abbrev Cx.fs (X : Cx) : List Addr := frs X.outer

def Vis (sc : Scope) (x : Str) : Prop := sc.names.lookup x = some .local ∨ sc.names.lookup x = some .cell ∨ sc.names.lookup x = some .free
def Loc (sc : Scope) (x : Str) : Prop := sc.names.lookup x = some .local ∨ sc.names.lookup x = some .cell
def Look (env : Env) (h : Heap) (m : Str → Option Value) (x : Str) (u : Value) : Prop :=
  (env.kindOf x = some .local ∧ m x = some u) ∨ ((env.kindOf x = some .cell ∨ env.kindOf x = some .free) ∧ ∃ c, env.cells.lookup x = some c ∧ h.IsCell c (some u))

structure Cx.Ok (X : Cx) : Prop where
  mod : Mod X.K X.mg X.base
  kind : X.env.scope.kind = .function
  glob : X.env.globals = mainGlobals
  blt : X.env.builtins = builtinsNs
  above : X.s₀.heap.objs.size ≤ X.env.locals
  inj : ∀ x y c, X.env.cells.lookup x = some c → X.env.cells.lookup y = some c → x = y
  has : ∀ x, (X.env.kindOf x = some .cell ∨ X.env.kindOf x = some .free) → ∃ c, X.env.cells.lookup x = some c
  cab : ∀ x c, X.fn x = true → X.env.cells.lookup x = some c → X.s₀.heap.objs.size ≤ c
  hd : X.calm = true → X.A.handled = none
  frames : X.A.frames = some X.stack
  stk : X.stack = X.outer ∨ (X.stack = X.env :: X.outer ∧ X.env.frame = some X.env.locals)
  exf : ∀ b ∈ X.ex, b ≠ X.env.locals ∧ ∀ x c, X.env.cells.lookup x = some c → c ≠ b
  bs : ∀ b o, X.base.get? b = some o → X.s₀.heap.get? b = some o ∧ X.H₀ b = none
  bsz : X.base.objs.size ≤ X.s₀.heap.objs.size
  noex : ∀ b o, X.base.get? b = some o → b ∉ X.ex
  exfs : ∀ b ∈ X.ex, b ∉ X.fs
  funs : X.s₀.heap.FunFrames X.base X.outer
  frf : ∀ b ∈ X.fs, X.H₀ b = none

structure Inv (X : Cx) (pins : List (Addr × Obj)) (σ : List (Option V)) (H : Hp) (s : Shared) : Prop where
  ok : X.Ok
  os : s.os = X.s₀.os
  bare : AllBare s.gens
  base : Un X.fs X.ex X.H₀ H X.s₀.heap s.heap
  loc : ∃ m, s.heap.Ns X.env.locals m ∧ ∀ (i : Nat) (x : Str) (v : V), X.N[i]? = some x → σ[i]? = some (some v) → Vis X.env.scope x → ∃ u, RelV v u ∧ Look X.env s.heap m x u
  cell : ∀ x c, X.env.cells.lookup x = some c → ∃ v, s.heap.IsCell c v
  free : H X.env.locals = none
  freeC : ∀ x c, X.env.cells.lookup x = some c → H c = none
  pin : ∀ p ∈ X.pn ++ pins, s.heap.get? p.1 = some p.2 ∧ H p.1 = none ∧ p.1 ≠ X.env.locals ∧ p.1 ∉ X.fs ∧ ∀ v, p.2.data ≠ .cell v
  hok : HOk X.prog X.w H s.heap
  len : σ.length = X.N.length

section
variable {X : Cx} {pins : List (Addr × Obj)} {σ : List (Option V)} {H H' : Hp} {s : Shared} {h' : Heap}

theorem Cx.Ok.nofr (ok : X.Ok) {b : Addr} {o : Obj} (e : X.base.get? b = some o) : b ∉ X.fs := fun hb => by
  have := (ok.funs.mem hb).1
  rw [e] at this; cases this
theorem Inv.bs (I : Inv X pins σ H s) : ∀ b o, X.base.get? b = some o → s.heap.get? b = some o ∧ H b = none := fun b o e =>
  ⟨I.base.keep b o (I.ok.bs b o e).1 (I.ok.bs b o e).2 (I.ok.nofr e) (I.ok.noex b o e), I.base.free b o (I.ok.bs b o e).1 (I.ok.bs b o e).2 (I.ok.noex b o e)⟩
theorem Inv.bk (I : Inv X pins σ H s) : ∀ b o, X.base.get? b = some o → s.heap.get? b = some o := fun b o e => (I.bs b o e).1
theorem Inv.mod (I : Inv X pins σ H s) : Mod X.K X.mg X.base := I.ok.mod
theorem Inv.kIn (I : Inv X pins σ H s) : X.K.In s.heap := I.ok.mod.kin.keeps I.bk
theorem Inv.lt (I : Inv X pins σ H s) : X.env.locals < s.heap.objs.size := let ⟨_, hn, _⟩ := I.loc; hn.lt
theorem Inv.sz (I : Inv X pins σ H s) : X.s₀.heap.objs.size ≤ s.heap.objs.size := Nat.le_trans I.ok.above (Nat.le_of_lt I.lt)
theorem Inv.nofs (I : Inv X pins σ H s) {a : Addr} (h : s.heap.objs.size ≤ a) : a ∉ X.fs := fun hb => by
  obtain ⟨_, o, ho, _⟩ := I.ok.funs.mem hb
  exact absurd (Nat.lt_of_lt_of_le (Heap.lt_size ho) (Nat.le_trans I.sz h)) (Nat.lt_irrefl _)
theorem Inv.cne (I : Inv X pins σ H s) : ∀ x c, X.env.cells.lookup x = some c → c ≠ X.env.locals := fun x c e z => by
  obtain ⟨v, o, ho, hd⟩ := I.cell x c e
  obtain ⟨m, ⟨o', es, ep, ho', hd', _⟩, _⟩ := I.loc
  rw [z, ho'] at ho; cases ho; rw [hd'] at hd; cases hd
theorem Inv.funs (I : Inv X pins σ H s) : s.heap.FunFrames X.base X.outer := by
  have all : ∀ (l : List Env), (∀ b ∈ frs l, b ∈ X.fs) → X.s₀.heap.FunFrames X.base l → s.heap.FunFrames X.base l := by
    intro l
    induction l with
    | nil => intro _ _; trivial
    | cons env r ih =>
      intro hs hl
      obtain ⟨hk, ⟨L, o, hf, hn, ho, hd⟩, hr⟩ := hl
      have hL : L ∈ X.fs := hs L (by unfold frs; rw [List.filterMap_cons, hf]; exact List.mem_cons_self)
      obtain ⟨sl, e⟩ := I.base.slot L o ho (I.ok.frf L hL) hL fun z => I.ok.exfs L z hL
      exact ⟨hk, ⟨L, _, hf, hn, e, hd⟩, ih (fun b hb => hs b (by unfold frs; rw [List.filterMap_cons, hf]; exact List.mem_cons_of_mem _ hb)) hr⟩
  exact all X.outer (fun _ hb => hb) I.ok.funs

theorem Inv.stack (I : Inv X pins σ H s) : s.heap.FunFrames X.base X.stack := by
  rcases I.ok.stk with e | ⟨e, hf⟩
  · rw [e]; exact I.funs
  · rw [e]
    obtain ⟨m, hn, _⟩ := I.loc
    refine .cons (by rw [I.ok.kind]; decide) hf hn ?_ I.funs
    exact Heap.get?_none_of_le (Nat.le_trans I.ok.bsz I.ok.above)
theorem Inv.stkSub (I : Inv X pins σ H s) : ∀ b ∈ frs X.stack, b ∈ X.env.locals :: X.fs := fun b hb => by
  rcases I.ok.stk with e | ⟨e, hf⟩
  · rw [e] at hb; exact List.mem_cons_of_mem _ hb
  · rw [e] at hb
    unfold frs at hb
    rw [List.filterMap_cons, hf] at hb
    exact hb
theorem Inv.stkFree (I : Inv X pins σ H s) : ∀ b ∈ frs X.stack, H b = none := fun b hb => by
  rcases List.mem_cons.mp (I.stkSub b hb) with e | hb
  · rw [e]; exact I.free
  · obtain ⟨_, o, ho, _⟩ := I.ok.funs.mem hb
    exact I.base.free b o ho (I.ok.frf b hb) fun z => I.ok.exfs b z hb

theorem Inv.step {g' : Array GenState} {t' : Nat} {d' : Drawn} {ch : List Addr} (I : Inv X pins σ H s)
    (hch : ∀ b ∈ ch, (b ∈ X.ex ∨ X.s₀.heap.objs.size ≤ b) ∧ b ≠ X.env.locals ∧ (∀ x c, X.env.cells.lookup x = some c → c ≠ b) ∧ ∀ p ∈ X.pn ++ pins, p.1 ≠ b)
    (keep : ∀ b o, b ≠ X.env.locals → b ∉ X.fs → b ∉ ch → s.heap.get? b = some o → H b = none → h'.get? b = some o)
    (slot : ∀ b o, b ≠ X.env.locals → b ∈ X.fs → b ∉ ch → s.heap.get? b = some o → H b = none → ∃ sl, h'.get? b = some { o with slots := sl }) (free : ∀ b o, b ∉ ch → s.heap.get? b = some o → H b = none → H' b = none)
    (there : ∀ b o, b ∉ ch → s.heap.get? b = some o → ∃ o', h'.get? b = some o')
    (tups : ∀ b xs, H b = some (.tup xs) → H' b = some (.tup xs)) (frzs : ∀ b o u, H b = some (.frz o u) → H' b = some (.frz o u)) (tbls : ∀ b ps, H b = some (.tbl ps) → ∃ more, H' b = some (.tbl (ps ++ more)))
    (ns : ∀ m, s.heap.Ns X.env.locals m → h'.Ns X.env.locals m) (hok : HOk X.prog X.w H' h') (hg : AllBare g') :
    Inv X pins σ H' { s with heap := h', gens := g', drawn := d', toks := t' } := by
  have neL : ∀ b o, X.s₀.heap.get? b = some o → b ≠ X.env.locals := fun b o e => Nat.ne_of_lt (Nat.lt_of_lt_of_le (Heap.lt_size e) I.ok.above)
  have neC : ∀ b o, X.s₀.heap.get? b = some o → b ∉ X.ex → b ∉ ch := fun b o e hx hb => by
    rcases (hch b hb).1 with z | z
    · exact hx z
    · exact absurd (Nat.lt_of_lt_of_le (Heap.lt_size e) z) (Nat.lt_irrefl _)
  have cellK : ∀ x c, X.env.cells.lookup x = some c → ∀ v, s.heap.IsCell c v → h'.IsCell c v := fun x c e v ⟨o, ho, hd⟩ => by
    have nch : c ∉ ch := fun z => (hch c z).2.2.1 x c e rfl
    by_cases hc : c ∈ X.fs
    · obtain ⟨sl, q⟩ := slot c o (I.cne x c e) hc nch ho (I.freeC x c e)
      exact ⟨_, q, hd⟩
    · exact ⟨o, keep c o (I.cne x c e) hc nch ho (I.freeC x c e), hd⟩
  refine ⟨I.ok, I.os, hg, ⟨fun b o e n hb hx => ?_, fun b o e n hb hx => ?_, fun b o e n hx => ?_, fun b o e hx => ?_, fun b xs e => tups b xs (I.base.tups b xs e), fun b o xs e => frzs b o xs (I.base.frzs b o xs e), fun b ps e => ?_⟩, ?_, fun x c e => ?_, ?_, fun x c e => ?_, fun p hp => ?_, hok, I.len⟩
  · exact keep b o (neL b o e) hb (neC b o e hx) (I.base.keep b o e n hb hx) (I.base.free b o e n hx)
  · obtain ⟨sl, e1⟩ := I.base.slot b o e n hb hx
    obtain ⟨sl', e2⟩ := slot b _ (neL b o e) hb (neC b o e hx) e1 (I.base.free b o e n hx)
    exact ⟨sl', e2⟩
  · obtain ⟨o', e1⟩ := I.base.there b o e hx
    exact free b o' (neC b o e hx) e1 (I.base.free b o e n hx)
  · obtain ⟨o', e1⟩ := I.base.there b o e hx
    exact there b o' (neC b o e hx) e1
  · obtain ⟨m1, e1⟩ := I.base.tbls b ps e
    obtain ⟨m2, e2⟩ := tbls b _ e1
    exact ⟨m1 ++ m2, by rw [e2, Array.append_assoc]⟩
  · obtain ⟨m, hn, hl⟩ := I.loc
    refine ⟨m, ns m hn, fun i x v e1 e2 e3 => ?_⟩
    obtain ⟨u, r, l⟩ := hl i x v e1 e2 e3
    refine ⟨u, r, ?_⟩
    rcases l with l | ⟨k, c, e, z⟩
    · exact .inl l
    · exact .inr ⟨k, c, e, cellK x c e _ z⟩
  · obtain ⟨v, z⟩ := I.cell x c e
    exact ⟨v, cellK x c e v z⟩
  · obtain ⟨m, ⟨o, _, _, ho, _⟩, _⟩ := I.loc
    exact free _ o (fun z => (hch _ z).2.1 rfl) ho I.free
  · obtain ⟨v, o, ho, hd⟩ := I.cell x c e
    exact free c o (fun z => (hch c z).2.2.1 x c e rfl) ho (I.freeC x c e)
  · obtain ⟨e, n, ne, nf, d⟩ := I.pin p hp
    have nch : p.1 ∉ ch := fun z => (hch p.1 z).2.2.2 p hp rfl
    exact ⟨keep p.1 p.2 ne nf nch e n, free p.1 p.2 nch e n, ne, nf, d⟩
theorem Inv.un {t' : Nat} (I : Inv X pins σ H s) (u : Un X.fs [] H H' s.heap h') (hok : HOk X.prog X.w H' h') : Inv X pins σ H' { s with heap := h', toks := t' } := by
  obtain ⟨m, ⟨o, es, ep, ho, r⟩, _⟩ := id I.loc
  obtain ⟨sl, hL⟩ := u.any ho I.free (by simp)
  exact I.step (g' := s.gens) (d' := s.drawn) (ch := []) (fun _ z => nomatch z) (fun b o _ hb _ e n => u.keep b o e n hb (by simp)) (fun b o _ hb _ e n => u.slot b o e n hb (by simp)) (fun b o _ e n => u.free b o e n (by simp)) (fun b o _ e => u.there b o e (by simp)) u.tups u.frzs u.tbls (fun m' hm => by
    obtain ⟨o', es', ep', ho', r'⟩ := hm
    rw [ho] at ho'; cases ho'
    exact ⟨_, es', ep', hL, r'⟩) hok I.bare
theorem Inv.call {g' : Array GenState} {t' : Nat} {d' : Drawn} {ch : List Addr} (I : Inv X pins σ H s) (u : Un (frs X.stack) ch H H' s.heap h') (hok : HOk X.prog X.w H' h') (hg : AllBare g')
    (hch : ∀ b ∈ ch, (b ∈ X.ex ∨ X.s₀.heap.objs.size ≤ b) ∧ b ≠ X.env.locals ∧ (∀ x c, X.env.cells.lookup x = some c → c ≠ b) ∧ ∀ p ∈ X.pn ++ pins, p.1 ≠ b) :
    Inv X pins σ H' { s with heap := h', gens := g', drawn := d', toks := t' } := by
  obtain ⟨m, ⟨o, es, ep, ho, r⟩, _⟩ := id I.loc
  obtain ⟨sl, hL⟩ := u.any ho I.free fun z => (hch _ z).2.1 rfl
  exact I.step (ch := ch) hch (fun b o hL hb hc e n => u.keep b o e n (fun z => (List.mem_cons.mp (I.stkSub b z)).elim hL hb) hc) (fun b o _ _ hc e n => u.any e n hc) (fun b o hc e n => u.free b o e n hc) (fun b o hc e => u.there b o e hc) u.tups u.frzs u.tbls (fun m' hm => by
    obtain ⟨o', es', ep', ho', r'⟩ := hm
    rw [ho] at ho'; cases ho'
    exact ⟨_, es', ep', hL, r'⟩) hok hg
theorem Inv.turned {t' : Nat} {it : Addr} (I : Inv X pins σ H s) (k : ∀ b o, b ≠ it → s.heap.get? b = some o → h'.get? b = some o) (hn : H it = none) (hL : it ≠ X.env.locals)
    (h1 : it ∈ X.ex ∨ X.s₀.heap.objs.size ≤ it) (h2 : ∀ x c, X.env.cells.lookup x = some c → c ≠ it) (h3 : ∀ p ∈ X.pn ++ pins, p.1 ≠ it) : Inv X pins σ H { s with heap := h', toks := t' } := by
  have nit : ∀ b u, H b = some u → b ≠ it := fun b u e z => by rw [z, hn] at e; cases e
  refine I.step (g' := s.gens) (d' := s.drawn) (ch := [it]) (fun b hb => ?_) (fun b o _ _ hc e _ => k b o (fun z => hc (by simp [z])) e) (fun b o _ _ hc e _ => ⟨o.slots, k b o (fun z => hc (by simp [z])) e⟩) (fun _ _ _ _ n => n)
    (fun b o hc e => ⟨o, k b o (fun z => hc (by simp [z])) e⟩) (fun _ _ e => e) (fun _ _ _ e => e) (fun b ps e => ⟨#[], by rw [e]; simp⟩) (fun m hm => ?_) (fun b u e => ?_) I.bare
  · have e : b = it := by simpa using hb
    subst e
    exact ⟨h1, hL, h2, h3⟩
  · obtain ⟨o, es, ep, ho, r⟩ := hm
    exact ⟨o, es, ep, k _ o (Ne.symm hL) ho, r⟩
  · refine (I.hok b u e).stay (fun c v hc q => k c v ?_ q) (fun _ q => q) fun _ _ q => q
    rcases hc with z | z
    · rw [z]; exact nit b u e
    · exact nit c _ z
theorem Inv.tok (I : Inv X pins σ H s) (t : Nat) : Inv X pins σ H { s with toks := t } := I.un (h' := s.heap) (t' := t) Un.refl I.hok
theorem Inv.kept {t' : Nat} (I : Inv X pins σ H s) (k : ∀ b u, s.heap.get? b = some u → h'.get? b = some u) : Inv X pins σ H { s with heap := h', toks := t' } := I.un (Un.kept k) (I.hok.kept k)
theorem Inv.laid {a : Addr} {o : HO} {t' : Nat} (I : Inv X pins σ H s) (k : ∀ b u, s.heap.get? b = some u → h'.get? b = some u) (hp : s.heap.objs.size ≤ a) (new : ObjOk X.prog X.w (upd H a o) h' a o) :
    Inv X pins σ (upd H a o) { s with heap := h', toks := t' } := I.un (Un.laid k hp (I.hok.fresh hp)) (I.hok.laid k hp new)
theorem Inv.write {x e : Addr} {o : HO} {t' : Nat} (I : Inv X pins σ H s) (mu : Mut (H x)) (he : e = x ∨ H e = some (.own x)) (k : ∀ b u, b ≠ e → s.heap.get? b = some u → h'.get? b = some u) (heo : ∃ u, h'.get? e = some u)
    (new : ObjOk X.prog X.w (upd H x o) h' x o) : Inv X pins σ (upd H x o) { s with heap := h', toks := t' } := I.un (Un.write mu he k heo) (I.hok.write mu he k heo new)
theorem Inv.pins_of {pins' : List (Addr × Obj)} (I : Inv X pins σ H s) (h : ∀ p ∈ pins', s.heap.get? p.1 = some p.2 ∧ H p.1 = none ∧ p.1 ≠ X.env.locals ∧ p.1 ∉ X.fs ∧ ∀ v, p.2.data ≠ .cell v) : Inv X pins' σ H s :=
  ⟨I.ok, I.os, I.bare, I.base, I.loc, I.cell, I.free, I.freeC, fun p hp => (List.mem_append.mp hp).elim (fun z => I.pin p (List.mem_append_left _ z)) (h p), I.hok, I.len⟩

theorem nodup_ix {N : List Str} (hN : N.Nodup) {i j : Nat} {x : Str} (a : N[i]? = some x) (b : N[j]? = some x) : i = j := by
  obtain ⟨h1, e1⟩ := List.getElem?_eq_some_iff.mp a
  obtain ⟨h2, e2⟩ := List.getElem?_eq_some_iff.mp b
  exact (List.getElem_inj hN).mp (e1.trans e2.symm)

theorem store_ok2 {M : Model} {A : Around} {E : Value → Shared → Prop} {i : Nat} {x : Str} {v : V} {u : Value} {Q : Unit → Shared → Prop} (I : Inv X pins σ H s) (hN : X.N.Nodup) (hi : X.N[i]? = some x) (hx : Loc X.env.scope x) (r : RelV v u)
    (h : ∀ s', Inv X pins (σ.set i (some v)) H s' → (∃ a, Heap.SameBut a s.heap s'.heap ∧ (a = X.env.locals ∨ X.env.cells.lookup x = some a)) → Q () s') (hf : X.fn x = true ∨ X.env.scope.names.lookup x = some .local := by first | exact .inl rfl | exact .inr rfl | assumption) : wpAny M A (storeName X.env x u) Q E s := by
  obtain ⟨m, hn, hl⟩ := id I.loc
  have hcls : (X.env.scope.kind == .class || (X.env.scope.kind == .module && X.env.locals != X.env.globals)) = false := by rw [I.ok.kind]; rfl
  have hiσ : i < σ.length := by rw [I.len]; exact (List.getElem?_eq_some_iff.mp hi).1
  have cne := I.cne
  have tracked : ∀ {a : Addr} {h' : Heap}, (∃ o, s.heap.get? a = some o ∧ H a = none) → Heap.SameBut a s.heap h' → HOk X.prog X.w H h' := fun {a h'} ha hs b ob e => by
    obtain ⟨_, _, hfree⟩ := ha
    refine (I.hok b ob e).stay (fun c w' hc q => (hs.2 c ?_).trans q) (fun _ q => q) fun _ _ q => q
    rintro rfl
    rcases hc with rfl | hc
    · rw [hfree] at e; cases e
    · rw [hfree] at hc; cases hc
  rcases hx with hk | hk
  · refine wpAny_storeName_local hk hn (fun h' hn' hs => ?_) hcls
    obtain ⟨oL, _, _, hoL, _⟩ := id hn
    refine h _ ⟨I.ok, I.os, I.bare, ⟨fun b o e n hb hx => ?_, fun b o e n hb hx => ?_, I.base.free, fun b o e hx => ?_, I.base.tups, I.base.frzs, I.base.tbls⟩, ⟨_, hn', fun j y v' e1 e2 e3 => ?_⟩, fun y c e => ?_, I.free, I.freeC, fun p hp => ?_, tracked ⟨oL, hoL, I.free⟩ hs, by simpa using I.len⟩ ⟨_, hs, .inl rfl⟩
    · exact (hs.2 b (Nat.ne_of_lt (Nat.lt_of_lt_of_le (Heap.lt_size e) I.ok.above))).trans (I.base.keep b o e n hb hx)
    · obtain ⟨sl, e1⟩ := I.base.slot b o e n hb hx
      exact ⟨sl, (hs.2 b (Nat.ne_of_lt (Nat.lt_of_lt_of_le (Heap.lt_size e) I.ok.above))).trans e1⟩
    · obtain ⟨o', e1⟩ := I.base.there b o e hx
      exact ⟨o', (hs.2 b (Nat.ne_of_lt (Nat.lt_of_lt_of_le (Heap.lt_size e) I.ok.above))).trans e1⟩
    · by_cases hj : j = i
      · subst hj
        rw [hi] at e1; cases e1
        rw [List.getElem?_set_self hiσ] at e2
        cases e2
        exact ⟨u, r, .inl ⟨hk, by simp⟩⟩
      · rw [List.getElem?_set_ne (Ne.symm hj)] at e2
        obtain ⟨u', r', q⟩ := hl j y v' e1 e2 e3
        refine ⟨u', r', ?_⟩
        rcases q with ⟨k, e⟩ | ⟨k, c, e, z⟩
        · refine .inl ⟨k, ?_⟩
          have : y ≠ x := fun e => hj (nodup_ix hN e1 (e ▸ hi))
          simp [this, e]
        · exact .inr ⟨k, c, e, z.sameBut hs (cne y c e)⟩
    · obtain ⟨w', z⟩ := I.cell y c e
      exact ⟨w', z.sameBut hs (cne y c e)⟩
    · obtain ⟨e, n, ne, nf, d⟩ := I.pin p hp
      exact ⟨(hs.2 p.1 ne).trans e, n, ne, nf, d⟩
  · have hfn : X.fn x = true := by
      rcases hf with z | z
      · exact z
      · rw [z] at hk; cases hk
    obtain ⟨c, hc⟩ := I.ok.has x (.inl hk)
    obtain ⟨w', z⟩ := I.cell x c hc
    refine wpAny_storeName_cell I.ok.kind hk hc z (fun h' hc' hs => ?_)
    obtain ⟨oc, hoc, hocd⟩ := id z
    refine h { s with heap := h' } ⟨I.ok, I.os, I.bare, ⟨fun b o e n hb hx => ?_, fun b o e n hb hx => ?_, I.base.free, fun b o e hx => ?_, I.base.tups, I.base.frzs, I.base.tbls⟩, ⟨m, hn.sameBut hs (Ne.symm (cne x c hc)), fun j y v' e1 e2 e3 => ?_⟩, fun y c' e => ?_, I.free, I.freeC, fun p hp => ?_, tracked ⟨oc, hoc, I.freeC x c hc⟩ hs, by simpa using I.len⟩ ⟨c, hs, .inr hc⟩
    · exact (hs.2 b (Nat.ne_of_lt (Nat.lt_of_lt_of_le (Heap.lt_size e) (I.ok.cab x c hfn hc)))).trans (I.base.keep b o e n hb hx)
    · obtain ⟨sl, e1⟩ := I.base.slot b o e n hb hx
      exact ⟨sl, (hs.2 b (Nat.ne_of_lt (Nat.lt_of_lt_of_le (Heap.lt_size e) (I.ok.cab x c hfn hc)))).trans e1⟩
    · obtain ⟨o', e1⟩ := I.base.there b o e hx
      exact ⟨o', (hs.2 b (Nat.ne_of_lt (Nat.lt_of_lt_of_le (Heap.lt_size e) (I.ok.cab x c hfn hc)))).trans e1⟩
    · by_cases hj : j = i
      · subst hj
        rw [hi] at e1; cases e1
        rw [List.getElem?_set_self hiσ] at e2
        cases e2
        exact ⟨u, r, .inr ⟨.inl hk, c, hc, hc'⟩⟩
      · rw [List.getElem?_set_ne (Ne.symm hj)] at e2
        obtain ⟨u', r', q⟩ := hl j y v' e1 e2 e3
        refine ⟨u', r', ?_⟩
        rcases q with q | ⟨k, c', e, z'⟩
        · exact .inl q
        · refine .inr ⟨k, c', e, z'.sameBut hs ?_⟩
          rintro rfl
          exact hj (nodup_ix hN e1 (I.ok.inj _ _ _ e hc ▸ hi))
    · by_cases hcc : c' = c
      · subst hcc; exact ⟨_, hc'⟩
      · obtain ⟨w2, z2⟩ := I.cell y c' e
        exact ⟨w2, z2.sameBut hs hcc⟩
    · obtain ⟨e, n, ne, nf, d⟩ := I.pin p hp
      refine ⟨(hs.2 p.1 ?_).trans e, n, ne, nf, d⟩
      intro q
      rw [q, hoc] at e
      have q' : oc = p.2 := Option.some.inj e
      exact d w' (by rw [← q']; exact hocd)
theorem store_ok {M : Model} {A : Around} {E : Value → Shared → Prop} {i : Nat} {x : Str} {v : V} {u : Value} {Q : Unit → Shared → Prop} (I : Inv X pins σ H s) (hN : X.N.Nodup) (hi : X.N[i]? = some x) (hx : Loc X.env.scope x) (r : RelV v u)
    (h : ∀ s', Inv X pins (σ.set i (some v)) H s' → Q () s') (hf : X.fn x = true ∨ X.env.scope.names.lookup x = some .local := by first | exact .inl rfl | exact .inr rfl | assumption) : wpAny M A (storeName X.env x u) Q E s :=
  store_ok2 I hN hi hx r (fun s' I' _ => h s' I') hf
theorem Inv.call' {s' : Shared} {ch : List Addr} (I : Inv X pins σ H s) (ho : s'.os = s.os) (u : Un (frs X.stack) ch H H' s.heap s'.heap) (hok : HOk X.prog X.w H' s'.heap) (hg : AllBare s'.gens)
    (hch : ∀ b ∈ ch, (b ∈ X.ex ∨ X.s₀.heap.objs.size ≤ b) ∧ b ≠ X.env.locals ∧ (∀ x c, X.env.cells.lookup x = some c → c ≠ b) ∧ ∀ p ∈ X.pn ++ pins, p.1 ≠ b) : Inv X pins σ H' s' := by
  obtain ⟨h', g', d', t', o'⟩ := s'
  have e : o' = s.os := ho
  subst e
  exact I.call (g' := g') (t' := t') (d' := d') u hok hg hch
end

abbrev XK := Value → Option Addr → Hp → Prop
abbrev St := List (Option V)
abbrev VK := V → Hp → Prop
abbrev TE := St → Hp → VK → Prop
abbrev TT := St → Hp → (Bool → Hp → Prop) → Prop
abbrev TA := St → Hp → (List V → Hp → Prop) → Prop
structure Ends where
  nx : St → Hp → Prop
  rt : VK
  bk : St → Hp → Prop := fun _ _ => False
  ct : St → Hp → Prop := fun _ _ => False
abbrev TS := Ends → St → Hp → Prop

def EP (X : Cx) (pins : List (Addr × Obj)) (σ : St) (Q : VK) (u : Value) (s' : Shared) : Prop := ∃ v H', Inv X pins σ H' s' ∧ RelV v u ∧ Q v H'
def TP (X : Cx) (pins : List (Addr × Obj)) (σ : St) (Q : Bool → Hp → Prop) (b : Bool) (s' : Shared) : Prop := ∃ H', Inv X pins σ H' s' ∧ Q b H'
def AP (X : Cx) (pins : List (Addr × Obj)) (σ : St) (Q : List V → Hp → Prop) (us : List Value) (s' : Shared) : Prop := ∃ vs H', Inv X pins σ H' s' ∧ Vals vs us ∧ Q vs H'
def SP (X : Cx) (pins : List (Addr × Obj)) (D : Ends) (f : Flow) (s' : Shared) : Prop :=
  match f with
  | .next => ∃ σ' H', Inv X pins σ' H' s' ∧ D.nx σ' H'
  | .brk => ∃ σ' H', Inv X pins σ' H' s' ∧ D.bk σ' H'
  | .cont => ∃ σ' H', Inv X pins σ' H' s' ∧ D.ct σ' H'
  | .ret u => ∃ v σ' H', Inv X pins σ' H' s' ∧ RelV v u ∧ D.rt v H'

def PE (X : Cx) (e : Expr) (t : TE) : Prop :=
  ∀ (pins : List (Addr × Obj)) (s : Shared) (σ : St) (H : Hp) (Q : VK), Inv X pins σ H s → t σ H Q → wpAny (model X.prog X.w) X.A (eval e X.env) (EP X pins σ Q) X.xe s
def PT (X : Cx) (e : Expr) (t : TT) : Prop :=
  ∀ (pins : List (Addr × Obj)) (s : Shared) (σ : St) (H : Hp) (Q : Bool → Hp → Prop), Inv X pins σ H s → t σ H Q → wpAny (model X.prog X.w) X.A (isTrue e X.env (eval e X.env)) (TP X pins σ Q) X.xe s
def PW (X : Cx) (e : Expr) (t : TT) : Prop :=
  ∀ (whole : Sem Value) (pins : List (Addr × Obj)) (s : Shared) (σ : St) (H : Hp) (Q : Bool → Hp → Prop), Inv X pins σ H s → t σ H Q → wpAny (model X.prog X.w) X.A (isTrue e X.env whole) (TP X pins σ Q) X.xe s
theorem PW.pt {X : Cx} {e : Expr} {t : TT} (h : PW X e t) : PT X e t := h _
def PA (X : Cx) (es : List Expr) (t : TA) : Prop :=
  ∀ (pos : Pos) (pins : List (Addr × Obj)) (s : Shared) (σ : St) (H : Hp) (Q : List V → Hp → Prop), Inv X pins σ H s → t σ H Q → wpAny (model X.prog X.w) X.A (spliced (backTo pos (starEach es X.env))) (AP X pins σ Q) X.xe s
def PS (X : Cx) (st : Stmt) (t : TS) : Prop :=
  ∀ (pins : List (Addr × Obj)) (s : Shared) (σ : St) (H : Hp) (D : Ends), Inv X pins σ H s → t D σ H → wpAny (model X.prog X.w) X.A (exec st X.env) (SP X pins D) X.xe s
def PSs (X : Cx) (st : List Stmt) (t : TS) : Prop :=
  ∀ (pins : List (Addr × Obj)) (s : Shared) (σ : St) (H : Hp) (D : Ends), Inv X pins σ H s → t D σ H → wpAny (model X.prog X.w) X.A (execs st X.env) (SP X pins D) X.xe s
theorem thn {α : Type} {t : Sem α} {Q Q' : α → Shared → Prop} {M : Model} {A : Around} {E : Value → Shared → Prop} {s : Shared} (h : wpAny M A t Q E s) (hQ : ∀ a s, Q a s → Q' a s) : wpAny M A t Q' E s := wpAny_mono h hQ fun _ _ x => x
end L2

namespace L2
open PySem PySem.Spec PyProof.Rows
section
variable {X : Cx}

def tVar (i : Nat) : TE := fun σ H Q => ∃ v, σ[i]? = some (some v) ∧ Q v H
def tC (v : V) : TE := fun _ H Q => Q v H
theorem pe_var {i : Nat} {x : Str} {pos : Pos} (hN : X.N[i]? = some x) (hv : Vis X.env.scope x) (hd : (x == ("__debug__" : Str)) = false := by decide) (hcd : (x == ("__classdict__" : Str)) = false := by decide) : PE X (.Name x pos) (tVar i) := by
  intro pins s σ H Q I h
  obtain ⟨v, e, h⟩ := h
  obtain ⟨m, hn, hl⟩ := I.loc
  obtain ⟨u, r, l⟩ := hl i x v hN e hv
  have fin : EP X pins σ Q u s := ⟨v, H, I, r, h⟩
  rcases l with ⟨hk, hm⟩ | ⟨hk, c, hc, hcell⟩
  · exact wpAny_Name (wpAny_loadName_local I.ok.kind hk hn hm fin) hd
  · rcases hk with hk | hk
    · exact wpAny_Name (wpAny_loadName_cell I.ok.kind hk hc hcell fin) hd
    · exact wpAny_Name (wpAny_loadName_free I.ok.kind hk hc hcell fin hcd) hd
theorem pe_int {i j pos} : PE X (.Constant (.int i) j pos) (tC (.int i)) := fun _ _ _ H _ I h => wpAny_Constant_int ⟨.int i, H, I.tok _, ⟨_, rfl⟩, h⟩
theorem pe_bl {b j pos} : PE X (.Constant (.bool b) j pos) (tC (.bl b)) := fun _ _ _ H _ I h => Constant_bool ⟨.bl b, H, I, rfl, h⟩
theorem pe_non {j pos} : PE X (.Constant .none j pos) (tC .non) := fun _ _ _ H _ I h => Constant_none ⟨.non, H, I, rfl, h⟩
theorem pe_str {x j pos} : PE X (.Constant (.str x) j pos) (tC (.str x)) := fun _ _ _ H _ I h => Calls.Constant_str ⟨.str x, H, I.tok _, ⟨_, rfl⟩, h⟩

def Gl (X : Cx) (x : Str) : Prop := X.env.kindOf x = some .globalImplicit
theorem ld_glob {E : Value → Shared → Prop} {pins : List (Addr × Obj)} {s : Shared} {σ : St} {H : Hp} {x : Str} {u : Value} {pos : Pos} {Q : Value → Shared → Prop} (I : Inv X pins σ H s) (hg : Gl X x) (hm : X.mg x = some u) (h : Q u s)
    (hd : (x == ("__debug__" : Str)) = false := by decide) : wpAny (model X.prog X.w) X.A (eval (.Name x pos) X.env) Q E s :=
  Calls.Name_function_global I.ok.kind hg (Calls.loadGlobal_global (by rw [I.ok.glob]; exact I.mod.glob.keeps I.bk) hm h) hd
theorem ld_blt {E : Value → Shared → Prop} {pins : List (Addr × Obj)} {s : Shared} {σ : St} {H : Hp} {x : Str} {u : Value} {pos : Pos} {Q : Value → Shared → Prop} (I : Inv X pins σ H s) (hg : Gl X x) (hm : X.mg x = none) (hv : bootBuiltins x = some u) (h : Q u s)
    (hn : x ≠ "__name__" := by decide) (hd : (x == ("__debug__" : Str)) = false := by decide) : wpAny (model X.prog X.w) X.A (eval (.Name x pos) X.env) Q E s := by
  obtain ⟨mb, h1, h2⟩ := I.mod.blt
  exact Calls.Name_function_global I.ok.kind hg (Calls.loadGlobal_builtin (by rw [I.ok.glob]; exact I.mod.glob.keeps I.bk) hm (by rw [I.ok.blt]; exact h1.keeps I.bk) ((h2 x hn).trans hv) h) hd
theorem pe_glob {x : Str} {v : V} {u : Value} {pos : Pos} (hg : Gl X x) (hm : X.mg x = some u) (r : RelV v u) (hd : (x == ("__debug__" : Str)) = false := by decide) : PE X (.Name x pos) (tC v) :=
  fun _ _ _ H _ I h => ld_glob I hg hm ⟨v, H, I, r, h⟩ hd
theorem pe_bltn {x : Str} {v : V} {u : Value} {pos : Pos} (hg : Gl X x) (hm : X.mg x = none) (hv : bootBuiltins x = some u) (r : RelV v u) (hn : x ≠ "__name__" := by decide) (hd : (x == ("__debug__" : Str)) = false := by decide) : PE X (.Name x pos) (tC v) :=
  fun _ _ _ H _ I h => ld_blt I hg hm hv ⟨v, H, I, r, h⟩ hn hd

variable {a b : Expr} {ta tb : TE} {pos : Pos}
def tB (t : TE) : TT := fun σ H Q => t σ H fun x H1 => ∃ c, x = .bl c ∧ Q c H1
theorem pt_val {e : Expr} {t : TE} (h : PE X e t) (he : ∀ whole, isTrue e X.env whole = (do let v ← whole; standAt e.pos; holding [v] (truthy v)) := by intro _; rfl) : PT X e (tB t) := by
  intro pins s σ H Q I hw
  refine isTrue_plain (thn (h pins s σ H _ I hw) fun v s1 ⟨x, H1, I1, r1, q1⟩ => ?_) (he _)
  obtain ⟨d, rfl, q⟩ := q1
  cases r1
  exact wpAny_truthy_bool ⟨H1, I1, q⟩

variable {tA tB' : TT} {rest : List Expr}
def tAnd (t u : TT) : TT := fun σ H Q => t σ H fun c H1 => if c = true then u σ H1 Q else Q false H1
def tOr (t u : TT) : TT := fun σ H Q => t σ H fun c H1 => if c = true then Q true H1 else u σ H1 Q
def tNot (t : TT) : TT := fun σ H Q => t σ H fun c H1 => Q (!c) H1
theorem pw_and1 (ha : PT X a tA) : PW X (.BoolOp .And [a] pos) tA := by
  intro wh pins s σ H Q I h
  refine isTrue_and (thn (ha pins s σ H Q I h) fun c s1 e => ?_)
  cases c with
  | true => exact isTrue_and_nil e
  | false => exact e
theorem pw_or1 (ha : PT X a tA) : PW X (.BoolOp .Or [a] pos) tA := by
  intro wh pins s σ H Q I h
  refine isTrue_or (thn (ha pins s σ H Q I h) fun c s1 e => ?_)
  cases c with
  | false => exact isTrue_or_nil e
  | true => exact e
theorem pw_and (ha : PT X a tA) (hb : PW X (.BoolOp .And (b :: rest) pos) tB') : PW X (.BoolOp .And (a :: b :: rest) pos) (tAnd tA tB') := by
  intro wh pins s σ H Q I h
  refine isTrue_and (thn (ha pins s σ H _ I h) fun c s1 ⟨H1, I1, q1⟩ => ?_)
  cases c with
  | true => exact hb wh pins s1 σ H1 Q I1 q1
  | false => exact ⟨H1, I1, q1⟩
theorem pw_or (ha : PT X a tA) (hb : PW X (.BoolOp .Or (b :: rest) pos) tB') : PW X (.BoolOp .Or (a :: b :: rest) pos) (tOr tA tB') := by
  intro wh pins s σ H Q I h
  refine isTrue_or (thn (ha pins s σ H _ I h) fun c s1 ⟨H1, I1, q1⟩ => ?_)
  cases c with
  | true => exact ⟨H1, I1, q1⟩
  | false => exact hb wh pins s1 σ H1 Q I1 q1
theorem pt_not (ha : PT X a tA) : PT X (.UnaryOp .Not a pos) (tNot tA) := by
  intro pins s σ H Q I h
  exact isTrue_not (ha pins s σ H (fun c H1 => Q (!c) H1) I h)
def tAndV (ta tb : TE) : TE := fun σ H Q => ta σ H fun x H1 => ∃ c, x = .bl c ∧ if c = true then tb σ H1 Q else Q (.bl false) H1
def tNotV (ta : TE) : TE := fun σ H Q => ta σ H fun x H1 => ∃ c, x = .bl c ∧ Q (.bl (!c)) H1
theorem pe_one {op} {t : TE} (h : PE X a t) : PE X (.BoolOp op [a] pos) t := fun pins s σ H Q I hw => BoolOp_one (h pins s σ H Q I hw)
theorem pe_and (ha : PE X a ta) (hb : PE X (.BoolOp .And (b :: rest) pos) tb) : PE X (.BoolOp .And (a :: b :: rest) pos) (tAndV ta tb) := by
  intro pins s σ H Q I h
  refine BoolOp_and (thn (ha pins s σ H _ I h) fun v s1 ⟨x, H1, I1, r1, q1⟩ => ?_)
  obtain ⟨c, rfl, q1⟩ := q1
  cases r1
  refine wpAny_truthy_bool ?_
  cases c with
  | true => exact hb pins s1 σ H1 Q I1 q1
  | false => exact ⟨.bl false, H1, I1, rfl, q1⟩
theorem pe_not (ha : PE X a ta) : PE X (.UnaryOp .Not a pos) (tNotV ta) := by
  intro pins s σ H Q I h
  refine UnaryOp_ (thn (ha pins s σ H _ I h) fun v s1 ⟨x, H1, I1, r1, q1⟩ => ?_)
  obtain ⟨c, rfl, q1⟩ := q1
  cases r1
  exact not_of (wpAny_truthy_bool ⟨.bl (!c), H1, I1, rfl, q1⟩)
def tIf (t : TT) (ta tb : TE) : TE := fun σ H Q => t σ H fun c H1 => if c = true then ta σ H1 Q else tb σ H1 Q
theorem pe_ifExp {c : Expr} (hc : PT X c tA) (ha : PE X a ta) (hb : PE X b tb) : PE X (.IfExp c a b pos) (tIf tA ta tb) := by
  intro pins s σ H Q I h
  refine wpAny_IfExp (thn (hc pins s σ H _ I h) fun d s1 ⟨H1, I1, q1⟩ => ?_)
  cases d with
  | true => exact ha pins s1 σ H1 Q I1 q1
  | false => exact hb pins s1 σ H1 Q I1 q1
end
end L2

namespace L2
open PySem PySem.Spec PyProof.Rows

def SqL (K : PySem.W.Frag) (H : Hp) (a : Addr) (xs : List V) : Prop :=
  Rd H a (.lst xs) ∨
    ∃ (o : Obj) (its : Array Value) (n : Nat), K.lookup a = some o ∧ o.cls = .type "list" ∧ o.dict = none ∧ o.data = .seq its n ∧ its.size ≤ sizeLine ∧ Vals xs its.toList
def SqT (K : PySem.W.Frag) (H : Hp) (a : Addr) (xs : List V) : Prop :=
  Rd H a (.tup xs) ∨
    ∃ (o : Obj) (its : Array Value) (n : Nat), K.lookup a = some o ∧ o.cls = .type "tuple" ∧ o.data = .seq its n ∧ its.size ≤ sizeLine ∧ Vals xs its.toList
def absV : Value → Option V
  | .none => some .non
  | .bool b => some (.bl b)
  | .int i _ => some (.int i)
  | .str x _ => some (.str x)
  | .bytes b _ => some (.byt b)
  | .float b _ => some (.flt b)
  | .ref a => some (.ref a)
  | .type n => some (.ty n)
  | _ => none
theorem RelV.abs {x : V} {u : Value} (r : RelV x u) : absV u = some x := by
  cases x with
  | non => cases r; rfl
  | bl _ => cases r; rfl
  | int _ => obtain ⟨t, rfl⟩ := r; rfl
  | str _ => obtain ⟨t, rfl⟩ := r; rfl
  | byt _ => obtain ⟨t, rfl⟩ := r; rfl
  | flt _ => obtain ⟨t, rfl⟩ := r; rfl
  | ref _ => cases r; rfl
  | ty _ => cases r; rfl
theorem RelV.inj {x y : V} {u : Value} (r : RelV x u) (q : RelV y u) : x = y := Option.some.inj (r.abs.symm.trans q.abs)
theorem Vals.inj : ∀ {xs ys : List V} {us : List Value}, Vals xs us → Vals ys us → xs = ys
  | _, _, _, .nil, .nil => rfl
  | _, _, _, .cons r t, .cons r' t' => by rw [r.inj r', Vals.inj t t']
section
variable {X : Cx} {pins : List (Addr × Obj)} {σ : St} {H : Hp} {s : Shared} {a : Addr} {xs ys : List V}
theorem SqL.of {K : PySem.W.Frag} (h : H a = some (.lst xs)) : SqL K H a xs := .inl (.inl h)
theorem SqT.of {K : PySem.W.Frag} (h : H a = some (.tup xs)) : SqT K H a xs := .inl (.inl h)
theorem Inv.list (I : Inv X pins σ H s) (h : SqL X.K H a xs) : ∃ its : List Value, Vals xs its ∧ PlainL s.heap a its.toArray ∧ xs.length ≤ sizeLine := by
  rcases h with h | ⟨o, its, n, hk, hc, hd, hs, hz, r⟩
  · obtain ⟨z, its, n, r, e⟩ := h.ok I.hok
    exact ⟨its, r, ⟨_, n, e, rfl, rfl, rfl⟩, z⟩
  · refine ⟨its.toList, r, ⟨o, n, I.kIn a o hk, hc, hd, by simpa using hs⟩, ?_⟩
    have e := r.length
    simp only [Array.length_toList] at e
    omega
theorem Inv.tuple (I : Inv X pins σ H s) (h : SqT X.K H a xs) : ∃ its : List Value, Vals xs its ∧ IsTup s.heap a its.toArray ∧ xs.length ≤ sizeLine := by
  rcases h with h | ⟨o, its, n, hk, hc, hs, hz, r⟩
  · obtain ⟨z, its, r, p⟩ := h.ok I.hok
    exact ⟨its, r, p, z⟩
  · refine ⟨its.toList, r, ⟨o, I.kIn a o hk, hc, n, by simpa using hs⟩, ?_⟩
    have e := r.length
    simp only [Array.length_toList] at e
    omega
theorem Inv.list_inj (I : Inv X pins σ H s) (h : SqL X.K H a xs) (h' : SqL X.K H a ys) : xs = ys := by
  obtain ⟨its, r, ⟨o, n, e, _, _, d⟩, _⟩ := I.list h
  obtain ⟨its', r', ⟨o', n', e', _, _, d'⟩, _⟩ := I.list h'
  rw [e] at e'; cases e'
  rw [d] at d'
  injection d' with d1 _
  have : its = its' := by simpa using congrArg Array.toList d1
  subst this
  exact r.inj r'
end

abbrev Cx.wish (X : Cx) (E : Value → Shared → Prop) : Cx := { X with xe := E }
abbrev Cx.nox (X : Cx) : Cx := X.wish fun _ _ => False
theorem Cx.Ok.wish {X : Cx} (ok : X.Ok) (E : Value → Shared → Prop) : (X.wish E).Ok :=
  ⟨ok.mod, ok.kind, ok.glob, ok.blt, ok.above, ok.inj, ok.has, ok.cab, ok.hd, ok.frames, ok.stk, ok.exf, ok.bs, ok.bsz, ok.noex, ok.exfs, ok.funs, ok.frf⟩
theorem Cx.Ok.unwish {X : Cx} {E : Value → Shared → Prop} (ok : (X.wish E).Ok) : X.Ok :=
  ⟨ok.mod, ok.kind, ok.glob, ok.blt, ok.above, ok.inj, ok.has, ok.cab, ok.hd, ok.frames, ok.stk, ok.exf, ok.bs, ok.bsz, ok.noex, ok.exfs, ok.funs, ok.frf⟩
section
variable {X : Cx} {pins : List (Addr × Obj)} {σ : St} {H : Hp} {s : Shared} {E : Value → Shared → Prop}
theorem Inv.wish (I : Inv X pins σ H s) (E : Value → Shared → Prop) : Inv (X.wish E) pins σ H s := ⟨I.ok.wish E, I.os, I.bare, I.base, I.loc, I.cell, I.free, I.freeC, I.pin, I.hok, I.len⟩
theorem Inv.unwish (I : Inv (X.wish E) pins σ H s) : Inv X pins σ H s := ⟨I.ok.unwish, I.os, I.bare, I.base, I.loc, I.cell, I.free, I.freeC, I.pin, I.hok, I.len⟩
theorem SP.unwish {D : Ends} {f : Flow} {s' : Shared} (h : SP (X.wish E) pins D f s') : SP X pins D f s' := by
  cases f with
  | next => obtain ⟨σ', H', I, q⟩ := h; exact ⟨σ', H', I.unwish, q⟩
  | brk => obtain ⟨σ', H', I, q⟩ := h; exact ⟨σ', H', I.unwish, q⟩
  | cont => obtain ⟨σ', H', I, q⟩ := h; exact ⟨σ', H', I.unwish, q⟩
  | ret u => obtain ⟨v, σ', H', I, r, q⟩ := h; exact ⟨v, σ', H', I.unwish, r, q⟩
theorem PSs.nox {st : List Stmt} {t : TS} (h : PSs X.nox st t) : PSs X st t := fun pins s σ H D I hw =>
  wpAny_mono (h pins s σ H D (I.wish _) hw) (fun _ _ q => q.unwish) fun _ _ z => False.elim z
end

section
variable {X : Cx} {st : Stmt} {rest : List Stmt} {t u : TS} {e : Expr} {te : TE} {pos : Pos}
def tNext : TS := fun D σ H => D.nx σ H
def tSeq (t u : TS) : TS := fun D σ H => t { D with nx := u D } σ H
theorem pss_nil : PSs X [] tNext := fun _ _ σ H _ I h => wpAny_execs_nil ⟨σ, H, I, h⟩
theorem pss_cons (h1 : PS X st t) (h2 : PSs X rest u) : PSs X (st :: rest) (tSeq t u) := by
  intro pins s σ H D I h
  refine wpAny_execs_cons (thn (h1 pins s σ H { D with nx := u D } I h) fun f s1 q => ?_)
  cases f with
  | next =>
    obtain ⟨σ', H', I', q⟩ := q
    exact h2 pins s1 σ' H' D I' q
  | ret v => exact q
  | brk => exact q
  | cont => exact q
theorem pss_one (h1 : PS X st t) : PSs X [st] t := by
  intro pins s σ H D I h
  refine wpAny_execs_cons (thn (h1 pins s σ H D I h) fun f s1 q => ?_)
  cases f with
  | next => exact wpAny_execs_nil q
  | ret v => exact q
  | brk => exact q
  | cont => exact q
theorem Inv.quiet {pins : List (Addr × Obj)} {σ : St} {H : Hp} {s : Shared} (I : Inv X pins σ H s) : interactive X.env = false := by simp [interactive, I.ok.kind]
def tDrop (te : TE) : TS := fun D σ H => te σ H fun _ H1 => D.nx σ H1
theorem ps_expr (he : PE X e te) (hs : swapsWith e none pos.line X.env = pure false := by rfl) : PS X (.Expr e pos) (tDrop te) := by
  intro pins s σ H D I h
  exact wpAny_Expr_any (thn (he pins s σ H _ I h) fun v s1 ⟨x, H1, I1, r1, q1⟩ => ⟨σ, H1, I1, q1⟩) I.quiet hs
def tRet (te : TE) : TS := fun D σ H => te σ H D.rt
theorem ps_ret (he : PE X e te) : PS X (.Return (some e) pos) (tRet te) := by
  intro pins s σ H D I h
  exact wpAny_Return_some (thn (he pins s σ H _ I h) fun v s1 ⟨x, H1, I1, r1, q1⟩ => ⟨x, σ, H1, I1, r1, q1⟩)
def tIfS (c : TT) (t u : TS) : TS := fun D σ H => c σ H fun b H1 => if b = true then t D σ H1 else u D σ H1
theorem ps_if {c : Expr} {a b : List Stmt} {tc : TT} (hc : PT X c tc) (ha : PSs X a t) (hb : PSs X b u) : PS X (.If c a b pos) (tIfS tc t u) := by
  intro pins s σ H D I h
  refine wpAny_If (thn (hc pins s σ H _ I h) fun d s1 ⟨H1, I1, q1⟩ => ?_)
  cases d with
  | true => exact ha pins s1 σ H1 D I1 q1
  | false => exact hb pins s1 σ H1 D I1 q1
end

abbrev TG := V → St → Hp → (St → Hp → Prop) → Prop
abbrev TGs := List V → St → Hp → (St → Hp → Prop) → Prop
def PG (X : Cx) (target : Expr) (t : TG) : Prop :=
  ∀ (pins : List (Addr × Obj)) (s : Shared) (σ : St) (H : Hp) (v : V) (u : Value) (Q : St → Hp → Prop), Inv X pins σ H s → RelV v u → t v σ H Q →
    wpAny (model X.prog X.w) X.A (assign target X.env u) (fun _ s' => ∃ σ' H', Inv X pins σ' H' s' ∧ Q σ' H') X.xe s
def PGs (X : Cx) (ts : List Expr) (t : TGs) : Prop :=
  ∀ (pins : List (Addr × Obj)) (s : Shared) (σ : St) (H : Hp) (vs : List V) (us : List Value) (Q : St → Hp → Prop), Inv X pins σ H s → Vals vs us → t vs σ H Q →
    wpAny (model X.prog X.w) X.A (assignInOrder ((assignEach ts X.env).map (·.2)) us) (fun _ s' => ∃ σ' H', Inv X pins σ' H' s' ∧ Q σ' H') X.xe s
abbrev TSet := V → V → V → Hp → (Hp → Prop) → Prop
def PSet (X : Cx) (t : TSet) : Prop :=
  ∀ (pins : List (Addr × Obj)) (s : Shared) (σ : St) (H : Hp) (o i v : V) (ov iv u : Value) (Q : Hp → Prop), Inv X pins σ H s → RelV o ov → RelV i iv → RelV v u → t o i v H Q →
    wpAny (model X.prog X.w) X.A (setItem ov iv u) (fun _ s' => ∃ H', Inv X pins σ H' s' ∧ Q H') X.xe s
section
variable {X : Cx} {pos : Pos}
def gName (i : Nat) : TG := fun v σ H Q => Q (σ.set i (some v)) H
theorem pg_name {i : Nat} {x : Str} (hN : X.N.Nodup) (hi : X.N[i]? = some x) (hx : Loc X.env.scope x) (hf : X.fn x = true ∨ X.env.scope.names.lookup x = some .local := by first | exact .inl rfl | exact .inr rfl | assumption) : PG X (.Name x pos) (gName i) := by
  intro pins s σ H v u Q I r h
  exact wpAny_assign_Name (store_ok I hN hi hx r (fun s' I' => ⟨_, H, I', h⟩) hf)
def gNil : TGs := fun vs σ H Q => vs = [] ∧ Q σ H
def gCons (t : TG) (u : TGs) : TGs := fun vs σ H Q => ∃ v r, vs = v :: r ∧ t v σ H fun σ' H' => u r σ' H' Q
theorem pgs_nil : PGs X [] gNil := by
  intro pins s σ H vs us Q I r h
  obtain ⟨e, h⟩ := h
  subst e
  cases r
  exact assignInOrder_nil ⟨σ, H, I, h⟩
theorem pgs_cons {e : Expr} {es : List Expr} {t : TG} {u : TGs} (h1 : PG X e t) (h2 : PGs X es u)
    (hs : (assignEach (e :: es) X.env).map (·.2) = assign e X.env :: (assignEach es X.env).map (·.2) := by rfl) : PGs X (e :: es) (gCons t u) := by
  intro pins s σ H vs us Q I r h
  obtain ⟨v, vr, e1, h⟩ := h
  subst e1
  cases r with
  | cons r rr =>
    rw [hs]
    refine assignInOrder_cons (thn (h1 pins s σ H _ _ _ I r h) fun _ s1 ⟨σ1, H1, I1, q1⟩ => ?_)
    exact h2 pins s1 σ1 H1 _ _ Q I1 rr q1
def gTup (K : PySem.W.Frag) (n : Nat) (t : TGs) : TG := fun v σ H Q => ∃ a xs, v = .ref a ∧ SqT K H a xs ∧ xs.length = n ∧ t xs σ H Q
theorem pg_tup {es : List Expr} {k : Nat} {t : TGs} {n : Nat} (hc : X.calm = true) (h : PGs X es t)
    (hn : (assignEach es X.env).length = n := by rfl) (hst : (assignEach es X.env).findIdx? (·.1) = none := by rfl) : PG X (.Tuple es k pos) (gTup X.K n t) := by
  intro pins s σ H v u Q I r hw
  obtain ⟨a, xs, e1, hq, hl, hw⟩ := hw
  subst e1
  cases r
  obtain ⟨its, rv, ht, hz⟩ := I.tuple hq
  refine assign_Tuple_tuple (I.ok.hd hc) ht (by simp [hn, ← hl, rv.length]) hst fun h' hx => ?_
  have I1 : Inv X pins σ H { s with heap := h' } := I.kept (t' := s.toks) fun b o e => hx b o (Nat.ne_of_lt (Heap.lt_size e)) e
  exact h pins _ σ H xs _ Q I1 (by simpa using rv) hw
def gSub (to ti : TE) (t : TSet) : TG := fun v σ H Q => to σ H fun o H1 => ti σ H1 fun i H2 => t o i v H2 fun H3 => Q σ H3
theorem pg_sub {o i : Expr} {to ti : TE} {t : TSet} (ho : PE X o to) (hi : PE X i ti) (hs : PSet X t)
    (ha : ∀ v, assign (.Subscript o i pos) X.env v = (do
      let ov ← holding [v] (eval o X.env)
      let iv ← holding [v, ov] (eval i X.env)
      standAt pos
      holding [v, ov, iv] (setItem ov iv v)
      release [v, ov, iv] []) := by intro _; rfl) : PG X (.Subscript o i pos) (gSub to ti t) := by
  intro pins s σ H v u Q I r h
  rw [ha]
  refine wpAny_bind (wpAny_holding (thn (ho pins s σ H _ I h) fun ov s1 ⟨x, H1, I1, r1, q1⟩ => ?_))
  refine wpAny_bind (wpAny_holding (thn (hi pins s1 σ H1 _ I1 q1) fun iv s2 ⟨y, H2, I2, r2, q2⟩ => ?_))
  refine wpAny_bind (wpAny_standAt (wpAny_bind (wpAny_holding (thn (hs pins s2 σ H2 x y v ov iv u _ I2 r1 r2 r q2) fun _ s3 ⟨H3, I3, q3⟩ => ?_))))
  exact wpAny_release ⟨σ, H3, I3, q3⟩
def tAsg (te : TE) (g : TG) : TS := fun D σ H => te σ H fun x H1 => g x σ H1 D.nx
theorem ps_asg {tg e : Expr} {te : TE} {g : TG} (he : PE X e te) (hg : PG X tg g) (hs : swapsWithSole [tg] e pos.line X.env = pure false := by rfl) (hw : swappedStores [tg] e X.env = pure none := by rfl)
    (h1 : (assignEach [tg] X.env).map (·.2) = [assign tg X.env] := by rfl) : PS X (.Assign [tg] e pos) (tAsg te g) := by
  intro pins s σ H D I h
  refine wpAny_Assign_stores (thn (he pins s σ H _ I h) fun v s1 ⟨x, H1, I1, r1, q1⟩ => ?_) hs hw
  rw [h1]
  exact thn (hg pins s1 σ H1 x v _ I1 r1 q1) fun _ s2 q => q
theorem ps_set {i : Nat} {x : Str} {e : Expr} {te : TE} {pos' : Pos} (hN : X.N.Nodup) (hi : X.N[i]? = some x) (hx : Loc X.env.scope x) (he : PE X e te) (hs : swapsWith e (some (.Name x pos')) pos.line X.env = pure false := by rfl) (hf : X.fn x = true ∨ X.env.scope.names.lookup x = some .local := by first | exact .inl rfl | exact .inr rfl | assumption) :
    PS X (.Assign [.Name x pos'] e pos) (tAsg te (gName i)) := by
  intro pins s σ H D I h
  refine wpAny_Assign_Name (thn (he pins s σ H _ I h) fun v s1 ⟨y, H1, I1, r1, q1⟩ => ?_) hs
  exact store_ok I1 hN hi hx r1 (fun s2 I2 => ⟨_, H1, I2, q1⟩) hf
end

section
variable {X : Cx} {pos : Pos}
end

structure It where
  go : Nat → Hp → Prop
  yld : Nat → Hp → V → Hp → Prop
  stop : Nat → Hp → Prop
def FpOk (X : Cx) (pins : List (Addr × Obj)) (H : Hp) (b : Addr) : Prop :=
  H b = none ∧ b ≠ X.env.locals ∧ b ∉ X.fs ∧ (b ∈ X.ex ∨ X.s₀.heap.objs.size ≤ b) ∧ (∀ x c, X.env.cells.lookup x = some c → c ≠ b) ∧ ∀ p ∈ X.pn ++ pins, p.1 ≠ b
theorem Inv.fpOk {X : Cx} {pins : List (Addr × Obj)} {σ : St} {H H' : Hp} {s : Shared} {b : Addr} (I : Inv X pins σ H s) (hb : s.heap.objs.size ≤ b) (hn : H' b = none) : FpOk X pins H' b := by
  refine ⟨hn, Nat.ne_of_gt (Nat.lt_of_lt_of_le I.lt hb), I.nofs hb, .inr (Nat.le_trans I.sz hb), fun x c e z => ?_, fun p hp z => ?_⟩
  · obtain ⟨v, q⟩ := I.cell x c e
    exact absurd (Nat.lt_of_lt_of_le q.lt (by rw [z]; exact hb)) (Nat.lt_irrefl _)
  · exact absurd (Nat.lt_of_lt_of_le (Heap.lt_size (I.pin p hp).1) (by rw [z]; exact hb)) (Nat.lt_irrefl _)
structure Turn (P : Program) (w : World) (K : PySem.W.Frag) (tg : Expr) (J : It) (fp : List Addr) (it : Addr) (tn : Nat → Heap → Prop) : Prop where
  mem : it ∈ fp
  obj : ∀ i h, tn i h → ∀ b ∈ fp, ∃ o, h.get? b = some o ∧ ∀ v, o.data ≠ .cell v
  keep : ∀ i h h', tn i h → (∀ b ∈ fp, ∀ o, h.get? b = some o → h'.get? b = some o) → tn i h'
  item : ∀ (X : Cx), X.prog = P → X.w = w → X.K = K → X.calm = true → ∀ (i : Nat) (pins : List (Addr × Obj)) (s : Shared) (σ : St) (H : Hp) (E : Value → Shared → Prop), Inv X pins σ H s → (∀ b ∈ fp, FpOk X pins H b) → tn i s.heap → J.go i H →
    wpAny (model P w) X.A (pyNext (.ref it)) (fun r s1 => ∃ u, r = some u ∧
      wpAny (model P w) X.A (letOwnedTupleGo tg (.ref it) u) (fun _ s2 => ∃ x H', Inv X pins σ H' s2 ∧ RelV x u ∧ J.yld i H x H' ∧ tn (i + 1) s2.heap ∧ ∀ b ∈ fp, H' b = none) E s1) E s
  done : ∀ (X : Cx), X.prog = P → X.w = w → X.K = K → X.calm = true → ∀ (i : Nat) (pins : List (Addr × Obj)) (s : Shared) (σ : St) (H : Hp) (E : Value → Shared → Prop), Inv X pins σ H s → (∀ b ∈ fp, FpOk X pins H b) → tn i s.heap → J.stop i H →
    wpAny (model P w) X.A (pyNext (.ref it)) (fun r s1 => r = none ∧ Inv X pins σ H s1) E s
  self : ∀ (A : Around) (i : Nat) (s : Shared) (Q : Value → Shared → Prop) (E : Value → Shared → Prop), tn i s.heap → Q (.ref it) s → wpAny (model P w) A (pyIter (.ref it)) Q E s
abbrev TI := St → Hp → (It → Hp → Prop) → Prop
def PIE (X : Cx) (pins : List (Addr × Obj)) (σ : St) (tg : Expr) (R : It → Hp → Prop) (itv : Value) (s2 : Shared) : Prop :=
  ∃ (it : Addr) (fp : List Addr) (tn : Nat → Heap → Prop) (J : It) (H' : Hp), itv = .ref it ∧ Inv X pins σ H' s2 ∧ Turn X.prog X.w X.K tg J fp it tn ∧ tn 0 s2.heap ∧ (∀ b ∈ fp, FpOk X pins H' b) ∧ R J H'
def PI (X : Cx) (tg iter : Expr) (wi : TI) : Prop :=
  ∀ (pins : List (Addr × Obj)) (s : Shared) (σ : St) (H : Hp) (R : It → Hp → Prop), Inv X pins σ H s → wi σ H R →
    wpAny (model X.prog X.w) X.A (eval iter X.env) (fun v s1 => wpAny (model X.prog X.w) X.A (pyIter v) (PIE X pins σ tg R) X.xe s1) X.xe s

theorem go_of {M : Model} {A : Around} {E : Value → Shared → Prop} {s : Shared} {tg : Expr} {it : Addr} {u : Value} {o : Obj} {n : String} {vs : Array Value} {Q : Unit → Shared → Prop} (ho : s.heap.get? it = some o) (hc : o.cls = .type n) (hd : o.data = .fields vs)
    (hn : ["enumerate", "zip", "dict_itemiterator", "dict_reverseitemiterator", "odict_iterator", "itertools.zip_longest", "itertools.pairwise"].contains n = false) (hQ : Q () s) : wpAny M A (letOwnedTupleGo tg (.ref it) u) Q E s := by
  unfold letOwnedTupleGo
  cases tg <;> first
    | exact wpAny_pure hQ
    | (cases u <;> first
        | exact wpAny_pure hQ
        | (refine wpAny_bind (wpAny_load ho ?_)
           rw [hc, hd]
           show wpAny M A (if (["enumerate", "zip", "dict_itemiterator", "dict_reverseitemiterator", "odict_iterator", "itertools.zip_longest", "itertools.pairwise"].contains n && vs[0]? == some (rawInt _)) = true then _ else _) Q E s
           rw [if_neg (by intro h; rw [hn, Bool.false_and] at h; cases h)]
           exact wpAny_pure hQ))

def Itl (K : PySem.W.Frag) (a : Addr) : It :=
  ⟨fun i H => ∃ xs x, SqL K H a xs ∧ xs[i]? = some x, fun i H x H' => H' = H ∧ ∀ xs, SqL K H a xs → xs[i]? = some x, fun i H => ∃ xs, SqL K H a xs ∧ xs.length ≤ i⟩
def Itr (lo : Int) (n : Nat) : It := ⟨fun i _ => i < n, fun i H x H' => H' = H ∧ x = .int (lo + i), fun i _ => n ≤ i⟩
theorem turn_list {P : Program} {w : World} {K : PySem.W.Frag} {tg : Expr} (a it : Addr) : Turn P w K tg (Itl K a) [it] it (fun i h => h.IsListIter it a i) where
  mem := by simp
  obj := fun i h st b hb => by
    have e : b = it := by simpa using hb
    subst e
    obtain ⟨o, e, c, d⟩ := st
    exact ⟨o, e, fun v z => by rw [d] at z; cases z⟩
  keep := fun i h h' st k => st.at fun o e => k it (by simp) o e
  item := by
    intro X hP hw hK hc i pins s σ H E I hf st hg
    subst hP hw hK
    obtain ⟨xs, x, hq, hx⟩ := hg
    obtain ⟨its, rv, p, hz⟩ := I.list hq
    obtain ⟨u, hu, ru⟩ := rv.get hx
    obtain ⟨f0, f1, f2, f3, f4, f5⟩ := hf it (by simp)
    refine wpAny_pyNext_list_item st p.isList (x := u) (by simpa using hu) fun h' st' sb => ?_
    have I1 : Inv X pins σ H { s with heap := h' } := I.turned (t' := s.toks) (fun b o hb e => (sb.2 b hb).trans e) f0 f1 f3 f4 f5
    obtain ⟨o, e, c, d⟩ := id st'
    exact ⟨u, rfl, go_of (s := { s with heap := h' }) e c d (by decide) ⟨x, H, I1, ru, ⟨rfl, fun ys hy => by rw [I.list_inj hy hq]; exact hx⟩, st', fun b hb => (hf b hb).1⟩⟩
  done := by
    intro X hP hw hK hc i pins s σ H E I hf st hg
    subst hP hw hK
    obtain ⟨xs, hq, hx⟩ := hg
    obtain ⟨its, rv, p, hz⟩ := I.list hq
    obtain ⟨f0, f1, f2, f3, f4, f5⟩ := hf it (by simp)
    have hl := rv.length
    exact wpAny_pyNext_list_end (I.ok.hd hc) st p.isList (by simp; omega) fun h' eb => ⟨rfl, I.turned (t' := s.toks) (fun b o hb e => eb b o hb e) f0 f1 f3 f4 f5⟩
  self := fun _ _ _ _ _ st h => wpAny_pyIter_listiter st h
theorem turn_range {P : Program} {w : World} {K : PySem.W.Frag} {tg : Expr} (it : Addr) (lo : Int) (n : Nat) : Turn P w K tg (Itr lo n) [it] it (fun i h => IsRangeIter h it (lo + (i : Nat) * 1) ((n : Int) - (i : Nat)) 1) where
  mem := by simp
  obj := fun i h st b hb => by
    have e : b = it := by simpa using hb
    subst e
    exact ⟨_, st, fun v z => by
      have z' : Data.fields _ = Data.cell v := z
      cases z'⟩
  keep := fun i h h' st k => k it (by simp) _ st
  item := by
    intro X hP hw hK hc i pins s σ H E I hf st hg
    subst hP hw hK
    obtain ⟨f0, f1, f2, f3, f4, f5⟩ := hf it (by simp)
    have W := Walks.range (prog := X.prog) (w := X.w) (I.ok.hd hc) it lo 1 n
    refine W.item i s _ _ hg st fun v h' tk hv st' kk => ?_
    obtain ⟨t, rfl⟩ := hv
    have I1 : Inv X pins σ H { s with heap := h', toks := tk } := I.turned (fun b o hb e => kk b o (by simpa using hb) e) f0 f1 f3 f4 f5
    refine ⟨_, rfl, go_of (s := { s with heap := h', toks := tk }) (n := "range_iterator") st' rfl rfl (by decide) ⟨.int (lo + i), H, I1, ⟨t, ?_⟩, ⟨rfl, rfl⟩, st', fun b hb => (hf b hb).1⟩⟩
    rw [Int.mul_one]
  done := by
    intro X hP hw hK hc i pins s σ H E I hf st hg
    subst hP hw hK
    obtain ⟨f0, f1, f2, f3, f4, f5⟩ := hf it (by simp)
    exact wpAny_pyNext_range_end (I.ok.hd hc) st (by have : n ≤ i := hg; omega) fun h' eb => ⟨rfl, I.turned (t' := s.toks) (fun b o hb e => eb b o hb e) f0 f1 f3 f4 f5⟩
  self := fun _ _ _ _ _ st h => wpAny_pyIter_rangeiter st h
end L2

namespace L2
open PySem PySem.Spec PyProof.Rows
section
variable {X : Cx} {tg : Expr}
def iList (K : PySem.W.Frag) (tl : TE) : TI := fun σ H R => tl σ H fun x H1 => ∃ a, x = .ref a ∧ (∃ xs, SqL K H1 a xs) ∧ R (Itl K a) H1
theorem pi_list {l : Expr} {tl : TE} (hl : PE X l tl) : PI X tg l (iList X.K tl) := by
  intro pins s σ H R I h
  refine thn (hl pins s σ H _ I h) fun v s1 ⟨x, H1, I1, r1, q1⟩ => ?_
  obtain ⟨a, e, ⟨xs, hq⟩, q⟩ := q1
  subst e
  cases r1
  obtain ⟨its, rv, p, hz⟩ := I1.list hq
  refine wpAny_pyIter_list p.isList ?_
  refine ⟨s1.heap.objs.size, [s1.heap.objs.size], _, _, H1, rfl, I1.kept (t' := s1.toks) fun b o e => Heap.get?_push_of_some _ e, turn_list a _, ⟨_, Heap.get?_push_size _ rfl, rfl, rfl⟩, fun b hb => ?_, q⟩
  have e : b = s1.heap.objs.size := by simpa using hb
  subst e
  exact I1.fpOk (Nat.le_refl _) (I1.hok.fresh (Nat.le_refl _))
theorem range_it {pins : List (Addr × Obj)} {σ : St} {H : Hp} {s : Shared} {R : It → Hp → Prop} {E : Value → Shared → Prop} {lo hi : Int} {t u v : Tok} {tk : Nat} (I : Inv X pins σ H s) (h1 : -(2 ^ 62) ≤ lo) (h2 : lo < 2 ^ 62) (h3 : -(2 ^ 62) ≤ hi) (h4 : hi < 2 ^ 62)
    (q : R (Itr lo (hi - lo).toNat) H) : wpAny (model X.prog X.w) X.A (pyIter (.ref s.heap.objs.size)) (PIE X pins σ tg R) E { s with heap := s.heap.push { cls := .type "range", data := .fields #[.int lo t, .int hi u, .int 1 v] }, toks := tk } := by
  refine wpAny_pyIter_range (IsRange.new ..) (small_one h1 h2 h3 h4) ?_
  have I1 : Inv X pins σ H { s with heap := s.heap.push { cls := .type "range", data := .fields #[.int lo t, .int hi u, .int 1 v] }, toks := tk } := I.kept fun b o e => Heap.get?_push_of_some _ e
  refine ⟨(s.heap.push { cls := .type "range", data := .fields #[.int lo t, .int hi u, .int 1 v] }).objs.size, [(s.heap.push { cls := .type "range", data := .fields #[.int lo t, .int hi u, .int 1 v] }).objs.size], _, _, H, rfl,
    I1.kept (t' := tk) fun b o e => Heap.get?_push_of_some _ e, turn_range _ lo (hi - lo).toNat, ?_, fun b hb => ?_, q⟩
  · have e1 : lo + ((0 : Nat) : Int) * 1 = lo := by simp
    have e2 : (((hi - lo).toNat : Nat) : Int) - ((0 : Nat) : Int) = Builtin.Range.rangeSize lo hi 1 := by rw [rangeSize_one]; split <;> omega
    show IsRangeIter _ _ (lo + ((0 : Nat) : Int) * 1) ((((hi - lo).toNat : Nat) : Int) - ((0 : Nat) : Int)) 1
    rw [e1, e2]
    exact Heap.get?_push_size _ rfl
  · have e : b = (s.heap.push { cls := .type "range", data := .fields #[.int lo t, .int hi u, .int 1 v] }).objs.size := by simpa using hb
    subst e
    exact I1.fpOk (Nat.le_refl _) (I1.hok.fresh (Nat.le_refl _))
def iRng1 (ta : TA) : TI := fun σ H R => ta σ H fun vs H1 => ∃ j : Int, vs = [.int j] ∧ -(2 ^ 62) ≤ j ∧ j < 2 ^ 62 ∧ R (Itr 0 j.toNat) H1
theorem pi_range1 {a : Expr} {ta : TA} {p pos : Pos} (hg : Gl X "range") (hm : X.mg "range" = none) (ha : PA X [a] ta) (hs : starEach [a] X.env = [(false, eval a X.env)] := by rfl) : PI X tg (.Call (.Name "range" p) [a] [] pos) (iRng1 ta) := by
  intro pins s σ H R I h
  refine Call_ (ld_blt I hg hm boot_range (PyProof.Rows.callWith_type1 (thn (ha pos pins s σ H _ I h) fun us s1 ⟨vs, H1, I1, r1, q1⟩ => ?_) hs rfl))
  obtain ⟨j, e, q1, q2, q⟩ := q1
  subst e
  cases r1 with
  | cons r rr =>
    cases rr
    obtain ⟨t, rfl⟩ := r
    exact call_range_1 (range_it I1 (by omega) (by omega) q1 q2 (by simpa using q))
def tFor (wi : TI) (g : TG) (tb : TS) : TS := fun D σ H => wi σ H fun J H1 => ∃ W : Nat → Nat → St → Hp → Prop, (∃ m, W 0 m σ H1) ∧ ∀ i m σ H, W i m σ H →
  (J.stop i H ∧ D.nx σ H) ∨ (J.go i H ∧ ∃ N : St → Hp → Prop, (∀ σ' H', N σ' H' → ∃ m', m' < m ∧ W (i + 1) m' σ' H') ∧ ∀ x H', J.yld i H x H' → g x σ H' fun σ2 H2 => tb { D with nx := N, ct := N, bk := D.nx } σ2 H2)
def pinsAt (fp : List Addr) (h : Heap) : List (Addr × Obj) := fp.filterMap fun b => (h.get? b).map fun o => (b, o)
theorem mem_pinsAt {fp : List Addr} {h : Heap} {b : Addr} {o : Obj} (hb : b ∈ fp) (e : h.get? b = some o) : (b, o) ∈ pinsAt fp h := List.mem_filterMap.mpr ⟨b, hb, by rw [e]; rfl⟩
theorem of_pinsAt {fp : List Addr} {h : Heap} {p : Addr × Obj} (hp : p ∈ pinsAt fp h) : p.1 ∈ fp ∧ h.get? p.1 = some p.2 := by
  obtain ⟨b, hb, e⟩ := List.mem_filterMap.mp hp
  cases q : h.get? b with
  | none => rw [q] at e; cases e
  | some o =>
    rw [q] at e
    have e' : (b, o) = p := Option.some.inj e
    subst e'
    exact ⟨hb, q⟩
theorem Inv.pinned {pins : List (Addr × Obj)} {σ : St} {H : Hp} {s : Shared} {fp : List Addr} (I : Inv X pins σ H s) (hf : ∀ b ∈ fp, FpOk X pins H b) (ho : ∀ b ∈ fp, ∃ o, s.heap.get? b = some o ∧ ∀ v, o.data ≠ .cell v) : Inv X (pins ++ pinsAt fp s.heap) σ H s :=
  I.pins_of fun p hp => (List.mem_append.mp hp).elim (fun z => I.pin p (List.mem_append_right _ z)) fun z => by
    obtain ⟨hb, e⟩ := of_pinsAt z
    obtain ⟨f0, f1, f2, _⟩ := hf p.1 hb
    obtain ⟨o, e', d⟩ := ho p.1 hb
    rw [e] at e'; cases e'
    exact ⟨e, f0, f1, f2, d⟩
theorem Inv.unpinned {pins pl : List (Addr × Obj)} {σ : St} {H : Hp} {s : Shared} (I : Inv X (pins ++ pl) σ H s) : Inv X pins σ H s := I.pins_of fun p hp => I.pin p (List.mem_append_right _ (List.mem_append_left _ hp))
theorem ps_for {iter : Expr} {body : List Stmt} {wi : TI} {g : TG} {tb : TS} {pos : Pos} (hp : PassesOwn (model X.prog X.w) X.A X.env X.xe) (hc : X.calm = true) (hi : PI X tg iter wi) (hg : PG X tg g) (hb : PSs X body tb)
    (hs : ∀ x, foldedSetIterable iter X.env x = pure x := by intro _; rfl) : PS X (.For tg iter body [] pos) (tFor wi g tb) := by
  intro pins s σ H D I h
  refine wpAny_For (thn (hi pins s σ H _ I h) fun v s1 h1 => thn h1 fun itv s2 h2 => ?_) hs
  obtain ⟨it, fp, tn, J, H2, e, I2, T, st2, f2, W, ⟨m0, w0⟩, turn⟩ := h2
  subst e
  have stat : ∀ {H' : Hp}, (∀ b ∈ fp, H' b = none) → ∀ b ∈ fp, FpOk X pins H' b := fun hn b hb => ⟨hn b hb, (f2 b hb).2⟩
  refine codeAny_forLoop_any (fun n s' => ∃ i σ' H', Inv X pins σ' H' s' ∧ tn i s'.heap ∧ (∀ b ∈ fp, H' b = none) ∧ W i n σ' H') ?_ m0 ⟨0, σ, H2, I2, st2, fun b hb => (f2 b hb).1, w0⟩
  rintro n s3 ⟨i, σ3, H3, I3, st3, fr3, w3⟩
  rcases turn i n σ3 H3 w3 with ⟨stop, qn⟩ | ⟨go, N, hN, step⟩
  · refine wpAny_passesOwn hp (thn (T.done X rfl rfl rfl hc i pins s3 σ3 H3 X.xe I3 (stat fr3) st3 stop) fun r s4 ⟨hr, I4⟩ => ?_)
    subst hr
    exact wpAny_execs_nil ⟨σ3, H3, I4, qn⟩
  · refine wpAny_passesOwn hp (thn (T.item X rfl rfl rfl hc i pins s3 σ3 H3 X.xe I3 (stat fr3) st3 go) fun r s4 ⟨u, hr, h4⟩ => ?_)
    subst hr
    refine wpAny_passesOwn hp (thn h4 fun _ s5 ⟨x, H5, I5, r5, y5, st5, fr5⟩ => ?_)
    have I5' := I5.pinned (stat fr5) (T.obj _ _ st5)
    refine wpAny_passesOwn hp (thn (hg _ s5 σ3 H5 x u _ I5' r5 (step x H5 y5)) fun _ s6 ⟨σ6, H6, I6, q6⟩ => ?_)
    refine wpAny_passesOwn hp (thn (hb _ s6 σ6 H6 _ I6 q6) fun f s7 q7 => ?_)
    have again : ∀ {σ7 : St} {H7 : Hp}, Inv X (pins ++ pinsAt fp s5.heap) σ7 H7 s7 → N σ7 H7 → ∃ m, m < n ∧ ∃ i σ' H', Inv X pins σ' H' s7 ∧ tn i s7.heap ∧ (∀ b ∈ fp, H' b = none) ∧ W i m σ' H' := fun {σ7 H7} I7 n7 => by
      obtain ⟨m', hm, w7⟩ := hN σ7 H7 n7
      refine ⟨m', hm, i + 1, σ7, H7, I7.unpinned, T.keep _ _ _ st5 fun b hb o e => (I7.pin (b, o) (List.mem_append_right _ (List.mem_append_right _ (mem_pinsAt hb e)))).1, fun b hb => ?_, w7⟩
      obtain ⟨o, e, d⟩ := T.obj _ _ st5 b hb
      exact (I7.pin (b, o) (List.mem_append_right _ (List.mem_append_right _ (mem_pinsAt hb e)))).2.1
    cases f with
    | next => obtain ⟨σ7, H7, I7, n7⟩ := q7; exact again I7 n7
    | cont => obtain ⟨σ7, H7, I7, n7⟩ := q7; exact again I7 n7
    | brk => obtain ⟨σ7, H7, I7, q7⟩ := q7; exact ⟨σ7, H7, I7.unpinned, q7⟩
    | ret v => obtain ⟨x7, σ7, H7, I7, r7, q7⟩ := q7; exact ⟨x7, σ7, H7, I7.unpinned, r7, q7⟩
end

theorem for_list {K : PySem.W.Frag} {a : Addr} {xs : List V} {g : TG} {tb : TS} {D : Ends} {σ : St} {H : Hp} (Pv : Nat → St → Hp → Prop) (h0 : Pv 0 σ H) (hl : ∀ i σ H, i ≤ xs.length → Pv i σ H → SqL K H a xs)
    (hs : ∀ i x σ H, xs[i]? = some x → Pv i σ H → g x σ H fun σ2 H2 => tb { D with nx := Pv (i + 1), ct := Pv (i + 1), bk := D.nx } σ2 H2) (hd : ∀ σ H, Pv xs.length σ H → D.nx σ H) :
    ∃ W : Nat → Nat → St → Hp → Prop, (∃ m, W 0 m σ H) ∧ ∀ i m σ H, W i m σ H →
      ((Itl K a).stop i H ∧ D.nx σ H) ∨ ((Itl K a).go i H ∧ ∃ N : St → Hp → Prop, (∀ σ' H', N σ' H' → ∃ m', m' < m ∧ W (i + 1) m' σ' H') ∧ ∀ x H', (Itl K a).yld i H x H' → g x σ H' fun σ2 H2 => tb { D with nx := N, ct := N, bk := D.nx } σ2 H2) := by
  refine ⟨fun i m σ H => m = xs.length - i ∧ i ≤ xs.length ∧ Pv i σ H, ⟨xs.length, by simp, Nat.zero_le _, h0⟩, ?_⟩
  rintro i m σ H ⟨rfl, hi, p⟩
  have q := hl i σ H hi p
  by_cases hlt : i < xs.length
  · refine .inr ⟨⟨xs, xs[i], q, by simp [hlt]⟩, Pv (i + 1), fun σ' H' p' => ⟨xs.length - (i + 1), by omega, rfl, hlt, p'⟩, fun x H' y => ?_⟩
    obtain ⟨e, y⟩ := y
    subst e
    exact hs i x σ _ (y xs q) p
  · have e : i = xs.length := by omega
    subst e
    exact .inl ⟨⟨xs, q, Nat.le_refl _⟩, hd σ H p⟩
theorem for_range {lo : Int} {n : Nat} {g : TG} {tb : TS} {D : Ends} {σ : St} {H : Hp} (Pv : Nat → St → Hp → Prop) (h0 : Pv 0 σ H)
    (hs : ∀ i σ H, i < n → Pv i σ H → g (.int (lo + i)) σ H fun σ2 H2 => tb { D with nx := Pv (i + 1), ct := Pv (i + 1), bk := D.nx } σ2 H2) (hd : ∀ σ H, Pv n σ H → D.nx σ H) :
    ∃ W : Nat → Nat → St → Hp → Prop, (∃ m, W 0 m σ H) ∧ ∀ i m σ H, W i m σ H →
      ((Itr lo n).stop i H ∧ D.nx σ H) ∨ ((Itr lo n).go i H ∧ ∃ N : St → Hp → Prop, (∀ σ' H', N σ' H' → ∃ m', m' < m ∧ W (i + 1) m' σ' H') ∧ ∀ x H', (Itr lo n).yld i H x H' → g x σ H' fun σ2 H2 => tb { D with nx := N, ct := N, bk := D.nx } σ2 H2) := by
  refine ⟨fun i m σ H => m = n - i ∧ i ≤ n ∧ Pv i σ H, ⟨n, by simp, Nat.zero_le _, h0⟩, ?_⟩
  rintro i m σ H ⟨rfl, hi, p⟩
  by_cases hlt : i < n
  · refine .inr ⟨hlt, Pv (i + 1), fun σ' H' p' => ⟨n - (i + 1), by omega, rfl, hlt, p'⟩, fun x H' y => ?_⟩
    obtain ⟨e, y⟩ := y
    subst e y
    exact hs i σ _ hlt p
  · have e : i = n := by omega
    subst e
    exact .inl ⟨Nat.le_refl _, hd σ H p⟩
end L2

namespace L2
open PySem PySem.Spec PyProof.Rows

abbrev R2 := V → V → Hp → VK → Prop
def OpR (X : Cx) (f : Value → Value → Sem Value) (r : R2) : Prop :=
  ∀ (pins : List (Addr × Obj)) (s : Shared) (σ : St) (H : Hp) (x y : V) (v u : Value) (Q : VK), Inv X pins σ H s → RelV x v → RelV y u → r x y H Q →
    wpAny (model X.prog X.w) X.A (f v u) (EP X pins σ Q) X.xe s
def CallR (X : Cx) (f : Value) (r : List V → Hp → VK → Prop) : Prop :=
  ∀ (pins : List (Addr × Obj)) (s : Shared) (σ : St) (H : Hp) (xs : List V) (us : List Value) (Q : VK), Inv X pins σ H s → Vals xs us → r xs H Q →
    wpAny (model X.prog X.w) X.A (call f us) (EP X pins σ Q) X.xe s
def tOp (r : R2) (ta tb : TE) : TE := fun σ H Q => ta σ H fun x H1 => tb σ H1 fun y H2 => r x y H2 Q
def rI (C : Int → Int → Prop) (g : Int → Int → V) : R2 := fun x y H Q => ∃ i j, x = .int i ∧ y = .int j ∧ C i j ∧ Q (g i j) H
def rI0 (g : Int → Int → V) : R2 := fun x y H Q => ∃ i j, x = .int i ∧ y = .int j ∧ Q (g i j) H
section
variable {X : Cx} {a b c : Expr} {ta tb tc : TE} {pos : Pos}

theorem binT (ha : PE X a ta) (hb : PE X b tb) {pins : List (Addr × Obj)} {s : Shared} {σ : St} {H : Hp} {R : V → V → Hp → Prop} (I : Inv X pins σ H s)
    (h : ta σ H fun x H1 => tb σ H1 fun y H2 => R x y H2) {Q : Value → Shared → Prop} {f : Value → Value → Sem Value}
    (hf : ∀ v u s2 x y H2, Inv X pins σ H2 s2 → RelV x v → RelV y u → R x y H2 → wpAny (model X.prog X.w) X.A (f v u) Q X.xe s2) :
    wpAny (model X.prog X.w) X.A (eval a X.env) (fun v s₁ => wpAny (model X.prog X.w) X.A (eval b X.env) (fun u s₂ => wpAny (model X.prog X.w) X.A (f v u) Q X.xe s₂) X.xe s₁) X.xe s := by
  refine thn (ha pins s σ H _ I h) fun v s1 ⟨x, H1, I1, r1, q1⟩ => ?_
  refine thn (hb pins s1 σ H1 _ I1 q1) fun u s2 ⟨y, H2, I2, r2, q2⟩ => ?_
  exact hf v u s2 x y H2 I2 r1 r2 q2

theorem pe_op {op : Operator} {r : R2} (ho : OpR X (binaryOp op) r) (ha : PE X a ta) (hb : PE X b tb) : PE X (.BinOp a op b pos) (tOp r ta tb) := by
  intro pins s σ H Q I h
  exact wpAny_BinOp (binT ha hb I h fun v u s2 x y H2 I2 rx ry q => ho pins s2 σ H2 x y v u Q I2 rx ry q)
theorem opI {f : Value → Value → Sem Value} {C : Int → Int → Prop} {g : Int → Int → Int}
    (rule : ∀ (i j : Int) (t u : Tok) (s : Shared) (Q : Value → Shared → Prop) (E : Value → Shared → Prop), C i j → Q (.int (g i j) s.toks) { s with toks := s.toks + 1 } → wpAny (model X.prog X.w) X.A (f (.int i t) (.int j u)) Q E s) :
    OpR X f (rI C fun i j => .int (g i j)) := by
  intro pins s σ H x y v u Q I rx ry h
  obtain ⟨i, j, rfl, rfl, hc, q⟩ := h
  obtain ⟨t, rfl⟩ := rx
  obtain ⟨t', rfl⟩ := ry
  exact rule i j t t' s _ _ hc ⟨.int (g i j), H, I.tok _, ⟨_, rfl⟩, q⟩
theorem opI0 {f : Value → Value → Sem Value} {g : Int → Int → Int}
    (rule : ∀ (i j : Int) (t u : Tok) (s : Shared) (Q : Value → Shared → Prop) (E : Value → Shared → Prop), Q (.int (g i j) s.toks) { s with toks := s.toks + 1 } → wpAny (model X.prog X.w) X.A (f (.int i t) (.int j u)) Q E s) :
    OpR X f (rI0 fun i j => .int (g i j)) := by
  intro pins s σ H x y v u Q I rx ry h
  obtain ⟨i, j, rfl, rfl, q⟩ := h
  obtain ⟨t, rfl⟩ := rx
  obtain ⟨t', rfl⟩ := ry
  exact rule i j t t' s _ _ ⟨.int (g i j), H, I.tok _, ⟨_, rfl⟩, q⟩
theorem opB0 {f : Value → Value → Sem Value} {g : Int → Int → Bool}
    (rule : ∀ (i j : Int) (t u : Tok) (s : Shared) (Q : Value → Shared → Prop) (E : Value → Shared → Prop), Q (.bool (g i j)) s → wpAny (model X.prog X.w) X.A (f (.int i t) (.int j u)) Q E s) :
    OpR X f (rI0 fun i j => .bl (g i j)) := by
  intro pins s σ H x y v u Q I rx ry h
  obtain ⟨i, j, rfl, rfl, q⟩ := h
  obtain ⟨t, rfl⟩ := rx
  obtain ⟨t', rfl⟩ := ry
  exact rule i j t t' s _ _ ⟨.bl (g i j), H, I, rfl, q⟩

def CDiv (i j : Int) : Prop := 0 < j ∧ j < 1073741824
def CPow (i j : Int) : Prop := 0 ≤ j ∧ j ≤ 1000000 ∧ i.natAbs < 2 ^ 64
def CMul (i j : Int) : Prop := (-(2 ^ 64) < i ∧ i < 2 ^ 64) ∨ (-(2 ^ 64) < j ∧ j < 2 ^ 64)
theorem CMul.ok {i j : Int} (h : CMul i j) : IntMulOk i j := by
  rcases h with ⟨h1, h2⟩ | ⟨h1, h2⟩
  · exact .of_left (intBits_le_64 h1 h2)
  · exact .of_right (intBits_le_64 h1 h2)
theorem op_add : OpR X (binaryOp .Add) (rI0 fun i j => .int (i + j)) := opI0 fun _ _ _ _ _ _ _ q => add_int q
theorem op_sub : OpR X (binaryOp .Sub) (rI0 fun i j => .int (i - j)) := opI0 fun _ _ _ _ _ _ _ q => sub_int q
theorem op_mul : OpR X (binaryOp .Mult) (rI CMul fun i j => .int (i * j)) := opI fun _ _ _ _ _ _ _ hc q => mul_int q hc.ok
theorem op_fdiv : OpR X (binaryOp .FloorDiv) (rI CDiv fun i j => .int (i / j)) := opI fun i j _ _ _ _ _ hc q => by
  have h1 : (0 : Int) < j := hc.1
  have h2 : j < 1073741824 := hc.2
  exact floordiv_int (by omega) (by rw [Int.fdiv_eq_ediv_of_nonneg i (by omega)]; exact q) (.inl (PyProof.noPylong_small (by omega)))
theorem op_mod : OpR X (binaryOp .Mod) (rI (fun _ j => 0 < j) fun i j => .int (i % j)) := opI fun i j _ _ _ _ _ hc q => by
  have h1 : (0 : Int) < j := hc
  exact mod_int' (by omega) (by rw [Int.fmod_eq_emod_of_nonneg i (by omega)]; exact q)
theorem op_pow : OpR X (binaryOp .Pow) (rI CPow fun i j => .int (i ^ j.toNat)) := opI fun _ _ _ _ _ _ _ hc q => pow_int_small hc.1 hc.2.1 hc.2.2 q
theorem op_and : OpR X (binaryOp .BitAnd) (rI0 fun i j => .int (Builtin.bitAnd i j)) := opI0 fun _ _ _ _ _ _ _ q => and_int q
end

def scal : V → V → Bool
  | .non, .non => true | .non, .int _ => true | .int _, .non => true | .non, .bl _ => true | .bl _, .non => true | .non, .str _ => true | .str _, .non => true
  | .int _, .int _ => true | .bl _, .bl _ => true | .str _, .str _ => true | .byt _, .byt _ => true
  | .int _, .str _ => true | .str _, .int _ => true | .bl _, .str _ => true | .str _, .bl _ => true
  | _, _ => false
def rEq : R2 := fun x y H Q => scal x y = true ∧ Q (.bl (decide (x = y))) H
def rNe : R2 := fun x y H Q => scal x y = true ∧ Q (.bl (!decide (x = y))) H

theorem dec_int {i j : Int} : decide (V.int i = V.int j) = (i == j) := by
  rw [Bool.eq_iff_iff]
  simp
theorem dec_bl {i j : Bool} : decide (V.bl i = V.bl j) = (i == j) := by
  rw [Bool.eq_iff_iff]
  simp
theorem dec_str {i j : Str} : decide (V.str i = V.str j) = (i == j) := by
  rw [Bool.eq_iff_iff]
  simp
theorem dec_byt {i j : Array UInt8} : decide (V.byt i = V.byt j) = (i.toList == j.toList) := by
  rw [Bool.eq_iff_iff]
  cases i
  cases j
  simp

section
variable {X : Cx} {a b c : Expr} {ta tb tc : TE} {pos : Pos}
theorem fin_bl {pins : List (Addr × Obj)} {σ : St} {H : Hp} {s : Shared} {Q : VK} {k k' : Bool} (I : Inv X pins σ H s) (q : Q (.bl k) H) (e : k = k') : EP X pins σ Q (.bool k') s := by
  subst e
  exact ⟨.bl k, H, I, rfl, q⟩
theorem op_eq : OpR X (compareOp .Eq) rEq := by
  intro pins s σ H x y v u Q I rx ry h
  obtain ⟨hs, q⟩ := h
  cases x with
  | non =>
    cases rx
    cases y with
    | non => cases ry; exact PySem.EqNone.eq_none_none (fin_bl I q (by simp))
    | bl j => cases ry; exact PySem.EqNone.eq_none_bool (fin_bl I q (by simp))
    | int j => obtain ⟨t', rfl⟩ := ry; exact PySem.EqNone.eq_none_int (fin_bl I q (by simp))
    | str j => obtain ⟨t', rfl⟩ := ry; exact PySem.EqNone.eq_none_str (fin_bl I q (by simp))
    | _ => exact absurd (show false = true from hs) Bool.false_ne_true
  | bl i =>
    cases rx
    cases y with
    | non => cases ry; exact PySem.EqNone.eq_bool_none (fin_bl I q (by simp))
    | bl j => cases ry; exact eq_bool (fin_bl I q dec_bl)
    | str j => obtain ⟨t', rfl⟩ := ry; exact PySem.EqMixed.eq_bool_str (fin_bl I q (by simp))
    | _ => exact absurd (show false = true from hs) Bool.false_ne_true
  | int i =>
    obtain ⟨t, rfl⟩ := rx
    cases y with
    | non => cases ry; exact PySem.EqNone.eq_int_none (fin_bl I q (by simp))
    | int j => obtain ⟨t', rfl⟩ := ry; exact eq_int (fin_bl I q dec_int)
    | str j => obtain ⟨t', rfl⟩ := ry; exact PySem.EqMixed.eq_int_str (fin_bl I q (by simp))
    | _ => exact absurd (show false = true from hs) Bool.false_ne_true
  | str i =>
    obtain ⟨t, rfl⟩ := rx
    cases y with
    | non => cases ry; exact PySem.EqNone.eq_str_none (fin_bl I q (by simp))
    | bl j => cases ry; exact PySem.EqMixed.eq_str_bool (fin_bl I q (by simp))
    | int j => obtain ⟨t', rfl⟩ := ry; exact PySem.EqMixed.eq_str_int (fin_bl I q (by simp))
    | str j => obtain ⟨t', rfl⟩ := ry; exact eq_str (fin_bl I q dec_str)
    | _ => exact absurd (show false = true from hs) Bool.false_ne_true
  | byt i =>
    obtain ⟨t, rfl⟩ := rx
    cases y with
    | byt j => obtain ⟨t', rfl⟩ := ry; exact PySem.W.eq_bytes (fin_bl I q dec_byt)
    | _ => exact absurd (show false = true from hs) Bool.false_ne_true
  | _ => cases y <;> exact absurd (show false = true from hs) Bool.false_ne_true
theorem op_ne : OpR X (compareOp .NotEq) rNe := by
  intro pins s σ H x y v u Q I rx ry h
  obtain ⟨hs, q⟩ := h
  cases x with
  | non =>
    cases rx
    cases y with
    | non => cases ry; exact PySem.EqNone.ne_none_none (fin_bl I q (by simp))
    | bl j => cases ry; exact PySem.EqNone.ne_none_bool (fin_bl I q (by simp))
    | int j => obtain ⟨t', rfl⟩ := ry; exact PySem.EqNone.ne_none_int (fin_bl I q (by simp))
    | str j => obtain ⟨t', rfl⟩ := ry; exact PySem.EqNone.ne_none_str (fin_bl I q (by simp))
    | _ => exact absurd (show false = true from hs) Bool.false_ne_true
  | bl i =>
    cases rx
    cases y with
    | non => cases ry; exact PySem.EqNone.ne_bool_none (fin_bl I q (by simp))
    | bl j => cases ry; exact ne_bool (fin_bl I q (congrArg not dec_bl))
    | str j => obtain ⟨t', rfl⟩ := ry; exact PySem.EqMixed.ne_bool_str (fin_bl I q (by simp))
    | _ => exact absurd (show false = true from hs) Bool.false_ne_true
  | int i =>
    obtain ⟨t, rfl⟩ := rx
    cases y with
    | non => cases ry; exact PySem.EqNone.ne_int_none (fin_bl I q (by simp))
    | int j => obtain ⟨t', rfl⟩ := ry; exact ne_int (fin_bl I q (congrArg not dec_int))
    | str j => obtain ⟨t', rfl⟩ := ry; exact PySem.EqMixed.ne_int_str (fin_bl I q (by simp))
    | _ => exact absurd (show false = true from hs) Bool.false_ne_true
  | str i =>
    obtain ⟨t, rfl⟩ := rx
    cases y with
    | non => cases ry; exact PySem.EqNone.ne_str_none (fin_bl I q (by simp))
    | bl j => cases ry; exact PySem.EqMixed.ne_str_bool (fin_bl I q (by simp))
    | int j => obtain ⟨t', rfl⟩ := ry; exact PySem.EqMixed.ne_str_int (fin_bl I q (by simp))
    | str j => obtain ⟨t', rfl⟩ := ry; exact ne_str (fin_bl I q (congrArg not dec_str))
    | _ => exact absurd (show false = true from hs) Bool.false_ne_true
  | byt i =>
    obtain ⟨t, rfl⟩ := rx
    cases y with
    | byt j => obtain ⟨t', rfl⟩ := ry; exact PySem.W.ne_bytes (fin_bl I q (congrArg not dec_byt))
    | _ => exact absurd (show false = true from hs) Bool.false_ne_true
  | _ => cases y <;> exact absurd (show false = true from hs) Bool.false_ne_true

theorem op_lt : OpR X (compareOp .Lt) (rI0 fun i j => .bl (decide (i < j))) := opB0 fun _ _ _ _ _ _ _ q => lt_int q
theorem op_gt : OpR X (compareOp .Gt) (rI0 fun i j => .bl (decide (j < i))) := opB0 fun _ _ _ _ _ _ _ q => gt_int q
theorem op_ge : OpR X (compareOp .GtE) (rI0 fun i j => .bl (decide (j ≤ i))) := opB0 fun _ _ _ _ _ _ _ q => ge_int q
theorem op_isN : OpR X (compareOp .Is) (fun x y H Q => y = .non ∧ Q (.bl (decide (x = .non))) H) := by
  intro pins s σ H x y v u Q I rx ry h
  obtain ⟨rfl, q⟩ := h
  cases ry
  refine is_none_gen (fin_bl I q ?_)
  cases x <;> first
    | (cases rx; rfl)
    | (obtain ⟨t, rfl⟩ := rx; rfl)
theorem op_notN : OpR X (compareOp .IsNot) (fun x y H Q => y = .non ∧ Q (.bl (!decide (x = .non))) H) := by
  intro pins s σ H x y v u Q I rx ry h
  obtain ⟨rfl, q⟩ := h
  cases ry
  refine isnot_none_gen (fin_bl I q ?_)
  cases x <;> first
    | (cases rx; rfl)
    | (obtain ⟨t, rfl⟩ := rx; rfl)

def isObj : HO → Bool
  | .lst _ => true
  | .ins _ _ _ => true
  | _ => false
theorem obj_there {pins : List (Addr × Obj)} {s : Shared} {σ : St} {H : Hp} {a : Addr} {o : HO} (I : Inv X pins σ H s) (h : H a = some o) (p : isObj o = true) : ∃ ob, s.heap.get? a = some ob ∧ ob.cls ≠ .type "tuple" := by
  cases o with
  | lst xs =>
    obtain ⟨_, its, n, _, e⟩ : xs.length ≤ sizeLine ∧ ∃ (its : List Value) (n : Nat), Vals xs its ∧ s.heap.get? a = some { cls := .type "list", data := .seq its.toArray n } := I.hok a _ h
    exact ⟨_, e, (by show Value.type "list" ≠ .type "tuple"; decide +kernel)⟩
  | ins C dx fs =>
    have x := I.hok a _ h
    obtain ⟨_, _, _, e, _⟩ := x
    exact ⟨_, e, (by show Value.ref C ≠ .type "tuple"; exact fun z => by cases z)⟩
  | _ => exact absurd (show false = true from p) Bool.false_ne_true
theorem nomark (b : Expr) {op : CmpOp} (h : op ≠ .In := by decide) (h2 : op ≠ .NotIn := by decide) : behindInMarks op b = false := by
  have e1 : (op == CmpOp.In) = false := by cases op <;> first | rfl | exact absurd rfl h
  have e2 : (op == CmpOp.NotIn) = false := by cases op <;> first | rfl | exact absurd rfl h2
  cases b <;> simp [behindInMarks, e1, e2]
theorem pe_cmpR {op : CmpOp} {r : R2} (ho : OpR X (compareOp op) r) (ha : PE X a ta) (hb : PE X b tb) (hm : behindInMarks op b = false) : PE X (.Compare a [op] [b] pos) (tOp r ta tb) := by
  intro pins s σ H Q I h
  exact wpAny_Compare1 (binT ha hb I h fun v u s2 x y H2 I2 rx ry q => ho pins s2 σ H2 x y v u Q I2 rx ry q) hm
def tTest (t : TE) : TT := fun σ H Q => t σ H fun x H' => ∃ k, x = .bl k ∧ Q k H'
theorem pt_cmpR {op : CmpOp} {r : R2} (ho : OpR X (compareOp op) r) (ha : PE X a ta) (hb : PE X b tb) (hm : behindInMarks op b = false) : PT X (.Compare a [op] [b] pos) (tTest (tOp r ta tb)) := by
  intro pins s σ H Q I h
  refine wpAny_isTrue_Compare1 (thn (ha pins s σ H _ I h) fun v s1 ⟨x, H1, I1, r1, q1⟩ => thn (hb pins s1 σ H1 _ I1 q1) fun u s2 ⟨y, H2, I2, r2, q2⟩ =>
    thn (ho pins s2 σ H2 x y v u _ I2 r1 r2 q2) fun c s3 ⟨z, H3, I3, r3, k, e, q3⟩ => ?_) hm
  subst e
  cases r3
  exact wpAny_truthy_bool ⟨H3, I3, q3⟩
theorem line63 : (sizeLine : Nat) < 2 ^ 63 := by rw [sizeLine_eq]; decide
theorem op_add_str : OpR X (binaryOp .Add) (fun x y H Q => ∃ i j, x = .str i ∧ y = .str j ∧ i.length + j.length ≤ sizeLine ∧ Q (.str (i ++ j)) H) := by
  intro pins s σ H x y v u Q I rx ry h
  obtain ⟨i, j, rfl, rfl, hz, q⟩ := h
  obtain ⟨t, rfl⟩ := rx
  obtain ⟨t', rfl⟩ := ry
  exact add_str (fun t' tk => ⟨.str (i ++ j), H, I.tok _, ⟨_, rfl⟩, q⟩) hz
theorem vals1 {x : V} {us : List Value} (r : Vals [x] us) : ∃ u, us = [u] ∧ RelV x u := by
  cases r with
  | cons r1 r2 => cases r2; exact ⟨_, rfl, r1⟩
theorem vals2 {x y : V} {us : List Value} (r : Vals [x, y] us) : ∃ u w', us = [u, w'] ∧ RelV x u ∧ RelV y w' := by
  cases r with
  | cons r1 r2 =>
    cases r2 with
    | cons r3 r4 => cases r4; exact ⟨_, _, rfl, r1, r3⟩
end
end L2

namespace L2
open PySem PySem.Spec PyProof.Rows

structure ObjM (h : Heap) (x dx C : Addr) (mA : Str → Option Value) : Prop where
  obj : h.get? x = some (PySem.W.instObj C dx)
  ns : h.Ns1 dx mA
  ne : dx ≠ x

theorem lookIn_ns {h : Heap} {dx : Addr} {mA : Str → Option Value} (n : h.Ns1 dx mA) : ∃ od, h.get? dx = some od ∧ ∀ name, PySem.W.lookIn name od = some (mA name) := by
  obtain ⟨o, es, ep, ho, hd, hk, _, hm⟩ := n
  refine ⟨o, ho, fun name => ?_⟩
  have e := hm name
  unfold nsFind findBy at e
  rw [← Array.find?_toList] at e
  unfold PySem.W.lookIn
  rw [hd]
  dsimp only
  split
  · rename_i y q
    rw [q] at e
    exact congrArg some e
  · rename_i q
    rw [q] at e
    have a : es.toList.any (·.refKey) = false := by
      rw [List.any_eq_false]
      intro y hy
      obtain ⟨z, t, hkey⟩ := hk y (Array.mem_toList_iff.mp hy)
      simp [DictEntry.refKey, hkey]
    have a' : ¬ es.toList.any (·.refKey) = true := by rw [a]; exact Bool.false_ne_true
    rw [if_neg a']
    exact congrArg some e

theorem ObjM.look {h : Heap} {x dx C : Addr} {mA : Str → Option Value} (I : ObjM h x dx C mA) : ∃ od, PySem.W.InstAt h x (PySem.W.instObj C dx) C (some od) ∧ ∀ name, PySem.W.lookIn name od = some (mA name) :=
  let ⟨od, ho, hl⟩ := lookIn_ns I.ns
  ⟨od, ⟨I.obj, rfl, rfl, ho⟩, hl⟩

section
variable {prog : Program} {w : World} {A : Around} {E : Value → Shared → Prop} {s : Shared} {K : PySem.W.Frag} {x dx C f : Addr} {mA : Str → Option Value} {name : Str} {v : Value}

theorem get_map {expr : Bool} {Q : Value → Shared → Prop} (X : K.In s.heap) (I : ObjM s.heap x dx C mA) (hg : PySem.W.plainGet K C name = true) (hh : PySem.W.hasDictIn K C = true)
    (ha : PySem.W.findIn K (.ref C) name = some none) (hv : mA name = some v) (hv' : PySem.W.handedIn v = true) (h : Q v { s with toks := s.toks + 1 }) :
    wpAny (model prog w) A (getAttr (.ref x) name expr) Q E s := by
  obtain ⟨od, J, hl⟩ := I.look
  exact PySem.W.get_value X J (PySem.W.plainGet_of hg).1 (PySem.W.findObj_own hh ha rfl (by rw [hl, hv])) hv' h

theorem get_meth {pl : Sem Bool} {Q : Value × List Value → Shared → Prop} (X : K.In s.heap) (I : ObjM s.heap x dx C mA) (hg : PySem.W.plainGet K C name = true)
    (hf : PySem.W.findIn K (.ref C) name = some (some (.ref f))) (ht : PySem.W.isFn K (.ref f) = true) (hv : mA name = none) (h : Q (.ref f, [.ref x]) s) :
    wpAny (model prog w) A (getMethod (.ref x) name pl) Q E s := by
  obtain ⟨od, J, hl⟩ := I.look
  exact PySem.W.method_fn X J (PySem.W.plainGet_of hg).1 (PySem.W.plainGet_of hg).2 hf (beq_iff_eq.mp ht) (by show (PySem.W.lookIn name od).map (·.isSome) = some false; rw [hl, hv]; rfl) h

theorem set_map {ns : List Str} {Q : Unit → Shared → Prop} (X : K.In s.heap) (I : ObjM s.heap x dx C mA)
    (hs : PySem.W.findIn K (.ref C) "__setattr__" = some (some (.builtin "object.__setattr__"))) (hp : PySem.W.plainOver K C = true) (ht : PySem.W.takerIn K C name = some none) (hh : PySem.W.hasDictIn K C = true)
    (hw : PySem.Within mA ns) (hsz : ns.length ≤ sizeLine)
    (h : ∀ h', ObjM h' x dx C (fun y => if y = name then some v else mA y) → Heap.SameBut dx s.heap h' → Q () { s with heap := h', toks := s.toks + 2 }) :
    wpAny (model prog w) A (setAttr (.ref x) name v) Q E s := by
  obtain ⟨od, J, hl⟩ := I.look
  refine PySem.W.set_plain X J hs (PySem.W.osa_open (s := { s with toks := s.toks + 1 }) (r := none) X J hp ht fun b => ?_)
  obtain ⟨cd, hc, hd'⟩ := PySem.W.any_some hh
  have hx : s.heap.get? x = some ⟨.ref C, some dx, .plain, #[]⟩ := I.obj
  refine wpAny_bind (wpAny_pure (wpAny_bind (wpAny_bind (wpAny_loadPart hx (wpAny_bind (PySem.W.Looks.here (s := { s with toks := s.toks + 1 }) (PySem.W.looks_clsIn X hc) ?_))))))
  rw [hd']
  refine wpAny_pure (a := some dx) (wpAny_bind (wpAny_pure (wpAny_bind ?_)))
  refine wpAny_nsSet1 (s := { s with toks := s.toks + 1 }) I.ns fun h' hn2 hs2 => ?_
  obtain ⟨oD, esD, epD, hoD, hdD, hcD⟩ := hn2.count (PySem.Within.cons name v hw)
  refine wpAny_bind (wpAny_lookBehind hoD (by rw [hdD]; exact pastItsLine_dict (Nat.le_trans hcD (by rw [List.length_cons]; omega))) ?_)
  exact wpAny_pure (h _ ⟨(hs2.2 _ (Ne.symm I.ne)).trans I.obj, hn2, I.ne⟩ hs2)

theorem make_map {R : Result → Shared → Prop} {vs : List Value} {kw : List (Str × Value)} (X : K.In s.heap) (hm : PySem.W.makesIn K C = true)
    (hi : PySem.W.findIn K (.ref C) "__init__" = some (some (.ref f))) (hf : PySem.W.typeIn K (.ref f) = some (.type "function"))
    (h : codeAny (model prog w) (A.under (.builtin "type.__call__" ⟨.ref C :: vs, kw⟩)) (.call (.ref f) ⟨.ref (s.heap.objs.size + 1) :: vs, kw⟩) (PySem.W.InitBack (s.heap.objs.size + 1) R)
      { s with heap := (s.heap.push PySem.W.emptyDict).push (PySem.W.instObj C s.heap.objs.size) }) :
    codeAny (model prog w) A (.call (.ref C) ⟨vs, kw⟩) R s := by
  obtain ⟨hh, g, d, t, os⟩ := s
  exact PySem.W.make_core (PySem.W.makes_of X hm) (PySem.W.looks_findIn X hi) (fun self => PySem.W.bind_fn X self hf) (.inl rfl) h
theorem make_map0 {R : Result → Shared → Prop} (X : K.In s.heap) (hm : PySem.W.makesIn K C = true)
    (hi : PySem.W.findIn K (.ref C) "__init__" = some (some (.builtin "object.__init__")))
    (hb : ∀ self, PySem.W.Looks (model prog w) s.heap (bindSpecial (.builtin "object.__init__") self) (.builtin "object.__init__", [self]))
    (h : codeAny (model prog w) (A.under (.builtin "type.__call__" ⟨[.ref C], []⟩)) (.call (.builtin "object.__init__") ⟨[.ref (s.heap.objs.size + 1)], []⟩) (PySem.W.InitBack (s.heap.objs.size + 1) R)
      { s with heap := (s.heap.push PySem.W.emptyDict).push (PySem.W.instObj C s.heap.objs.size) }) :
    codeAny (model prog w) A (.call (.ref C) ⟨[], []⟩) R s := by
  obtain ⟨hh, g, d, t, os⟩ := s
  exact PySem.W.make_core (PySem.W.makes_of X hm) (PySem.W.looks_findIn X hi) hb (.inr ⟨rfl, rfl⟩) h
end

def putF (f : Str) (v : V) : List (Str × V) → List (Str × V)
  | [] => [(f, v)]
  | (g, x) :: r => if g = f then (g, v) :: r else (g, x) :: putF f v r
theorem lookup_putF (f g : Str) (v : V) : ∀ fs : List (Str × V), (putF f v fs).lookup g = if g = f then some v else fs.lookup g
  | [] => by
    show List.lookup g [(f, v)] = _
    by_cases h : g = f
    · have hb : (g == f) = true := beq_iff_eq.mpr h
      simp only [List.lookup, hb, if_pos h]
    · have hb : (g == f) = false := beq_eq_false_iff_ne.mpr h
      simp only [List.lookup, hb, if_neg h]
  | (k, x) :: r => by
    have ih := lookup_putF f g v r
    rw [show putF f v ((k, x) :: r) = (if k = f then (k, v) :: r else (k, x) :: putF f v r) from rfl]
    by_cases hk : k = f
    · rw [if_pos hk]
      by_cases h : g = k
      · have hb : (g == k) = true := beq_iff_eq.mpr h
        simp only [List.lookup, hb, if_pos (h.trans hk)]
      · have hb : (g == k) = false := beq_eq_false_iff_ne.mpr h
        simp only [List.lookup, hb, if_neg (fun e : g = f => h (e.trans hk.symm))]
    · rw [if_neg hk]
      by_cases h : g = k
      · have hb : (g == k) = true := beq_iff_eq.mpr h
        simp only [List.lookup, hb, if_neg (fun e : g = f => hk (h.symm.trans e))]
      · have hb : (g == k) = false := beq_eq_false_iff_ne.mpr h
        simp only [List.lookup, hb]
        exact ih
theorem keys_putF (f : Str) (v : V) : ∀ fs : List (Str × V), f ∈ (putF f v fs).map (·.1) ∧ ∀ g, g ∈ fs.map (·.1) → g ∈ (putF f v fs).map (·.1)
  | [] => ⟨by simp [putF], fun g h => by simp at h⟩
  | (k, x) :: r => by
    obtain ⟨i1, i2⟩ := keys_putF f v r
    rw [show putF f v ((k, x) :: r) = (if k = f then (k, v) :: r else (k, x) :: putF f v r) from rfl]
    by_cases hk : k = f
    · rw [if_pos hk]
      subst hk
      exact ⟨by simp, fun g h => by simpa using h⟩
    · rw [if_neg hk]
      refine ⟨?_, fun g h => ?_⟩
      · rw [List.map_cons]
        exact List.mem_cons_of_mem _ i1
      · rw [List.map_cons] at h ⊢
        rcases List.mem_cons.mp h with e | e
        · exact List.mem_cons.mpr (.inl e)
        · exact List.mem_cons_of_mem _ (i2 g e)
theorem length_putF (f : Str) (v : V) : ∀ fs : List (Str × V), (putF f v fs).length ≤ fs.length + 1
  | [] => by simp [putF]
  | (k, x) :: r => by
    have ih := length_putF f v r
    rw [show putF f v ((k, x) :: r) = (if k = f then (k, v) :: r else (k, x) :: putF f v r) from rfl]
    by_cases hk : k = f
    · rw [if_pos hk, List.length_cons, List.length_cons]; omega
    · rw [if_neg hk, List.length_cons, List.length_cons]; omega

theorem RelO.some_of {v : V} {o : Option Value} (r : RelO (some v) o) : ∃ u, o = some u ∧ RelV v u := by
  cases o with
  | none => exact (show False from r).elim
  | some u => exact ⟨u, rfl, r⟩
theorem RelO.none_of {o : Option Value} (r : RelO none o) : o = none := by
  cases o with
  | none => rfl
  | some u => exact (show False from r).elim
theorem handed_of {v : V} {u : Value} (r : RelV v u) : PySem.W.handedIn u = true := by
  cases v with
  | non => cases (show u = Value.none from r); rfl
  | bl b => cases (show u = Value.bool b from r); rfl
  | int i => obtain ⟨t, e⟩ := (show ∃ t, u = Value.int i t from r); cases e; rfl
  | str x => obtain ⟨t, e⟩ := (show ∃ t, u = Value.str x t from r); cases e; rfl
  | byt b => obtain ⟨t, e⟩ := (show ∃ t, u = Value.bytes b t from r); cases e; rfl
  | flt b => obtain ⟨t, e⟩ := (show ∃ t, u = Value.float b t from r); cases e; rfl
  | ref a => cases (show u = Value.ref a from r); rfl
  | ty n => cases (show u = Value.type n from r); rfl

section
variable {P : Program} {w : World} {H H' : Hp} {h h' : Heap} {a C dx : Addr} {fs fs' : List (Str × V)}
theorem ins_get (hok : HOk P w H h) (e : H a = some (.ins C dx fs)) : ∃ mA, ObjM h a dx C mA ∧ (∀ f, RelO (fs.lookup f) (mA f)) ∧ PySem.Within mA (fs.map (·.1)) ∧ fs.length ≤ 1000 ∧ H dx = some (.own a) := by
  obtain ⟨d, z, ne, ob, mA, n, r, q⟩ := (show ObjOk P w H h a (.ins C dx fs) from hok a _ e)
  exact ⟨mA, ⟨ob, n, ne⟩, r, q, z, d⟩
end

structure Cls (K : PySem.W.Frag) (C : Addr) : Prop where
  pg : PySem.W.plainGet K C Str.empty = true
  hd : PySem.W.hasDictIn K C = true
  po : PySem.W.plainOver K C = true
  sa : PySem.W.findIn K (.ref C) "__setattr__" = some (some (.builtin "object.__setattr__"))
theorem Cls.get {K : PySem.W.Frag} {C : Addr} (c : Cls K C) (f : Str) : PySem.W.plainGet K C f = true := c.pg
def NoAttr (K : PySem.W.Frag) (C : Addr) (f : Str) : Prop := PySem.W.findIn K (.ref C) f = some none
theorem NoAttr.taker {K : PySem.W.Frag} {C : Addr} {f : Str} (n : NoAttr K C f) : PySem.W.takerIn K C f = some none := by
  unfold PySem.W.takerIn
  rw [show PySem.W.findIn K (.ref C) f = some none from n]
  rfl
structure Con (K : PySem.W.Frag) (C : Addr) (f : Str) (v : V) (u : Value) : Prop where
  at_ : PySem.W.findIn K (.ref C) f = some (some u)
  rel : RelV v u
  get : PySem.W.specialIn K u "__get__" = some none
  cp : PySem.W.copiedNames.contains f = false
structure Meth (K : PySem.W.Frag) (C : Addr) (m : Str) (f : Addr) : Prop where
  at_ : PySem.W.findIn K (.ref C) m = some (some (.ref f))
  fn : PySem.W.isFn K (.ref f) = true
  kp : PySem.W.keepIn K (.ref f) = true

section
variable {X : Cx} {pins : List (Addr × Obj)} {σ : St} {H : Hp} {s : Shared} {a C dx : Addr} {fs : List (Str × V)} {f : Str} {v : V} {A : Around} {E : Value → Shared → Prop}

theorem getattr_ok {b : Bool} {Q : Value → Shared → Prop} (I : Inv X pins σ H s) (e : H a = some (.ins C dx fs)) (c : Cls X.K C) (n : NoAttr X.K C f) (l : fs.lookup f = some v)
    (h : ∀ u s', Inv X pins σ H s' → RelV v u → Q u s') : wpAny (model X.prog X.w) A (getAttr (.ref a) f b) Q E s := by
  obtain ⟨mA, O, r, _, _, _⟩ := ins_get I.hok e
  obtain ⟨u, hu, ru⟩ := RelO.some_of (v := v) (o := mA f) (by rw [← l]; exact r f)
  exact get_map I.kIn O (c.get f) c.hd n hu (handed_of ru) (h u _ (I.tok _) ru)

theorem getmeth_ok {m : Str} {g : Addr} {pl : Sem Bool} {Q : Value × List Value → Shared → Prop} (I : Inv X pins σ H s) (e : H a = some (.ins C dx fs)) (c : Cls X.K C) (k : Meth X.K C m g) (l : fs.lookup m = none)
    (h : Q (.ref g, [.ref a]) s) : wpAny (model X.prog X.w) A (getMethod (.ref a) m pl) Q E s := by
  obtain ⟨mA, O, r, _, _, _⟩ := ins_get I.hok e
  have hn : mA m = none := RelO.none_of (by rw [← l]; exact r m)
  exact get_meth I.kIn O (c.get m) k.at_ k.fn hn h

theorem setattr_ok {y : V} {u : Value} {Q : Unit → Shared → Prop} (I : Inv X pins σ H s) (e : H a = some (.ins C dx fs)) (c : Cls X.K C) (n : NoAttr X.K C f) (hl : fs.length < 1000) (ry : RelV y u)
    (h : ∀ s', Inv X pins σ (upd H a (.ins C dx (putF f y fs))) s' → Q () s') : wpAny (model X.prog X.w) A (setAttr (.ref a) f u) Q E s := by
  obtain ⟨mA, O, r, wi, _, ho⟩ := ins_get I.hok e
  have hz : (fs.map (·.1)).length ≤ sizeLine := by rw [List.length_map, sizeLine_eq]; omega
  refine set_map I.kIn O c.sa c.po n.taker c.hd wi hz fun h' O' sb => h _ ?_
  have hd : ∃ o, h'.get? dx = some o := let ⟨o, _, _, e', _⟩ := O'.ns; ⟨o, e'⟩
  refine I.write (x := a) (e := dx) (by rw [e]; exact True.intro) (.inr ho) (fun b q hb z => (sb.2 b hb).trans z) hd ?_
  refine ⟨by rw [upd_ne O.ne]; exact ho, ?_, O.ne, O'.obj, _, O'.ns, fun g => ?_, fun g hg => ?_⟩
  · have := length_putF f y fs; omega
  · show RelO ((putF f y fs).lookup g) (if g = f then some u else mA g)
    rw [lookup_putF]
    by_cases q : g = f
    · rw [if_pos q, if_pos q]; exact ry
    · rw [if_neg q, if_neg q]; exact r g
  · by_cases q : g = f
    · rw [q]; exact (keys_putF f y fs).1
    · refine (keys_putF f y fs).2 g (wi g fun z => hg ?_)
      show (if g = f then some u else mA g) = none
      rw [if_neg q]; exact z

theorem Inv.made (I : Inv X pins σ H s) : Inv X pins σ (upd (upd H s.heap.objs.size (.own (s.heap.objs.size + 1))) (s.heap.objs.size + 1) (.ins C s.heap.objs.size []))
    { s with heap := (s.heap.push PySem.W.emptyDict).push (PySem.W.instObj C s.heap.objs.size) } := by
  have e1 : (s.heap.push PySem.W.emptyDict).get? s.heap.objs.size = some PySem.W.emptyDict := Heap.get?_push_size s.heap rfl
  have e2 : ((s.heap.push PySem.W.emptyDict).push (PySem.W.instObj C s.heap.objs.size)).get? (s.heap.objs.size + 1) = some (PySem.W.instObj C s.heap.objs.size) := by
    have := Heap.get?_push_size (s.heap.push PySem.W.emptyDict) (o := PySem.W.instObj C s.heap.objs.size) rfl
    rwa [Heap.size_push] at this
  have e3 : (s.heap.push PySem.W.emptyDict).Ns s.heap.objs.size (fun _ => none) := ⟨PySem.W.emptyDict, #[], _, e1, rfl, (fun e he => absurd he (by simp)), fun _ => rfl⟩
  have I1 := I.laid (a := s.heap.objs.size) (o := .own (s.heap.objs.size + 1)) (h' := s.heap.push PySem.W.emptyDict) (t' := s.toks) (fun b u q => Heap.get?_push_of_some _ q) (Nat.le_refl _) ⟨_, e1⟩
  refine I1.laid (a := s.heap.objs.size + 1) (o := .ins C s.heap.objs.size []) (t' := s.toks) (fun b u q => Heap.get?_push_of_some _ q) (Nat.le_of_eq (Heap.size_push _ _)) ?_
  have ne : s.heap.objs.size ≠ s.heap.objs.size + 1 := Nat.ne_of_lt (Nat.lt_succ_self _)
  refine ⟨by rw [upd_ne ne, upd_same], Nat.zero_le _, ne, e2, fun _ => none, (Heap.Ns1.of_empty e3).at fun o q => Heap.get?_push_of_some _ q, fun _ => True.intro, fun y hy => absurd rfl hy⟩

theorem attr_of {prog : Program} {w : World} {env : Env} {e : Expr} {f : Str} {pos : Pos} {s : Shared} {Q : Value → Shared → Prop} (hb : attributeBase e f env (eval e env) = eval e env)
    (h : wpAny (model prog w) A (eval e env) (fun o s₁ => wpAny (model prog w) A (getAttr o f true) Q E s₁) E s) : wpAny (model prog w) A (eval (.Attribute e f pos) env) Q E s :=
  Attribute_any_ h (by rw [arm_eval_Attribute, hb])
end

def tFld (K : PySem.W.Frag) (ta : TE) (f : Str) : TE := fun σ H Q => ta σ H fun x H1 => ∃ a C dx fs v, x = .ref a ∧ H1 a = some (.ins C dx fs) ∧ Cls K C ∧ NoAttr K C f ∧ fs.lookup f = some v ∧ Q v H1
def sFld (K : PySem.W.Frag) (ta tv : TE) (f : Str) : TS := fun D σ H => tv σ H fun y H1 => ta σ H1 fun x H2 => ∃ a C dx fs, x = .ref a ∧ H2 a = some (.ins C dx fs) ∧ Cls K C ∧ NoAttr K C f ∧ fs.length < 1000 ∧
  D.nx σ (upd H2 a (.ins C dx (putF f y fs)))
section
variable {X : Cx} {o e value : Expr} {f : Str} {pos pos' tpos : Pos} {ta tv : TE}
theorem pe_fld (he : PE X e ta) (hb : attributeBase e f X.env (eval e X.env) = eval e X.env) : PE X (.Attribute e f pos) (tFld X.K ta f) := by
  intro pins s σ H Q I h
  refine attr_of hb (thn (he pins s σ H _ I h) fun u s1 ⟨x, H1, I1, rx, a, C, dx, fs, v, ex, ea, c, n, l, q⟩ => ?_)
  subst ex
  obtain rfl : u = Value.ref a := rx
  exact getattr_ok I1 ea c n l fun u' s2 I2 ru => ⟨v, H1, I2, ru, q⟩
theorem ps_fld (ha : PE X o ta) (hv : PE X value tv) (hs : swapsWith value (some (.Attribute o f pos')) pos.line X.env = pure false) : PS X (.Assign [.Attribute o f pos'] value pos) (sFld X.K ta tv f) := by
  intro pins s σ H D I h
  refine plainObj_wpAny_Assign_Attribute (thn (hv pins s σ H _ I h) fun u s1 ⟨y, H1, I1, ry, q⟩ => thn (ha pins s1 σ H1 _ I1 q) fun ov s2 ⟨x, H2, I2, rx, a, C, dx, fs, ex, ea, c, n, l, q2⟩ => ?_) hs
  subst ex
  obtain rfl : ov = Value.ref a := rx
  exact setattr_ok I2 ea c n l ry fun s3 I3 => ⟨σ, _, I3, q2⟩
end

section
variable {X : Cx} {pins : List (Addr × Obj)} {σ : St} {H : Hp} {s : Shared} {A : Around} {E : Value → Shared → Prop} {Q : Value → Shared → Prop} {c : Value} {b : Bool}
inductive TyOf (K : PySem.W.Frag) (H : Hp) : V → Value → Prop where
  | non : TyOf K H .non (.type "NoneType")
  | bl (x : Bool) : TyOf K H (.bl x) (.type "bool")
  | int (i : Int) : TyOf K H (.int i) (.type "int")
  | str (x : Str) : TyOf K H (.str x) (.type "str")
  | flt (x : UInt64) : TyOf K H (.flt x) (.type "float")
  | lst {a : Addr} {xs : List V} (e : H a = some (.lst xs)) : TyOf K H (.ref a) (.type "list")
  | frz {a : Addr} {o : Obj} {xs : List V} (e : H a = some (.frz o (.lst xs))) : TyOf K H (.ref a) (.type "list")
  | tup {a : Addr} {xs : List V} (e : H a = some (.tup xs)) : TyOf K H (.ref a) (.type "tuple")
  | dK {a : Addr} {kvs : List (Key × V)} (e : H a = some (.dK kvs)) : TyOf K H (.ref a) (.type "dict")
  | dT {a : Addr} {kvs : List (List Key × V)} (e : H a = some (.dT kvs)) : TyOf K H (.ref a) (.type "dict")
  | ins {a C dx : Addr} {fs : List (Str × V)} (e : H a = some (.ins C dx fs)) (cl : Cls K C) (ha : PySem.W.findIn K (.ref C) "__class__" = some (some (.builtin "object.__class__")))
      (hn : PySem.W.specialIn K (.builtin "object.__class__") "__get__" = some (some (.builtin "getset_descriptor.__get__"))) (htk : PySem.W.takesIn K (.builtin "object.__class__") = some true)
      (hm : PySem.W.mroIn K C (.type "object") = some true) : TyOf K H (.ref a) (.ref C)
theorem isinst_ok {x : V} {u t : Value} (I : Inv X pins σ H s) (rx : RelV x u) (ty : TyOf X.K H x t) (e : PySem.W.kitOne X.K t c = some b) (h : ∀ tk, Q (.bool b) { s with toks := tk }) :
    wpAny (model X.prog X.w) A (call (.builtin "isinstance") [u, c]) Q E s := by
  cases ty with
  | non => cases (show u = Value.none from rx); exact PySem.W.kia_one PySem.W.kitx_none I.kIn True.intro e (fun z => nomatch z) h
  | bl y => cases (show u = Value.bool y from rx); exact PySem.W.kia_one PySem.W.kitx_bool I.kIn True.intro e (fun z => nomatch z) h
  | int i => obtain ⟨t, q⟩ := (show ∃ t, u = Value.int i t from rx); cases q; exact PySem.W.kia_one PySem.W.kitx_int I.kIn True.intro e (fun z => nomatch z) h
  | str y => obtain ⟨t, q⟩ := (show ∃ t, u = Value.str y t from rx); cases q; exact PySem.W.kia_one PySem.W.kitx_str I.kIn True.intro e (fun z => nomatch z) h
  | flt y => obtain ⟨t, q⟩ := (show ∃ t, u = Value.float y t from rx); cases q; exact PySem.W.kia_one PySem.W.kitx_float I.kIn True.intro e (fun z => nomatch z) h
  | @lst a xs ea =>
    cases (show u = Value.ref a from rx)
    obtain ⟨_, _, n, _, h1⟩ := (show ObjOk X.prog X.w H s.heap a (.lst xs) from I.hok a _ ea)
    exact PySem.W.kia_one PySem.W.kitx_list I.kIn ⟨_, h1, rfl⟩ e (fun z => nomatch z) h
  | @frz a ob xs ea =>
    cases (show u = Value.ref a from rx)
    obtain ⟨_, _, _, n, _, h1⟩ := (show ObjOk X.prog X.w H s.heap a (.frz ob (.lst xs)) from I.hok a _ ea)
    exact PySem.W.kia_one PySem.W.kitx_list I.kIn ⟨_, h1, rfl⟩ e (fun z => nomatch z) h
  | @tup a xs ea =>
    cases (show u = Value.ref a from rx)
    obtain ⟨_, _, _, p⟩ := (show ObjOk X.prog X.w H s.heap a (.tup xs) from I.hok a _ ea)
    obtain ⟨o, h1, h2, _⟩ := p
    exact PySem.W.kia_one PySem.W.kitx_tuple I.kIn ⟨o, h1, h2⟩ e (fun z => nomatch z) h
  | @dK a kvs ea =>
    cases (show u = Value.ref a from rx)
    obtain ⟨_, _, vs, _, p⟩ := (show ObjOk X.prog X.w H s.heap a (.dK kvs) from I.hok a _ ea)
    obtain ⟨o, es, ep, h1, h2, _⟩ := p
    exact PySem.W.kia_one PySem.W.kitx_dict I.kIn ⟨o, h1, h2.1⟩ e (fun z => nomatch z) h
  | @dT a kvs ea =>
    cases (show u = Value.ref a from rx)
    obtain ⟨_, _, xs, _, o, es, ep, h1, h2, _⟩ := (show ObjOk X.prog X.w H s.heap a (.dT kvs) from I.hok a _ ea)
    exact PySem.W.kia_one PySem.W.kitx_dict I.kIn ⟨o, h1, h2.1⟩ e (fun z => nomatch z) h
  | @ins a C dx fs ea cl ha hn htk hm =>
    cases (show u = Value.ref a from rx)
    obtain ⟨mA, O, _⟩ := ins_get I.hok ea
    obtain ⟨od, J, _⟩ := O.look
    exact PySem.W.kia_one (PySem.W.kitx_own (cl.get _) cl.hd ha hn htk hm) I.kIn J e (fun z => nomatch z) h
end
end L2

namespace L2
open PySem PySem.Spec PyProof.Rows

structure Room (k : Nat) (A : Around) : Prop where
  hd : A.handled = none
  dp : A.depth + 3 * k + 5 < recursionLimit
  un : A.units + 16 * k + 200 < cLine
theorem Room.mono {j k : Nat} {A : Around} (r : Room k A) (h : j ≤ k) : Room j A := ⟨r.hd, by have := r.dp; omega, by have := r.un; omega⟩
theorem Room.deeper {k : Nat} {A : Around} (r : Room (k + 1) A) (env : Env) : Room k (A.deeper env) :=
  ⟨r.hd, by have := r.dp; show A.depth + 1 + 3 * k + 5 < _; omega, by have := r.un; show A.units + 3 + 16 * k + 200 < _; omega⟩
theorem make_depth {A : Around} {C : Addr} {us : List Value} {kw : List (Str × Value)} : (A.under (.builtin "type.__call__" ⟨.ref C :: us, kw⟩)).depth = A.depth + 1 := by
  first | rfl | simp [Around.under, Code.weight, Code.isCreation, Code.isGuard, Code.isCaller, Code.frames, Code.isFrame, guardIds]
theorem make_units {A : Around} {C : Addr} {us : List Value} {kw : List (Str × Value)} : (A.under (.builtin "type.__call__" ⟨.ref C :: us, kw⟩)).units = A.units + 1 := by
  first | rfl | simp [Around.under, Code.cUnits, Code.frames, Code.isFrame]
theorem Room.make {k : Nat} {A : Around} (r : Room (k + 1) A) (C : Addr) (us : List Value) (kw : List (Str × Value)) : Room k (A.under (.builtin "type.__call__" ⟨.ref C :: us, kw⟩)) :=
  ⟨r.hd, by have := r.dp; rw [make_depth]; omega, by have := r.un; rw [make_units]; omega⟩
theorem Room.depth {k : Nat} {A : Around} (r : Room k A) : A.depth < recursionLimit := by have := r.dp; omega
theorem Room.units {k : Nat} {A : Around} (r : Room k A) : A.units + 64 < cLine := by have := r.un; omega
def tNil : TA := fun _ H Q => Q [] H
def tCons (ta : TE) (tr : TA) : TA := fun σ H Q => ta σ H fun x H1 => tr σ H1 fun xs H2 => Q (x :: xs) H2
section
variable {X : Cx} {e : Expr} {es : List Expr} {te : TE} {t : TA} {pos : Pos}
theorem pa_nil : PA X [] tNil := fun _ _ _ _ H Q I h => Calls.spliced_nil ⟨[], H, I, .nil, h⟩
theorem pa_cons (ha : PE X e te) (hr : PA X es t) (hs : starEach (e :: es) X.env = (false, eval e X.env) :: starEach es X.env := by rfl) : PA X (e :: es) (tCons te t) := by
  intro pos pins s σ H Q I h
  rw [hs]
  show wpAny _ _ (spliced ((false, eval e X.env) :: backTo pos (starEach es X.env))) _ _ s
  refine Calls.spliced_cons (thn (ha pins s σ H _ I h) fun u s1 ⟨x, H1, I1, r1, q1⟩ => ?_)
  exact thn (hr pos pins s1 σ H1 _ I1 q1) fun us s2 ⟨xs, H2, I2, r2, q2⟩ => ⟨x :: xs, H2, I2, .cons r1 r2, q2⟩

def tTup (t : TA) : TE := fun σ H Q => t σ H fun xs H1 => xs.length ≤ sizeLine ∧ ∀ p, H1 p = none → Q (.ref p) (upd H1 p (.tup xs))
def tLst (t : TA) : TE := fun σ H Q => t σ H fun xs H1 => xs.length ≤ sizeLine ∧ ∀ p, H1 p = none → Q (.ref p) (upd H1 p (.lst xs))
theorem pe_tup {x1} (h : PA X es t) : PE X (.Tuple es x1 pos) (tTup t) := by
  intro pins s σ H Q I hq
  refine wpAny_Tuple_spliced (thn (h pos pins s σ H _ I hq) fun us s1 ⟨xs, H1, I1, r, z, q⟩ => ⟨by rw [← r.length]; exact z, ?_⟩)
  have hf : H1 s1.heap.objs.size = none := I1.hok.fresh (Nat.le_refl _)
  refine ⟨.ref s1.heap.objs.size, upd H1 s1.heap.objs.size (.tup xs), I1.laid (t' := s1.toks) (fun b u e => Heap.get?_push_of_some _ e) (Nat.le_refl _) ?_, rfl, q _ hf⟩
  exact ⟨z, us, r, ⟨_, Heap.get?_push_size _ rfl, rfl, _, rfl⟩⟩
theorem pe_lst (h : PA X es t) : PE X (.List es pos) (tLst t) := by
  intro pins s σ H Q I hq
  refine wpAny_List_spliced (thn (h pos pins s σ H _ I hq) fun us s1 ⟨xs, H1, I1, r, z, q⟩ => ⟨by rw [← r.length]; exact z, ?_⟩)
  have hf : H1 s1.heap.objs.size = none := I1.hok.fresh (Nat.le_refl _)
  refine ⟨.ref s1.heap.objs.size, upd H1 s1.heap.objs.size (.lst xs), I1.laid (t' := s1.toks) (fun b u e => Heap.get?_push_of_some _ e) (Nat.le_refl _) ?_, rfl, q _ hf⟩
  exact ⟨z, us, 0, r, Heap.get?_push_size _ rfl⟩
end

abbrev Sp := List V → Hp → VK → XK → Prop
abbrev CXT := List Env → Hp → Shared → XK → Value → Shared → Prop

structure Env0 (P : Program) (w : World) (K : PySem.W.Frag) (mg : Str → Option Value) (base : Heap) (A : Around) (outer : List Env) (s : Shared) (H : Hp) : Prop where
  frames : A.frames = some outer
  mod : Mod K mg base
  bs : ∀ b o, base.get? b = some o → s.heap.get? b = some o ∧ H b = none
  bsz : base.objs.size ≤ s.heap.objs.size
  funs : s.heap.FunFrames base outer
  frf : ∀ b ∈ frs outer, H b = none
  hok : HOk P w H s.heap
  bare : AllBare s.gens
def CE (outer : List Env) (P : Program) (w : World) (H : Hp) (s : Shared) (Q : VK) (u : Value) (s' : Shared) : Prop :=
  ∃ v H', s'.os = s.os ∧ AllBare s'.gens ∧ Un (frs outer) [] H H' s.heap s'.heap ∧ HOk P w H' s'.heap ∧ RelV v u ∧ Q v H'
def CR (CX : CXT) (outer : List Env) (P : Program) (w : World) (H : Hp) (s : Shared) (Q : VK) (E : XK) (r : Result) (s' : Shared) : Prop :=
  match r with
  | .ok (.ret u) => CE outer P w H s Q u s'
  | .ok _ => False
  | .error e => CX outer H s E e s'
structure FnOk (P : Program) (w : World) (K : PySem.W.Frag) (mg : Str → Option Value) (base : Heap) (CX : CXT) (k : Nat) (f : Addr) (fd : FuncData) (ps : List Str) (sp : Sp) : Prop where
  len : ∀ vs H Q E, sp vs H Q E → vs.length = ps.length
  run : ∀ (A : Around) (outer : List Env) (s : Shared) (H : Hp) (args : Args) (us : List Value) (vs : List V) (Q : VK) (E : XK), Room k A → Env0 P w K mg base A outer s H → BindsTo s fd args (ps.zip us) → Vals vs us → sp vs H Q E →
    codeAny (model P w) A (.call (.ref f) args) (CR CX outer P w H s Q E) s
theorem Env0.make {P : Program} {w : World} {K : PySem.W.Frag} {mg : Str → Option Value} {base : Heap} {A : Around} {outer : List Env} {s : Shared} {H : Hp} (e : Env0 P w K mg base A outer s H) (C : Addr) (us : List Value) (kw : List (Str × Value)) :
    Env0 P w K mg base (A.under (.builtin "type.__call__" ⟨.ref C :: us, kw⟩)) outer s H := ⟨by first | exact e.frames | (simpa [Around.under, Code.envs, Code.isFrame, pushEnvs] using e.frames), e.mod, e.bs, e.bsz, e.funs, e.frf, e.hok, e.bare⟩
section
variable {X : Cx} {pins : List (Addr × Obj)} {σ : St} {H : Hp} {s s' : Shared}
theorem Inv.env0 (I : Inv X pins σ H s) : Env0 X.prog X.w X.K X.mg X.base X.A X.stack s H :=
  ⟨I.ok.frames, I.ok.mod, I.bs, Nat.le_trans I.ok.bsz I.sz, I.stack, I.stkFree, I.hok, I.bare⟩
theorem Inv.after {Q : VK} {u : Value} (I : Inv X pins σ H s) (h : CE X.stack X.prog X.w H s Q u s') : EP X pins σ Q u s' := by
  obtain ⟨v, H', os, bare, un, hok, r, q⟩ := h
  obtain ⟨hh, g, d, t, os'⟩ := s'
  obtain rfl : os' = s.os := os
  exact ⟨v, H', I.call (h' := hh) (g' := g) (d' := d) (t' := t) (ch := []) un hok bare (fun b z => absurd z (by simp)), r, q⟩
end

def tCall (sp : Sp) (dvs : List V) (E : XK) (t : TA) : TE := fun σ H Q => t σ H fun vs H1 => sp (vs ++ dvs) H1 Q E
def tMeth (C : Addr) (m : Str) (sp : Sp) (dvs : List V) (E : XK) (ta : TE) (t : TA) : TE := fun σ H Q => ta σ H fun x H1 => ∃ a dx fs, x = .ref a ∧ H1 a = some (.ins C dx fs) ∧ fs.lookup m = none ∧
  t σ H1 fun vs H2 => sp (x :: (vs ++ dvs)) H2 Q E
def tMake (C : Addr) (sp : Sp) (dvs : List V) (E : XK) (t : TA) : TE := fun σ H Q => t σ H fun vs H1 => ∀ x dx, H1 x = none → H1 dx = none → dx ≠ x →
  sp (.ref x :: (vs ++ dvs)) (upd (upd H1 dx (.own x)) x (.ins C dx [])) (fun v H2 => v = .non ∧ Q (.ref x) H2) E

def Binds (K : PySem.W.Frag) (fd : FuncData) (ps : List Str) (ds : List Value) : Prop :=
  ∀ (s : Shared) (us : List Value), K.In s.heap → (us ++ ds).length = ps.length → BindsTo s fd ⟨us, []⟩ (ps.zip (us ++ ds))
theorem Binds.all {K : PySem.W.Frag} {fd : FuncData} {ps : List Str} (h : ∀ us : List Value, us.length = ps.length → bindArgs fd ⟨us, []⟩ = pure (ps.zip us)) : Binds K fd ps [] := fun s us _ hl => by
  rw [List.append_nil] at hl ⊢
  exact .of_eq (h us hl)

def Passes (CX : CXT) (X : Cx) (E : XK) : Prop := ∀ (pins : List (Addr × Obj)) (σ : St) (H : Hp) (s : Shared) (e : Value) (s' : Shared), Inv X pins σ H s → CX X.stack H s E e s' → X.xe e s'

section
variable {X : Cx} {CX : CXT} {k : Nat} {f C : Addr} {fd : FuncData} {ps : List Str} {sp : Sp} {dvs : List V} {ds : List Value} {E : XK} {x m : Str} {p pos apos : Pos} {e o : Expr} {es : List Expr} {ta : TE} {t : TA}

theorem run_fn {pins : List (Addr × Obj)} {σ : St} {H : Hp} {s : Shared} {Q : VK} {us : List Value} {vs : List V} (F : FnOk X.prog X.w X.K X.mg X.base CX k f fd ps sp) (hr : Room k X.A) (hb : Binds X.K fd ps ds) (hd : Vals dvs ds) (hx : Passes CX X E)
    (I : Inv X pins σ H s) (r : Vals vs us) (h : sp (vs ++ dvs) H Q E) : wpAny (model X.prog X.w) X.A (call (.ref f) us) (EP X pins σ Q) X.xe s := by
  have r2 : Vals (vs ++ dvs) (us ++ ds) := r.append hd
  have hl : (us ++ ds).length = ps.length := by rw [← r2.length]; exact F.len _ _ _ _ h
  refine wpAny_call (codeAny_mono (F.run X.A X.stack s H ⟨us, []⟩ (us ++ ds) (vs ++ dvs) Q E hr I.env0 (hb s us I.kIn hl) r2 h) fun r s' hq => ?_)
  cases r with
  | error e => exact hx pins σ H s e s' I hq
  | ok fl =>
    cases fl with
    | ret u => exact I.after hq
    | next => exact False.elim hq
    | brk => exact False.elim hq
    | cont => exact False.elim hq

theorem pe_call (F : FnOk X.prog X.w X.K X.mg X.base CX k f fd ps sp) (hr : Room k X.A) (hg : Gl X x) (hm : X.mg x = some (.ref f)) (hk : PySem.W.keepIn X.K (.ref f) = true) (hb : Binds X.K fd ps ds) (hd : Vals dvs ds) (hx : Passes CX X E)
    (ha : PA X (e :: es) t) (hdb : (x == ("__debug__" : Str)) = false := by decide) (he : starEach (e :: es) X.env = (false, eval e X.env) :: starEach es X.env := by rfl) (hpl : (backTo pos (starEach es X.env)).any (·.1) = false := by rfl) :
    PE X (.Call (.Name x p) (e :: es) [] pos) (tCall sp dvs E t) := by
  intro pins s σ H Q I h
  refine wpAny_Call_Name_kw (ld_glob I hg hm ?_ hdb)
  refine PySem.W.callWith_K (h₀ := X.base) I.ok.mod.kin hk (thn (ha pos pins s σ H _ I h) fun us s1 ⟨vs, H1, I1, r, q⟩ => ⟨I1.kIn, ?_⟩) he hpl
  exact run_fn F hr hb hd hx I1 r q
theorem pe_meth {pl : Sem Bool} (he : PE X o ta) (c : Cls X.K C) (hm : Meth X.K C m f) (F : FnOk X.prog X.w X.K X.mg X.base CX k f fd ps sp) (hr : Room k X.A) (hb : Binds X.K fd ps ds) (hd : Vals dvs ds) (hx : Passes CX X E) (ha : PA X (e :: es) t)
    (hst : starEach (e :: es) X.env = (false, eval e X.env) :: starEach es X.env := by rfl) (hpl : (backTo pos (starEach es X.env)).any (·.1) = false := by rfl)
    (ht : eval (.Call (.Attribute o m apos) (e :: es) [] pos) X.env = (do
      let ov ← eval o X.env
      standAt apos.atName
      let (f, first) ← holding [ov] (getMethod ov m pl)
      callWith pos f first (backTo pos (starEach (e :: es) X.env)) (backToKw pos (keywordEach [] X.env))) := by rfl) :
    PE X (.Call (.Attribute o m apos) (e :: es) [] pos) (tMeth C m sp dvs E ta t) := by
  intro pins s σ H Q I h
  refine PySem.W.methodCall_KW (pl := pl) (thn (he pins s σ H _ I h) fun u s1 ⟨x, H1, I1, rx, a, dx, fs, ex, ea, l, q⟩ => ?_) ht
  subst ex
  obtain rfl : u = Value.ref a := rx
  refine getmeth_ok I1 ea c hm l ?_
  refine PySem.W.callWith_K (first := [.ref a]) (h₀ := X.base) I.ok.mod.kin hm.kp (thn (ha pos pins s1 σ H1 _ I1 q) fun us s2 ⟨vs, H2, I2, r, q2⟩ => ⟨I2.kIn, ?_⟩) hst hpl
  exact run_fn (us := .ref a :: us) (vs := .ref a :: vs) F hr hb hd hx I2 (.cons rfl r) q2
theorem pe_meth0 {pl : Sem Bool} (he : PE X o ta) (c : Cls X.K C) (hm : Meth X.K C m f) (F : FnOk X.prog X.w X.K X.mg X.base CX k f fd ps sp) (hr : Room k X.A) (hb : Binds X.K fd ps ds) (hd : Vals dvs ds) (hx : Passes CX X E)
    (ht : eval (.Call (.Attribute o m apos) [] [] pos) X.env = (do
      let ov ← eval o X.env
      standAt apos.atName
      let (f, first) ← holding [ov] (getMethod ov m pl)
      callWith pos f first (backTo pos (starEach [] X.env)) (backToKw pos (keywordEach [] X.env))) := by rfl) :
    PE X (.Call (.Attribute o m apos) [] [] pos) (tMeth C m sp dvs E ta tNil) := by
  intro pins s σ H Q I h
  refine PySem.W.methodCall_KW (pl := pl) (thn (he pins s σ H _ I h) fun u s1 ⟨x, H1, I1, rx, a, dx, fs, ex, ea, l, q⟩ => ?_) ht
  subst ex
  obtain rfl : u = Value.ref a := rx
  refine getmeth_ok I1 ea c hm l ?_
  exact PySem.W.callWith_K0 (first := [.ref a]) I1.kIn hm.kp (run_fn (us := [.ref a]) (vs := [.ref a]) F hr hb hd hx I1 (.cons rfl .nil) q)

structure Mk (K : PySem.W.Frag) (C f : Addr) : Prop where
  makes : PySem.W.makesIn K C = true
  init : PySem.W.findIn K (.ref C) "__init__" = some (some (.ref f))
  fn : PySem.W.isFn K (.ref f) = true
  kp : PySem.W.keepIn K (.ref C) = true

theorem run_make {pins : List (Addr × Obj)} {σ : St} {H : Hp} {s : Shared} {Q : VK} {us : List Value} {vs : List V} (M : Mk X.K C f) (F : FnOk X.prog X.w X.K X.mg X.base CX k f fd ps sp) (hr : Room (k + 1) X.A) (hb : Binds X.K fd ps ds) (hd : Vals dvs ds)
    (hx : Passes CX X E) (I : Inv X pins σ H s) (r : Vals vs us)
    (h : ∀ x dx, H x = none → H dx = none → dx ≠ x → sp (.ref x :: (vs ++ dvs)) (upd (upd H dx (.own x)) x (.ins C dx [])) (fun v H2 => v = .non ∧ Q (.ref x) H2) E) :
    wpAny (model X.prog X.w) X.A (call (.ref C) us) (EP X pins σ Q) X.xe s := by
  have hq := h (s.heap.objs.size + 1) s.heap.objs.size (I.hok.fresh (Nat.le_succ _)) (I.hok.fresh (Nat.le_refl _)) (Nat.ne_of_lt (Nat.lt_succ_self _))
  have I2 := Inv.made (C := C) I
  have r2 : Vals (V.ref (s.heap.objs.size + 1) :: (vs ++ dvs)) (Value.ref (s.heap.objs.size + 1) :: (us ++ ds)) := .cons rfl (r.append hd)
  have hl : (Value.ref (s.heap.objs.size + 1) :: us ++ ds).length = ps.length := by
    have e := r2.length
    rw [F.len _ _ _ _ hq] at e
    exact e.symm
  refine wpAny_call (make_map (f := f) I.kIn M.makes M.init (beq_iff_eq.mp M.fn) (codeAny_mono (F.run _ X.stack _ _ ⟨Value.ref (s.heap.objs.size + 1) :: us, []⟩ (Value.ref (s.heap.objs.size + 1) :: (us ++ ds)) _ _ E (hr.make C us [])
    (I2.env0.make C us []) (hb _ (Value.ref (s.heap.objs.size + 1) :: us) I2.kIn hl) r2 hq) fun r s' hq' => ?_))
  cases r with
  | error e => exact hx pins σ _ _ e s' I2 hq'
  | ok fl =>
    cases fl with
    | ret u =>
      obtain ⟨v, H', I3, rv, ev, q3⟩ := I2.after hq'
      subst ev
      exact ⟨rv, ⟨V.ref (s.heap.objs.size + 1), H', I3, rfl, q3⟩⟩
    | next => exact False.elim hq'
    | brk => exact False.elim hq'
    | cont => exact False.elim hq'
theorem pe_make (M : Mk X.K C f) (F : FnOk X.prog X.w X.K X.mg X.base CX k f fd ps sp) (hr : Room (k + 1) X.A) (hg : Gl X x) (hm : X.mg x = some (.ref C)) (hb : Binds X.K fd ps ds) (hd : Vals dvs ds) (hx : Passes CX X E)
    (ha : PA X (e :: es) t) (hdb : (x == ("__debug__" : Str)) = false := by decide) (he : starEach (e :: es) X.env = (false, eval e X.env) :: starEach es X.env := by rfl) (hpl : (backTo pos (starEach es X.env)).any (·.1) = false := by rfl) :
    PE X (.Call (.Name x p) (e :: es) [] pos) (tMake C sp dvs E t) := by
  intro pins s σ H Q I h
  refine wpAny_Call_Name_kw (ld_glob I hg hm ?_ hdb)
  refine PySem.W.callWith_K (h₀ := X.base) I.ok.mod.kin M.kp (thn (ha pos pins s σ H _ I h) fun us s1 ⟨vs, H1, I1, r, q⟩ => ⟨I1.kIn, ?_⟩) he hpl
  exact run_make M F hr hb hd hx I1 r q
theorem pe_make0 (M : Mk X.K C f) (F : FnOk X.prog X.w X.K X.mg X.base CX k f fd ps sp) (hr : Room (k + 1) X.A) (hg : Gl X x) (hm : X.mg x = some (.ref C)) (hb : Binds X.K fd ps ds) (hd : Vals dvs ds) (hx : Passes CX X E)
    (hdb : (x == ("__debug__" : Str)) = false := by decide) : PE X (.Call (.Name x p) [] [] pos) (tMake C sp dvs E tNil) := by
  intro pins s σ H Q I h
  refine wpAny_Call_Name_kw (ld_glob I hg hm ?_ hdb)
  exact PySem.W.callWith_K0 I.kIn M.kp (run_make (us := []) M F hr hb hd hx I .nil h)
end

section
variable {X : Cx} {CX : CXT} {k : Nat} {f C : Addr} {fd : FuncData} {ps ks : List Str} {sp : Sp} {E : XK} {x m : Str} {p pos apos kpos : Pos} {e o : Expr} {es : List Expr} {kws : List Keyword} {te ta : TE} {t tk : TA} {nm : Option Str}
structure KBinds (K : PySem.W.Frag) (fd : FuncData) (ps ks : List Str) (g : List Value → List Value → List Value) (gV : List V → List V → List V) : Prop where
  to : ∀ (s : Shared) (us ws : List Value), K.In s.heap → (g us ws).length = ps.length → BindsTo s fd ⟨us, ks.zip ws⟩ (ps.zip (g us ws))
  rel : ∀ {vs : List V} {us : List Value} {zs : List V} {ws : List Value}, Vals vs us → Vals zs ws → Vals (gV vs zs) (g us ws)
variable {g : List Value → List Value → List Value} {gV : List V → List V → List V}
end

structure FnScope (N P : List Str) (sc : Scope) : Prop where
  kind : sc.kind = .function
  co : sc.isCoroutine = false
  gen : sc.isGenerator = false
  nd : N.Nodup
  pre : N.take P.length = P
  par : ∀ x ∈ P, sc.names.lookup x = some .local ∨ sc.names.lookup x = some .cell
  nofree : ∀ y ∈ sc.names, y.2 ≠ .free

theorem bindL_out {kindOf : Str → Option NameKind} {x : Str} : ∀ {binds : List (Str × Value)} {m : Str → Option Value}, (∀ v, (x, v) ∉ binds) → bindL kindOf binds m x = m x
  | [], _, _ => rfl
  | (n, v) :: r, m, h => by
    unfold bindL
    rw [bindL_out fun w hw => h w (List.mem_cons_of_mem _ hw)]
    split
    · have : x ≠ n := by rintro rfl; exact h v List.mem_cons_self
      simp [this]
    · rfl
theorem bindC_out {kindOf : Str → Option NameKind} {x : Str} : ∀ {binds : List (Str × Value)} {m : Str → Option Value}, (∀ v, (x, v) ∉ binds) → bindC kindOf binds m x = m x
  | [], _, _ => rfl
  | (n, v) :: r, m, h => by
    unfold bindC
    rw [bindC_out fun w hw => h w (List.mem_cons_of_mem _ hw)]
    split
    · rfl
    · have : x ≠ n := by rintro rfl; exact h v List.mem_cons_self
      simp [this]
theorem bindL_get {kindOf : Str → Option NameKind} {x : Str} {v : Value} : ∀ {P : List Str} {vs : List Value} {i : Nat} {m : Str → Option Value}, P.Nodup → P[i]? = some x → vs[i]? = some v → kindOf x = some .local →
    bindL kindOf (P.zip vs) m x = some v
  | [], _, _, _, _, h, _, _ => by simp at h
  | _ :: _, [], _, _, _, _, h, _ => by simp at h
  | p :: P, w :: vs, 0, m, nd, h1, h2, hk => by
    simp at h1 h2; subst h1; subst h2
    show bindL kindOf ((p, w) :: P.zip vs) m p = _
    unfold bindL
    rw [bindL_out fun v hv => (List.nodup_cons.mp nd).1 (List.of_mem_zip hv).1, if_pos hk]
    simp
  | p :: P, w :: vs, i + 1, m, nd, h1, h2, hk => by
    show bindL kindOf ((p, w) :: P.zip vs) m x = _
    unfold bindL
    exact bindL_get (i := i) (List.nodup_cons.mp nd).2 (by simpa using h1) (by simpa using h2) hk
theorem bindC_get {kindOf : Str → Option NameKind} {x : Str} {v : Value} : ∀ {P : List Str} {vs : List Value} {i : Nat} {m : Str → Option Value}, P.Nodup → P[i]? = some x → vs[i]? = some v → kindOf x ≠ some .local →
    bindC kindOf (P.zip vs) m x = some v
  | [], _, _, _, _, h, _, _ => by simp at h
  | _ :: _, [], _, _, _, _, h, _ => by simp at h
  | p :: P, w :: vs, 0, m, nd, h1, h2, hk => by
    simp at h1 h2; subst h1; subst h2
    show bindC kindOf ((p, w) :: P.zip vs) m p = _
    unfold bindC
    rw [bindC_out fun v hv => (List.nodup_cons.mp nd).1 (List.of_mem_zip hv).1, if_neg hk]
    simp
  | p :: P, w :: vs, i + 1, m, nd, h1, h2, hk => by
    show bindC kindOf ((p, w) :: P.zip vs) m x = _
    unfold bindC
    exact bindC_get (i := i) (List.nodup_cons.mp nd).2 (by simpa using h1) (by simpa using h2) hk

def start (N : List Str) (vs : List V) : St := vs.map some ++ List.replicate (N.length - vs.length) none

def cxOf (CX : CXT) (P : Program) (w : World) (K : PySem.W.Frag) (mg : Str → Option Value) (base : Heap) (N : List Str) (qual : Str) (scope : Scope) (f : Addr) (cd : Value) (A : Around) (outer : List Env) (s : Shared) (H : Hp) (E : XK) : Cx where
  prog := P
  w := w
  K := K
  mg := mg
  base := base
  A := A.deeper (envOfC qual scope s.heap.objs.size f cd)
  N := N
  s₀ := s
  H₀ := H
  env := envOfC qual scope s.heap.objs.size f cd
  outer := outer
  stack := envOfC qual scope s.heap.objs.size f cd :: outer
  ex := []
  calm := true
  fn := fun _ => true
  pn := []
  xe := fun e s' => wpAny (model P w) (A.deeper (envOfC qual scope s.heap.objs.size f cd)) (leaving (envOfC qual scope s.heap.objs.size f cd) e) (fun _ s'' => CX outer H s E e s'') (fun e' s'' => CX outer H s E e' s'') s'

theorem cell_has {sc : Scope} {n : Nat} {x : Str} (h : sc.names.lookup x = some .cell) : ∃ c, (cellsFrom n sc.names []).lookup x = some c := by
  have q := PySem.W.cellsFrom_some sc.names n [] (.inl h)
  exact Option.isSome_iff_exists.mp q

theorem inv_start {CX : CXT} {P : Program} {w : World} {K : PySem.W.Frag} {mg : Str → Option Value} {base : Heap} {N ps : List Str} {qual : Str} {scope : Scope} {f : Addr} {cd : Value} {A : Around} {outer : List Env} {s s1 : Shared} {H : Hp} {E : XK} {us : List Value} {vs : List V}
    (S : FnScope N ps scope) (hd : A.handled = none) (e0 : Env0 P w K mg base A outer s H) (hl : vs.length = ps.length) (r : Vals vs us)
    (x : InCallC s s.heap.objs.size (bindL (envOfC qual scope s.heap.objs.size f cd).kindOf (ps.zip us) fun _ => none) (cellsFrom (s.heap.objs.size + 1) scope.names []) (bindC (envOfC qual scope s.heap.objs.size f cd).kindOf (ps.zip us) fun _ => none) s1) :
    Inv (cxOf CX P w K mg base N qual scope f cd A outer s H E) [] (start N vs) H s1 := by
  have hpl : ps.length ≤ N.length := by have := congrArg List.length S.pre; rw [List.length_take] at this; omega
  obtain ⟨h1, tk, rfl, hk⟩ := x.done
  have noA : ∀ b : Addr, b ∉ (cxOf CX P w K mg base N qual scope f cd A outer s H E).ex := fun b z => absurd (show b ∈ ([] : List Addr) from z) (by simp)
  refine ⟨⟨e0.mod, S.kind, rfl, rfl, Nat.le_refl _, fun y z c h1 h2 => ?_, fun y hy => ?_, fun y c _ h => ?_, fun _ => hd, Around.frames_deeper e0.frames, .inr ⟨rfl, rfl⟩, fun b z => absurd z (noA b), e0.bs, e0.bsz, fun b _ _ => noA b, fun b z => absurd z (noA b), e0.funs, e0.frf⟩,
    rfl, e0.bare, Un.kept hk, ⟨_, x.toInCall.ns, fun i y v h1 h2 h3 => ?_⟩, fun y c h => ⟨_, x.cell y c h⟩, e0.hok.fresh (Nat.le_refl _), fun y c h => ?_, fun p hp => absurd (show p ∈ ([] : List (Addr × Obj)) from hp) (by simp), e0.hok.kept hk, ?_⟩
  · exact name_of_addr x.apart (PySem.mem_of_lookup h1) (PySem.mem_of_lookup h2)
  · have hy : scope.names.lookup y = some .cell ∨ scope.names.lookup y = some .free := hy
    rcases hy with hy | hy
    · exact cell_has hy
    · exact absurd rfl (S.nofree _ (PySem.mem_of_lookup hy))
  · exact Nat.le_of_lt (x.above y c (PySem.mem_of_lookup h))
  · have hi : i < vs.length := by
      unfold start at h2
      by_cases hi : i < vs.length
      · exact hi
      · rw [List.getElem?_append_right (by simpa using hi)] at h2
        rw [List.getElem?_replicate] at h2
        split at h2 <;> cases h2
    have ha : vs[i]? = some v := by
      unfold start at h2
      rw [List.getElem?_append_left (by simpa using hi), List.getElem?_map] at h2
      cases e : vs[i]? with
      | none => rw [e] at h2; cases h2
      | some a => rw [e] at h2; cases h2; rfl
    obtain ⟨u, hu, rv⟩ := r.get ha
    have hp : ps[i]? = some y := by
      rw [← S.pre, List.getElem?_take_of_lt (by omega)]; exact h1
    have ndP : ps.Nodup := by rw [← S.pre]; exact S.nd.sublist (List.take_sublist _ _)
    refine ⟨u, rv, ?_⟩
    rcases S.par y (List.mem_of_getElem? hp) with k | k
    · exact .inl ⟨k, bindL_get ndP hp hu k⟩
    · obtain ⟨c, e⟩ := cell_has (n := s.heap.objs.size + 1) k
      refine .inr ⟨.inl k, c, e, ?_⟩
      have q := x.cell y c e
      rw [bindC_get ndP hp hu (by show scope.names.lookup y ≠ _; rw [k]; decide)] at q
      exact q
  · exact e0.hok.fresh (Nat.le_of_lt (x.above y c (PySem.mem_of_lookup h)))
  · unfold start
    show _ = N.length
    rw [List.length_append, List.length_map, List.length_replicate]
    omega

theorem fn_of {CX : CXT} {P : Program} {w : World} {K : PySem.W.Frag} {mg : Str → Option Value} {base : Heap} {k : Nat} {f : Addr} {name qual : Str} {params : Arguments} {body : List Stmt} {scope : Scope} {dV kV doc pm cdv ct oc : Value} {an od : Option Addr}
    {osl : Array (Option Value)} {N ps : List Str} {sp : Sp} (lk : K.lookup f = some ⟨oc, od, .func (PySem.W.fnOf name qual params body scope dV kV doc pm an cdv ct), osl⟩) (hcd : PySem.W.codeIn K cdv qual = true) (S : FnScope N ps scope)
    (len : ∀ vs H Q E, sp vs H Q E → vs.length = ps.length)
    (hbody : ∀ (A : Around) (outer : List Env) (s : Shared) (H : Hp) (vs : List V) (Q : VK) (E : XK), Room k (A.deeper (envOfC qual scope s.heap.objs.size f cdv)) → sp vs H Q E →
      ∃ t, PSs (cxOf CX P w K mg base N qual scope f cdv A outer s H E) body t ∧ t { nx := fun _ H' => Q .non H', rt := Q } (start N vs) H) :
    FnOk P w K mg base CX (k + 1) f (PySem.W.fnOf name qual params body scope dV kV doc pm an cdv ct) ps sp := by
  refine ⟨len, fun A outer s H args us vs Q E hr e0 hb r hsp => ?_⟩
  have hl := len _ _ _ _ hsp
  have KX : K.In s.heap := e0.mod.kin.keeps fun b o e => (e0.bs b o e).1
  have lim : s.heap.NoLimit := e0.mod.nolimit.keeps fun b o e => (e0.bs b o e).1
  have hkind : ∀ y ∈ ps.zip us, scope.names.lookup y.1 = some .local ∨ (scope.names.lookup y.1 = some .cell ∧ ((cellsFrom (s.heap.objs.size + 1) scope.names []).lookup y.1).isSome = true) := fun ⟨n, v⟩ hy => by
    rcases S.par n (List.of_mem_zip hy).1 with q | q
    · exact .inl q
    · exact .inr ⟨q, PySem.W.cellsFrom_some _ _ _ (.inl q)⟩
  refine codeAny_call_function hr.depth (KX _ _ lk) rfl S.co S.gen rfl (PySem.W.codeRec_of KX hcd) (hb _ _ _ _ ?_)
  refine wpAny_newFunctionEnv_cells S.kind hkind fun env he s1 x => ?_
  subst he
  refine ⟨lim.keeps x.toInCall.keep, codeAny_func ?_⟩
  obtain ⟨t, ht, hq⟩ := hbody A outer s H vs Q E (hr.deeper _) hsp
  have I : Inv (cxOf CX P w K mg base N qual scope f cdv A outer s H E) [] (start N vs) H s1 := inv_start S hr.hd e0 hl r x
  refine wpAny_mono (ht [] s1 (start N vs) H _ I hq) (fun fl s' hs => ?_) fun e s' hs => hs
  have fin : ∀ {σ' : St} {H' : Hp} {v : V} {u : Value}, Inv (cxOf CX P w K mg base N qual scope f cdv A outer s H E) [] σ' H' s' → RelV v u → Q v H' → CE outer P w H s Q u s' :=
    fun {σ' H' v u} J rv q => ⟨v, H', J.os, J.bare, J.base, J.hok, rv, q⟩
  cases fl with
  | ret u =>
    obtain ⟨v, σ', H', J, rv, q⟩ := hs
    exact fin J rv q
  | next =>
    obtain ⟨σ', H', J, q⟩ := hs
    exact fin (v := V.non) (u := Value.none) J rfl q
  | brk =>
    obtain ⟨_, _, _, q⟩ := hs
    exact False.elim q
  | cont =>
    obtain ⟨_, _, _, q⟩ := hs
    exact False.elim q
end L2

namespace L2
open PySem PySem.Spec PyProof.Rows
section
variable {X : Cx} {x : Str} {p pos : Pos} {e : Expr} {es : List Expr} {t : TA} {id T : String} {r : List V → Hp → VK → Prop}

def tCB (r : List V → Hp → VK → Prop) (t : TA) : TE := fun σ H Q => t σ H fun vs H1 => r vs H1 Q
theorem pe_callB (hc : CallR X (.builtin id) r) (hg : Gl X x) (hm : X.mg x = none) (hv : bootBuiltins x = some (.builtin id)) (ha : PA X (e :: es) t) (hn : x ≠ "__name__" := by decide) (hdb : (x == ("__debug__" : Str)) = false := by decide)
    (he : starEach (e :: es) X.env = (false, eval e X.env) :: starEach es X.env := by rfl) (hpl : (backTo pos (starEach es X.env)).any (·.1) = false := by rfl) : PE X (.Call (.Name x p) (e :: es) [] pos) (tCB r t) := by
  intro pins s σ H Q I h
  refine wpAny_Call_Name_kw (ld_blt I hg hm hv ?_ hn hdb)
  exact PyProof.Rows.callWith_builtin1 (thn (ha pos pins s σ H _ I h) fun us s1 ⟨vs, H1, I1, r1, q1⟩ => hc pins s1 σ H1 vs us Q I1 r1 q1) he hpl
theorem pe_callTy (hc : CallR X (.type T) r) (hg : Gl X x) (hm : X.mg x = none) (hv : bootBuiltins x = some (.type T)) (ha : PA X (e :: es) t) (hn : x ≠ "__name__" := by decide) (hdb : (x == ("__debug__" : Str)) = false := by decide)
    (he : starEach (e :: es) X.env = (false, eval e X.env) :: starEach es X.env := by rfl) (hpl : (backTo pos (starEach es X.env)).any (·.1) = false := by rfl) : PE X (.Call (.Name x p) (e :: es) [] pos) (tCB r t) := by
  intro pins s σ H Q I h
  refine wpAny_Call_Name_kw (ld_blt I hg hm hv ?_ hn hdb)
  exact PyProof.Rows.callWith_type1 (thn (ha pos pins s σ H _ I h) fun us s1 ⟨vs, H1, I1, r1, q1⟩ => hc pins s1 σ H1 vs us Q I1 r1 q1) he hpl
end
end L2

namespace HT
open PySem PyProof.Rows

section
open PySem.SeqAt
open PySem.AutoSeq1 (wpAny_loadPart')
open PySem.MeetsSeq PySem.MeetsSeq2 PySem.MeetsSeq3

end

section
variable {prog : Program} {w : World} {A : Around} {E : Value → Shared → Prop} {s : Shared}

def sIx (n d : Nat) : Option Int → Nat
  | none => d
  | some v => if v < 0 then (v + (n : Int)).toNat else min v.toNat n
theorem sIx_le (n d : Nat) (hd : d ≤ n) (o : Option Int) : sIx n d o ≤ n := by
  cases o with
  | none => exact hd
  | some v =>
    show (if v < 0 then (v + (n : Int)).toNat else min v.toNat n) ≤ n
    by_cases hv : v < 0
    · rw [if_pos hv]; omega
    · rw [if_neg hv]; exact Nat.min_le_right _ _
end
end HT

namespace L2
open PySem PySem.Spec PyProof.Rows

abbrev TO := St → Hp → (Option Int → Hp → Prop) → Prop
def PO (X : Cx) (e : Option Expr) (t : TO) : Prop :=
  ∀ (pins : List (Addr × Obj)) (s : Shared) (σ : St) (H : Hp) (Q : Option Int → Hp → Prop), Inv X pins σ H s → t σ H Q →
    wpAny (model X.prog X.w) X.A (evalPart e X.env) (fun u s' => ∃ o H', Inv X pins σ H' s' ∧ IsPart u o ∧ Q o H') X.xe s
def tNoPart : TO := fun _ H Q => Q none H
def tPart (t : TE) : TO := fun σ H Q => t σ H fun x H1 => ∃ i, x = .int i ∧ Q (some i) H1

section
variable {X : Cx} {e : Expr} {te : TE} {lo hi : Option Expr} {tl th : TO} {pos p2 : Pos}

theorem po_none : PO X none tNoPart := by
  intro pins s σ H Q I h
  rw [evalPart_none]
  exact wpAny_pure ⟨none, H, I, .none, h⟩
theorem po_some (h : PE X e te) : PO X (some e) (tPart te) := by
  intro pins s σ H Q I hw
  rw [evalPart_some]
  refine thn (h pins s σ H _ I hw) fun u s1 ⟨x, H1, I1, r1, q1⟩ => ?_
  obtain ⟨i, rfl, q⟩ := q1
  obtain ⟨t, rfl⟩ := r1
  exact ⟨some i, H1, I1, .int i t, q⟩

def SlR (X : Cx) (r : V → Option Int → Option Int → Hp → VK → Prop) : Prop :=
  ∀ (pins : List (Addr × Obj)) (s : Shared) (σ : St) (H : Hp) (x : V) (v vl vu : Value) (lo hi : Option Int) (sl : Addr) (Q : VK), Inv X pins σ H s → RelV x v → s.heap.IsSliceOf sl vl vu .none → IsPart vl lo → IsPart vu hi → r x lo hi H Q →
    ∃ T id, typeLookup (.type T) "__getitem__" = pure (some (.builtin id)) ∧ s.TypeIs v T ∧ wpAny (model X.prog X.w) X.A (getItem v (.ref sl)) (EP X pins σ Q) X.xe s
def tSl (r : V → Option Int → Option Int → Hp → VK → Prop) (te : TE) (tl th : TO) : TE := fun σ H Q => te σ H fun x H1 => tl σ H1 fun l H2 => th σ H2 fun u H3 => r x l u H3 Q
theorem pe_slice {r : V → Option Int → Option Int → Hp → VK → Prop} (hr : SlR X r) (he : PE X e te) (hl : PO X lo tl) (hu : PO X hi th) : PE X (.Subscript e (.Slice lo hi none p2) pos) (tSl r te tl th) := by
  intro pins s σ H Q I h
  refine Subscript_ (thn (he pins s σ H _ I h) fun v s1 ⟨x, H1, I1, r1, q1⟩ => ?_)
  refine wpAny_Slice (thn (hl pins s1 σ H1 _ I1 q1) fun vl s2 ⟨l, H2, I2, pl, q2⟩ => thn (hu pins s2 σ H2 _ I2 q2) fun vu s3 ⟨u, H3, I3, pu, q3⟩ => ?_)
  rw [evalPart_none]
  refine wpAny_pure ?_
  have I4 : Inv X pins σ H3 { s3 with heap := s3.heap.push { cls := .type "slice", data := .fields #[vl, vu, .none] } } := I3.kept (t' := s3.toks) fun b ob q => Heap.get?_push_of_some _ q
  obtain ⟨T, id, hT, ht, hg⟩ := hr pins { s3 with heap := s3.heap.push { cls := .type "slice", data := .fields #[vl, vu, .none] } } σ H3 x v vl vu l u s3.heap.objs.size Q I4 r1 (Heap.IsSliceOf.new ..) pl pu q3
  show wpAny (model X.prog X.w) X.A (subscriptTail e (.Slice lo hi none p2) v (.ref s3.heap.objs.size)) (EP X pins σ Q) X.xe { s3 with heap := s3.heap.push { cls := .type "slice", data := .fields #[vl, vu, .none] } }
  exact tail_any (ops := [.ref s3.heap.objs.size, v]) ht hT hg (by with_unfolding_all rfl)

def cutV (xs : List V) (lo hi : Option Int) : List V := (xs.drop (HT.sIx xs.length 0 lo)).take (HT.sIx xs.length xs.length hi - HT.sIx xs.length 0 lo)
theorem cutV_length (xs : List V) (lo hi : Option Int) : (cutV xs lo hi).length ≤ xs.length := by
  unfold cutV
  rw [List.length_take, List.length_drop]
  omega
end
end L2

namespace L2
open PySem PySem.Spec PyProof.Rows

def ixN (n : Nat) (i : Int) : Option Nat := if 0 ≤ i then (if i < n then some i.toNat else none) else if -(n : Int) ≤ i then some (i + n).toNat else none
def atI {α : Type} (xs : List α) (i : Int) : Option α := (ixN xs.length i).bind fun j => xs[j]?
theorem ixN_seq {n : Nat} {i : Int} {j : Nat} (h : ixN n i = some j) : seqIndex? i n = some j ∧ j < n ∧ -(n : Int) ≤ i ∧ i < n := by
  unfold ixN at h
  by_cases h0 : 0 ≤ i
  · rw [if_pos h0] at h
    by_cases h1 : i < n
    · rw [if_pos h1] at h
      have e : i.toNat = j := Option.some.inj h
      exact ⟨by rw [seqIndex_of h0 h1, e], by omega, by omega, h1⟩
    · rw [if_neg h1] at h; cases h
  · rw [if_neg h0] at h
    by_cases h1 : -(n : Int) ≤ i
    · rw [if_pos h1] at h
      have e : (i + n).toNat = j := Option.some.inj h
      exact ⟨by rw [seqIndex_neg (by omega) h1, e], by omega, h1, by omega⟩
    · rw [if_neg h1] at h; cases h
theorem atI_get {α : Type} {xs : List α} {i : Int} {v : α} (h : atI xs i = some v) : ∃ j, seqIndex? i xs.length = some j ∧ xs[j]? = some v ∧ j < xs.length ∧ -(xs.length : Int) ≤ i ∧ i < xs.length := by
  unfold atI at h
  cases e : ixN xs.length i with
  | none => rw [e] at h; cases h
  | some j =>
    rw [e] at h
    obtain ⟨h1, h2, h3, h4⟩ := ixN_seq e
    exact ⟨j, h1, h, h2, h3, h4⟩
theorem atI_nat {α : Type} {xs : List α} {j : Nat} {v : α} (h : xs[j]? = some v) : atI xs (j : Int) = some v := by
  have hj : j < xs.length := (List.getElem?_eq_some_iff.mp h).1
  have e : ixN xs.length (j : Int) = some j := by
    unfold ixN
    rw [if_pos (by omega), if_pos (by omega)]; simp
  unfold atI; rw [e]; exact h
def PlainIx (b : Expr) : Prop := ∀ o i, subscripted b false o i = operate [o, i] (getItem o i)
def IxR (X : Cx) (r : R2) : Prop :=
  ∀ (value slice : Expr) (pins : List (Addr × Obj)) (s : Shared) (σ : St) (H : Hp) (x y : V) (v u : Value) (Q : VK), Inv X pins σ H s → RelV x v → RelV y u → r x y H Q →
    subscripted slice false v u = operate [v, u] (getItem v u) → wpAny (model X.prog X.w) X.A (subscriptTail value slice v u) (EP X pins σ Q) X.xe s
def MtR (X : Cx) (id : String) (r : V → List V → Hp → VK → Prop) : Prop :=
  ∀ (pins : List (Addr × Obj)) (s : Shared) (σ : St) (H : Hp) (x : V) (xs : List V) (v : Value) (us : List Value) (Q : VK), Inv X pins σ H s → RelV x v → Vals xs us → r x xs H Q →
    wpAny (model X.prog X.w) X.A (call (.builtin id) (v :: us)) (EP X pins σ Q) X.xe s
section
variable {X : Cx} {a b : Expr} {ta tb : TE} {pos : Pos}
theorem IxR.or {r r' : R2} (h : IxR X r) (h' : IxR X r') : IxR X (fun x y H Q => r x y H Q ∨ r' x y H Q) := by
  intro value slice pins s σ H x y v u Q I rx ry q hs
  rcases q with q | q
  · exact h value slice pins s σ H x y v u Q I rx ry q hs
  · exact h' value slice pins s σ H x y v u Q I rx ry q hs
theorem pe_ix {r : R2} (hr : IxR X r) (ha : PE X a ta) (hb : PE X b tb) (hs : PlainIx b) : PE X (.Subscript a b pos) (tOp r ta tb) := by
  intro pins s σ H Q I h
  exact Subscript_ (binT ha hb I h fun v u s2 x y H2 I2 rx ry q => hr a b pins s2 σ H2 x y v u Q I2 rx ry q (hs _ _))

def rIxL (K : PySem.W.Frag) : R2 := fun x y H Q => ∃ p xs i v, x = .ref p ∧ y = .int i ∧ SqL K H p xs ∧ atI xs i = some v ∧ Q v H
def rIxT (K : PySem.W.Frag) : R2 := fun x y H Q => ∃ p xs i v, x = .ref p ∧ y = .int i ∧ SqT K H p xs ∧ atI xs i = some v ∧ Q v H
def rIxS : R2 := fun x y H Q => ∃ z i c, x = .str z ∧ y = .int i ∧ z.length ≤ sizeLine ∧ atI z.cps.toList i = some c ∧ Q (.str ⟨#[c]⟩) H
theorem ix_list : IxR X (rIxL X.K) := by
  intro value slice pins s σ H x y v u Q I rx ry h hs
  obtain ⟨p, xs, i, z, rfl, rfl, hq, he, q⟩ := h
  cases rx
  obtain ⟨t, rfl⟩ := ry
  obtain ⟨its, r, pl, hz⟩ := I.list hq
  obtain ⟨j, h1, h2, h3, h4, h5⟩ := atI_get he
  obtain ⟨w, ew, rw'⟩ := r.get h2
  have hl := r.length
  have hn := line63
  have fin : EP X pins σ Q w s := ⟨z, H, I, rw', q⟩
  by_cases h0 : 0 ≤ i
  · have hj : i.toNat = j := by
      rw [seqIndex_of h0 h5] at h1
      exact Option.some.inj h1
    exact item_listR pl.isList h0 (by omega) (by rw [hj]; simpa using ew) fin hs
  · have hj : (i + (its.toArray.size : Int)).toNat = j := by
      rw [seqIndex_neg (by omega) h4] at h1
      rw [List.size_toArray, ← hl]
      exact Option.some.inj h1
    exact subscriptTail_builtinR (x := w) pl.isList.typeIs slot_list_getitem.lookup
      (wpAny_getItem_list_neg (Q := fun r s' => r = w ∧ EP X pins σ Q r s') pl.isList (by omega) (by rw [List.size_toArray] <;> omega) (by omega) (by rw [hj]; simpa using ew) ⟨rfl, fin⟩) hs
theorem ix_tup : IxR X (rIxT X.K) := by
  intro value slice pins s σ H x y v u Q I rx ry h hs
  obtain ⟨p, xs, i, z, rfl, rfl, hq, he, q⟩ := h
  cases rx
  obtain ⟨t, rfl⟩ := ry
  obtain ⟨its, r, pl, hz⟩ := I.tuple hq
  obtain ⟨j, h1, h2, h3, h4, h5⟩ := atI_get he
  obtain ⟨w, ew, rw'⟩ := r.get h2
  have hl := r.length
  have hn := line63
  have fin : EP X pins σ Q w s := ⟨z, H, I, rw', q⟩
  exact subscriptTail_builtinR (x := w) pl.typeIs slot_tuple_getitem.lookup
    (getItem_tuple (j := j) (Q := fun r s' => r = w ∧ EP X pins σ Q r s') pl (by omega) (by omega) (by rw [List.size_toArray, ← hl]; exact h1) (by simpa using ew) ⟨rfl, fin⟩) hs
theorem ix_str : IxR X rIxS := by
  intro value slice pins s σ H x y v u Q I rx ry h hs
  obtain ⟨z, i, c, rfl, rfl, hz, he, q⟩ := h
  obtain ⟨t, rfl⟩ := rx
  obtain ⟨t', rfl⟩ := ry
  obtain ⟨j, h1, h2, h3, h4, h5⟩ := atI_get he
  have hl : z.cps.toList.length = z.length := by simp [Str.length]
  rw [hl] at h1 h4 h5
  have hn := line63
  exact tail_any (typeIs_str s z t) slot_str_getitem.lookup (getItem_str (c := c) (by
    have e1 : decide (i < -(2 ^ 63 : Int)) = false := decide_eq_false (by omega)
    have e2 : decide (i ≥ 2 ^ 63) = false := decide_eq_false (by omega)
    rw [e1, e2, Bool.or_false]) (by rw [h1]; simpa using h2) ⟨.str ⟨#[c]⟩, H, I.tok _, ⟨_, rfl⟩, q⟩) hs
def rIx (K : PySem.W.Frag) : R2 := fun x y H Q => rIxL K x y H Q ∨ rIxT K x y H Q ∨ rIxS x y H Q
theorem ix_seq : IxR X (rIx X.K) := ix_list.or (ix_tup.or ix_str)

theorem mapSeq_set (its : List Value) (n j : Nat) (u : Value) : Obj.mapSeq (·.setIfInBounds j u) { cls := .type "list", data := .seq its.toArray n } = { cls := .type "list", data := .seq (its.set j u).toArray n } := by
  simp [Obj.mapSeq]
theorem Inv.lst {pins : List (Addr × Obj)} {σ : St} {H : Hp} {s : Shared} {p : Addr} {xs : List V} (I : Inv X pins σ H s) (h : H p = some (.lst xs)) :
    ∃ (its : List Value) (n : Nat), Vals xs its ∧ s.heap.get? p = some { cls := .type "list", data := .seq its.toArray n } ∧ xs.length ≤ sizeLine := by
  obtain ⟨z, its, n, r, e⟩ := I.hok p _ h
  exact ⟨its, n, r, e, z⟩
theorem Inv.lstUpd {pins : List (Addr × Obj)} {σ : St} {H : Hp} {s : Shared} {p : Addr} {xs ys : List V} {its its' : List Value} {n n' : Nat} {f : Obj → Obj} (I : Inv X pins σ H s) (h : H p = some (.lst xs))
    (ho : s.heap.get? p = some { cls := .type "list", data := .seq its.toArray n }) (hf : f { cls := .type "list", data := .seq its.toArray n } = { cls := .type "list", data := .seq its'.toArray n' }) (r : Vals ys its') (hz : ys.length ≤ sizeLine) (t : Nat) :
    Inv X pins σ (upd H p (.lst ys)) { s with heap := s.heap.update p f, toks := t } := by
  have e : (s.heap.update p f).get? p = some { cls := .type "list", data := .seq its'.toArray n' } := by
    rw [Heap.get?_update_self f ho (by rw [hf] <;> rfl), hf]
  refine I.write (x := p) (e := p) (by rw [h]; trivial) (.inl rfl) (fun b u hb q => (Heap.get?_update_other _ _ (Ne.symm hb)).trans q) ⟨_, e⟩ ?_
  exact ⟨hz, its', n', r, e⟩
def rSetL : V → V → V → Hp → (Hp → Prop) → Prop := fun o i v H Q => ∃ p xs k j, o = .ref p ∧ i = .int k ∧ H p = some (.lst xs) ∧ ixN xs.length k = some j ∧ Q (upd H p (.lst (xs.set j v)))
theorem set_list : PSet X rSetL := by
  intro pins s σ H o i v ov iv u Q I ro ri rv h
  obtain ⟨p, xs, k, j, rfl, rfl, hp, hj, q⟩ := h
  cases ro
  obtain ⟨t, rfl⟩ := ri
  obtain ⟨its, n, r, ho, hz⟩ := I.lst hp
  obtain ⟨h1, h2, h3, h4⟩ := ixN_seq hj
  have hl := r.length
  have hn := line63
  have I' : Inv X pins σ (upd H p (.lst (xs.set j v))) { s with heap := s.heap.update p (Obj.mapSeq (·.setIfInBounds j u)) } :=
    I.lstUpd hp ho (mapSeq_set its n j u) (r.set rv j) (by rw [List.length_set]; exact hz) s.toks
  by_cases h0 : 0 ≤ k
  · have hk : k.toNat = j := by
      rw [seqIndex_of h0 h4] at h1
      exact Option.some.inj h1
    exact PySem.W.ki_setAt ho h0 (by omega) (by rw [List.size_toArray, ← hl]; exact h4) (by rw [hk]; exact ⟨_, I', q⟩)
  · have hk : (k + (its.toArray.size : Int)).toNat = j := by
      rw [seqIndex_neg (by omega) h3] at h1
      rw [List.size_toArray, ← hl]
      exact Option.some.inj h1
    exact PySem.W.ki_setBack ho (by omega) (by rw [List.size_toArray, ← hl]; exact h3) (by omega) (by rw [hk]; exact ⟨_, I', q⟩)

theorem slice_bounds (lo hi : Option Int) (n : Nat) : (sliceBounds lo hi none n).1 = ((HT.sIx n 0 lo : Nat) : Int) ∧ (sliceBounds lo hi none n).2.1 = ((HT.sIx n n hi : Nat) : Int) ∧ (sliceBounds lo hi none n).2.2 = 1 := by
  refine ⟨?_, ?_, rfl⟩
  · cases lo with
    | none => simp [sliceBounds, HT.sIx]
    | some i =>
      simp only [sliceBounds, HT.sIx, Option.getD_none, show (1 : Int) > 0 by decide, if_true]
      by_cases h : i < 0
      · simp only [h, if_true] <;> omega
      · simp only [h, if_false] <;> omega
  · cases hi with
    | none => simp [sliceBounds, HT.sIx]
    | some i =>
      simp only [sliceBounds, HT.sIx, Option.getD_none, show (1 : Int) > 0 by decide, if_true]
      by_cases h : i < 0
      · simp only [h, if_true] <;> omega
      · simp only [h, if_false] <;> omega
theorem slicePick_cut (its : List Value) (lo hi : Option Int) : slicePick its.toArray lo hi none = ((its.drop (HT.sIx its.length 0 lo)).take (HT.sIx its.length its.length hi - HT.sIx its.length 0 lo)).toArray := by
  obtain ⟨h1, h2, h3⟩ := slice_bounds lo hi its.toArray.size
  unfold slicePick
  rw [h1, h2, h3]
  simp only [sliceRange_one, pick_run, List.size_toArray] <;> rfl
def rSlL (K : PySem.W.Frag) : V → Option Int → Option Int → Hp → VK → Prop := fun x lo hi H Q => ∃ a xs, x = .ref a ∧ SqL K H a xs ∧ ∀ p, H p = none → Q (.ref p) (upd H p (.lst (cutV xs lo hi)))
theorem sl_list : SlR X (rSlL X.K) := by
  intro pins s σ H x v vl vu lo hi sl Q I rx hs pl pu h
  obtain ⟨a, xs, rfl, hx, q⟩ := h
  cases rx
  obtain ⟨its, r, ht, hz⟩ := I.list hx
  have hlen := r.length
  refine ⟨"list", _, slot_list_getitem.lookup, ht.isList.typeIs, ?_⟩
  refine wpAny_getItem_list_slice ht.isList hs pl pu .none (by simp) ?_ (by rw [List.size_toArray] <;> omega)
  rw [slicePick_cut, ← hlen]
  refine ⟨.ref s.heap.objs.size, _, I.laid (t' := s.toks) (o := .lst (cutV xs lo hi)) (fun b ob q => Heap.get?_push_of_some _ q) (Nat.le_refl _) ?_, rfl, q _ (I.hok.fresh (Nat.le_refl _))⟩
  exact ⟨Nat.le_trans (cutV_length xs lo hi) hz, _, 0, (r.drop (HT.sIx xs.length 0 lo)).take (HT.sIx xs.length xs.length hi - HT.sIx xs.length 0 lo), Heap.get?_push_size _ rfl⟩

def flatV : V → Bool
  | .non => true
  | .bl _ => true
  | .int _ => true
  | .str _ => true
  | _ => false
def eqV : V → V → Bool
  | .non, .non => true
  | .bl a, .bl b => a == b
  | .bl a, .int b => (if a then 1 else 0) == b
  | .int a, .bl b => a == (if b then 1 else 0)
  | .int a, .int b => a == b
  | .str a, .str b => a == b
  | _, _ => false
theorem eqAt_V {A : Around} {s : Shared} {y x : V} {u v : Value} (ry : RelV y u) (rx : RelV x v) (fy : flatV y = true) (fx : flatV x = true) : SeqAt.EqAt A s u v (eqV y x) := by
  cases y with
  | non =>
    cases ry
    cases x with
    | non => cases rx; exact SeqAt.EqAt.same _
    | bl b => cases rx; exact SeqAt.EqAt.none_bool b
    | int b => obtain ⟨t, rfl⟩ := rx; exact SeqAt.EqAt.none_int b t
    | str b => obtain ⟨t, rfl⟩ := rx; exact SeqAt.EqAt.none_str b t
    | _ => exact absurd (show false = true from fx) Bool.false_ne_true
  | bl a =>
    cases ry
    cases x with
    | non => cases rx; exact SeqAt.EqAt.bool_none a
    | bl b => cases rx; exact SeqAt.EqAt.bool_bool a b
    | int b => obtain ⟨t, rfl⟩ := rx; exact SeqAt.EqAt.bool_int a b t
    | str b => obtain ⟨t, rfl⟩ := rx; exact SeqAt.EqAt.bool_str a b t
    | _ => exact absurd (show false = true from fx) Bool.false_ne_true
  | int a =>
    obtain ⟨t', rfl⟩ := ry
    cases x with
    | non => cases rx; exact SeqAt.EqAt.int_none a t'
    | bl b => cases rx; exact SeqAt.EqAt.int_bool a t' b
    | int b => obtain ⟨t, rfl⟩ := rx; exact SeqAt.EqAt.int_int a t' b t
    | str b => obtain ⟨t, rfl⟩ := rx; exact SeqAt.EqAt.int_str a t' b t
    | _ => exact absurd (show false = true from fx) Bool.false_ne_true
  | str a =>
    obtain ⟨t', rfl⟩ := ry
    cases x with
    | non => cases rx; exact SeqAt.EqAt.str_none a t'
    | bl b => cases rx; exact SeqAt.EqAt.str_bool a t' b
    | int b => obtain ⟨t, rfl⟩ := rx; exact SeqAt.EqAt.str_int a t' b t
    | str b => obtain ⟨t, rfl⟩ := rx; exact SeqAt.EqAt.str_str a t' b t
    | _ => exact absurd (show false = true from fx) Bool.false_ne_true
  | _ => exact absurd (show false = true from fy) Bool.false_ne_true
def eqU (x : V) (u : Value) : Bool := match u with
  | .none => eqV .non x
  | .bool b => eqV (.bl b) x
  | .int i _ => eqV (.int i) x
  | .str z _ => eqV (.str z) x
  | _ => false
theorem eqU_of {x y : V} {u : Value} (r : RelV y u) (f : flatV y = true) : eqU x u = eqV y x := by
  cases y with
  | non => cases r; rfl
  | bl b => cases r; rfl
  | int i => obtain ⟨t, rfl⟩ := r; rfl
  | str z => obtain ⟨t, rfl⟩ := r; rfl
  | _ => exact absurd (show false = true from f) Bool.false_ne_true
theorem any_eqU {x : V} : ∀ {xs : List V} {us : List Value}, Vals xs us → xs.all flatV = true → us.any (eqU x) = xs.any fun y => eqV y x
  | _, _, .nil, _ => rfl
  | y :: xs, u :: us, .cons r t, f => by
    rw [List.all_cons, Bool.and_eq_true] at f
    rw [List.any_cons, List.any_cons, eqU_of r f.1, any_eqU t f.2]
theorem mem_eqAt {A : Around} {s : Shared} {x : V} {v : Value} (rx : RelV x v) (fx : flatV x = true) : ∀ {xs : List V} {us : List Value}, Vals xs us → xs.all flatV = true → ∀ u ∈ us, SeqAt.EqAt A s u v (eqU x u)
  | _, _, .nil, _ => fun u hu => by cases hu
  | y :: xs, u :: us, .cons r t, f => fun u' hu => by
    rw [List.all_cons, Bool.and_eq_true] at f
    rcases List.mem_cons.mp hu with rfl | hu
    · rw [eqU_of r f.1]; exact eqAt_V r rx f.1 fx
    · exact mem_eqAt rx fx t f.2 u' hu
def inV (x : V) (xs : List V) : Bool := xs.any fun y => eqV y x
def rIn (K : PySem.W.Frag) (neg : Bool) : R2 := fun x y H Q => ∃ p xs, y = .ref p ∧ (SqL K H p xs ∨ SqT K H p xs) ∧ flatV x = true ∧ xs.all flatV = true ∧ Q (.bl (if neg then !inV x xs else inV x xs)) H
theorem op_in_seq : OpR X (compareOp .In) (rIn X.K false) := by
  intro pins s σ H x y v u Q I rx ry h
  obtain ⟨p, xs, rfl, hq, fx, fs, q⟩ := h
  cases ry
  rcases hq with hq | hq
  · obtain ⟨its, r, pl, hz⟩ := I.list hq
    refine SeqAt.in_listAt (eqU x) pl.isList (fun w hw => mem_eqAt rx fx r fs w (by simpa using hw)) ⟨.bl _, H, I, rfl, ?_⟩
    rw [show its.toArray.any (eqU x) = its.any (eqU x) by simp, any_eqU r fs]
    exact q
  · obtain ⟨its, r, pl, hz⟩ := I.tuple hq
    refine SeqAt.in_tupleAt (eqU x) pl (fun w hw => mem_eqAt rx fx r fs w (by simpa using hw)) ⟨.bl _, H, I, rfl, ?_⟩
    rw [show its.toArray.any (eqU x) = its.any (eqU x) by simp, any_eqU r fs]
    exact q
theorem call_len_seq : CallR X (.builtin "len") (fun xs H Q => ∃ p ys, xs = [.ref p] ∧ (SqL X.K H p ys ∨ SqT X.K H p ys) ∧ Q (.int ys.length) H) := by
  intro pins s σ H xs us Q I r h
  obtain ⟨p, ys, rfl, hq, q⟩ := h
  obtain ⟨u, rfl, rx⟩ := vals1 r
  cases rx
  have hn := line63
  rcases hq with hq | hq
  · obtain ⟨its, r', pl, hz⟩ := I.list hq
    have hlen := r'.length
    exact Calls.call_len_list pl.isList (by simp only [List.size_toArray] <;> omega) ⟨.int ys.length, H, I.tok _, ⟨s.toks + 1, by rw [List.size_toArray, hlen]⟩, q⟩
  · obtain ⟨its, r', pl, hz⟩ := I.tuple hq
    have hlen := r'.length
    exact len_tuple pl (by simp only [List.size_toArray] <;> omega) ⟨.int ys.length, H, I.tok _, ⟨s.toks + 1, by rw [List.size_toArray, hlen]⟩, q⟩
theorem call_list_of : CallR X (.type "list") (fun xs H Q => ∃ p ys, xs = [.ref p] ∧ (SqL X.K H p ys ∨ SqT X.K H p ys) ∧ ∀ l, H l = none → Q (.ref l) (upd H l (.lst ys))) := by
  intro pins s σ H xs us Q I r h
  obtain ⟨p, ys, rfl, hq, q⟩ := h
  obtain ⟨u, rfl, rx⟩ := vals1 r
  cases rx
  have fin : ∀ (its : List Value), Vals ys its → ys.length ≤ sizeLine → ∀ (h' : Heap) (c' : Nat), (∀ b o', s.heap.get? b = some o' → h'.get? b = some o') →
      h'.get? s.heap.objs.size = some { cls := .type "list", dict := none, data := .seq its.toArray c', slots := #[] } → EP X pins σ Q (.ref s.heap.objs.size) { s with heap := h' } := fun its r' hz h' c' kp e =>
    ⟨.ref s.heap.objs.size, _, I.laid (t' := s.toks) kp (Nat.le_refl _) (show ObjOk X.prog X.w _ h' _ (.lst ys) from ⟨hz, its, c', r', e⟩), rfl, q _ (I.hok.fresh (Nat.le_refl _))⟩
  rcases hq with hq | hq
  · obtain ⟨its, r', pl, hz⟩ := I.list hq
    have hlen := r'.length
    obtain ⟨o, ho, hc, n, hd⟩ := pl.isList
    exact call_list_seq p (.inl rfl) ho hc hd (fun h' c' kp e => fin its r' hz h' c' kp e) (by simp only [List.size_toArray] <;> omega)
  · obtain ⟨its, r', pl, hz⟩ := I.tuple hq
    have hlen := r'.length
    obtain ⟨o, ho, hc, n, hd⟩ := pl
    exact call_list_seq p (.inr rfl) ho hc hd (fun h' c' kp e => fin its r' hz h' c' kp e) (by simp only [List.size_toArray] <;> omega)
def tyV (K : PySem.W.Frag) (T : String) (x : V) (H : Hp) : Prop := match x with
  | .str _ => T = "str"
  | .int _ => T = "int"
  | .ref p => (T = "list" ∧ ∃ xs, SqL K H p xs) ∨ (T = "tuple" ∧ ∃ o, K.lookup p = some o ∧ o.cls = .type "tuple" ∧ o.dict = none) ∨
      (T = "dict" ∧ ((∃ kvs, H p = some (.dK kvs)) ∨ ∃ kvs, H p = some (.dT kvs))) ∨ (T = "set" ∧ ∃ S n, H p = some (.set S n))
  | _ => False
theorem tyV_is {pins : List (Addr × Obj)} {σ : St} {H : Hp} {s : Shared} {T : String} {x : V} {v : Value} (I : Inv X pins σ H s) (r : RelV x v) (ty : tyV X.K T x H) :
    s.TypeIs v T ∧ ∀ a, v = .ref a → ∃ ob, s.heap.get? a = some ob ∧ ob.dict = none := by
  cases x with
  | str z =>
    obtain ⟨t, rfl⟩ := r
    cases (show T = "str" from ty)
    exact ⟨typeIs_str s z t, fun _ e => nomatch e⟩
  | int i =>
    obtain ⟨t, rfl⟩ := r
    cases (show T = "int" from ty)
    exact ⟨typeIs_int s i t, fun _ e => nomatch e⟩
  | ref p =>
    cases r
    rcases ty with ⟨rfl, xs, hq⟩ | ⟨rfl, o, hk, hc, hd⟩ | ⟨rfl, hk⟩ | ⟨rfl, S, n, hk⟩
    · obtain ⟨its, _, pl, _⟩ := I.list hq
      refine ⟨pl.isList.typeIs, fun a e => ?_⟩
      cases e
      obtain ⟨o, n, e, c, hd, _⟩ := pl
      exact ⟨o, e, hd⟩
    · refine ⟨⟨o, I.kIn p o hk, hc⟩, fun a e => ?_⟩
      cases e
      exact ⟨o, I.kIn _ o hk, hd⟩
    · have z : ∃ o, s.heap.get? p = some o ∧ o.ExactDict := by
        rcases hk with ⟨kvs, hk⟩ | ⟨kvs, hk⟩
        · obtain ⟨_, _, _, _, o, _, _, e, ex, _⟩ := I.hok p _ hk
          exact ⟨o, e, ex⟩
        · obtain ⟨_, _, _, _, o, _, _, e, ex, _⟩ := I.hok p _ hk
          exact ⟨o, e, ex⟩
      obtain ⟨o, e, ex⟩ := z
      refine ⟨⟨o, e, ex.1⟩, fun a e2 => ?_⟩
      cases e2
      exact ⟨o, e, ex.2.1⟩
    · obtain ⟨o, _, _, _, e, ex, _⟩ := I.hok p _ hk
      refine ⟨⟨o, e, ex.1⟩, fun a e2 => ?_⟩
      cases e2
      exact ⟨o, e, ex.2.1⟩
  | _ => exact False.elim ty
def tBM (K : PySem.W.Frag) (T : String) (r : V → List V → Hp → VK → Prop) (to : TE) (t : TA) : TE := fun σ H Q => to σ H fun x H1 => tyV K T x H1 ∧ t σ H1 fun xs H2 => r x xs H2 Q
variable {o e : Expr} {es : List Expr} {to : TE} {t : TA} {name : Str} {apos cpos : Pos} {T id : String} {r : V → List V → Hp → VK → Prop}
theorem pe_bm (pa : PlainAttrs T) (slot : Slot T name id) (hty : typeOf (.builtin id) = pure (.type "method_descriptor")) (hm : MtR X id r) (ho : PE X o to) (ha : PA X (e :: es) t)
    (hbase : attributeBase o name X.env (eval o X.env) = eval o X.env := by rfl)
    (hfew : ((backTo cpos (starEach (e :: es) X.env)).all (fun x => !x.1) && (backToKw cpos (keywordEach [] X.env)).all (fun x => x.1.isSome)
      && decide ((e :: es).length + ([] : List Keyword).length + (if ([] : List Keyword).isEmpty then 0 else 1) < 30)) = true := by rfl)
    (hline : (apos.endLine == cpos.line) = true := by rfl) (hs : starEach (e :: es) X.env = (false, eval e X.env) :: starEach es X.env := by rfl) (hplain : (backTo cpos (starEach es X.env)).any (·.1) = false := by rfl) :
    PE X (.Call (.Attribute o name apos) (e :: es) [] cpos) (tBM X.K T r to t) := by
  intro pins s σ H Q I h
  refine wpAny_Call_method_late hbase hfew hline rfl (thn (ho pins s σ H _ I h) fun v s1 ⟨x, H1, I1, r1, ty, q1⟩ => ?_)
  obtain ⟨h1, h2⟩ := tyV_is I1 r1 ty
  refine ⟨T, id, pa, slot, hty, h1, h2, ?_⟩
  have hA := ha cpos pins s1 σ H1 _ I1 q1
  rw [hs] at hA ⊢
  refine Calls.callWith_builtin (by show (false || (backTo cpos (starEach es X.env)).any (·.1)) = false; rw [hplain] <;> rfl) (Calls.evalArgs_plain ?_)
  exact thn hA fun us s2 ⟨vs, H2, I2, r2, q2⟩ => hm pins s2 σ H2 x vs v us Q I2 r1 r2 q2
end
end L2

namespace L2
open PySem PySem.Spec PyProof.Rows

def MtM (X : Cx) (id : String) (r : V → List V → Hp → VK → Prop) : Prop :=
  ∀ (pins : List (Addr × Obj)) (s : Shared) (σ : St) (H : Hp) (x : V) (xs : List V) (v : Value) (us : List Value) (Q : VK), Inv X pins σ H s → RelV x v → Vals xs us → r x xs H Q →
    wpAny (model X.prog X.w) X.A (call (.builtin id) (v :: us)) (EP X pins σ Q) X.xe s

theorem Vals.one : ∀ {x : V} {us : List Value}, Vals [x] us → ∃ u, us = [u] ∧ RelV x u
  | _, _, .cons r .nil => ⟨_, rfl, r⟩
theorem Vals.rep {xs : List V} {us : List Value} (h : Vals xs us) : ∀ k : Nat, Vals (List.replicate k xs).flatten (List.replicate k us).flatten
  | 0 => .nil
  | k + 1 => by
    rw [List.replicate_succ, List.replicate_succ, List.flatten_cons, List.flatten_cons]
    exact Vals.append h (Vals.rep h k)
theorem foldl_rep (its : List Value) : ∀ (k : Nat) (acc : List Value),
    List.foldl (fun x1 x2 => x1 ++ x2) acc.toArray (List.replicate k its.toArray) = (acc ++ (List.replicate k its).flatten).toArray
  | 0, acc => by simp
  | k + 1, acc => by
    have e : acc.toArray ++ its.toArray = (acc ++ its).toArray := by simp
    have e2 : (acc ++ its) ++ (List.replicate k its).flatten = acc ++ (List.replicate (k + 1) its).flatten := by
      rw [List.replicate_succ, List.flatten_cons, List.append_assoc]
    rw [← e2, ← foldl_rep its k (acc ++ its), ← e, List.replicate_succ, List.foldl_cons]

section
variable {X : Cx} {pins : List (Addr × Obj)} {σ : St} {H : Hp} {s : Shared} {l b : Addr} {xs ys zs : List V}

theorem Inv.lset {its its' : List Value} {n : Nat} {f : Array Value → Array Value} {t' : Nat} (I : Inv X pins σ H s) (hH : H l = some (.lst xs))
    (e : s.heap.get? l = some { cls := .type "list", data := .seq its.toArray n }) (hf : f its.toArray = its'.toArray) (hv : Vals ys its') (hz : ys.length ≤ sizeLine) :
    Inv X pins σ (upd H l (.lst ys)) { s with heap := s.heap.update l (Obj.mapSeq f), toks := t' } := by
  have q := PySem.IsL.update e f
  rw [hf] at q
  refine I.write (x := l) (e := l) (by rw [hH]; exact trivial) (.inl rfl) (fun b' u hb hu => (Heap.get?_update_other s.heap (Obj.mapSeq f) (Ne.symm hb)).trans hu) ⟨_, q⟩ ?_
  exact ⟨hz, its', _, hv, q⟩
theorem Inv.lnew {its : List Value} {t' : Nat} (I : Inv X pins σ H s) (hv : Vals ys its) (hz : ys.length ≤ sizeLine) :
    Inv X pins σ (upd H s.heap.objs.size (.lst ys)) { s with heap := s.heap.push { cls := .type "list", data := .seq its.toArray }, toks := t' } :=
  I.laid (fun _ _ q => Heap.get?_push_of_some _ q) (Nat.le_refl _) ⟨hz, its, 0, hv, Heap.get?_push_size _ rfl⟩
theorem Inv.fresh (I : Inv X pins σ H s) : H s.heap.objs.size = none := I.hok.fresh (Nat.le_refl _)
theorem Inv.lstM (I : Inv X pins σ H s) (hH : H l = some (.lst xs)) : xs.length ≤ sizeLine ∧ ∃ (its : List Value) (n : Nat), Vals xs its ∧ xs.length = its.length ∧ s.heap.get? l = some { cls := .type "list", data := .seq its.toArray n } := by
  obtain ⟨z, its, n, r, e⟩ := I.hok l _ hH
  exact ⟨z, its, n, r, r.length, e⟩

theorem notLongL {n : Nat} (h : n ≤ sizeLine) : Builtin.List.listTooLong n = false := by
  unfold Builtin.List.listTooLong
  exact decide_eq_false (by omega)
end

section
variable {X : Cx}

def rAppend : V → List V → Hp → VK → Prop := fun x vs H Q => ∃ l xs y, x = .ref l ∧ vs = [y] ∧ H l = some (.lst xs) ∧ xs.length < sizeLine ∧ Q .non (upd H l (.lst (xs ++ [y])))
theorem mt_append : MtM X "list.append" rAppend := by
  intro pins s σ H x vs v us Q I rx rv h
  obtain ⟨l, xs, y, rfl, rfl, hH, hz, q⟩ := h
  cases rx
  obtain ⟨u, rfl, ru⟩ := rv.one
  obtain ⟨z, its, n, r, hl, e⟩ := I.lstM hH
  refine call_meets F.slot_list_append ⟨_, e, rfl⟩ F.entry_list_append (F.args_list_append_2 _ _) (PySem.list_append l its.toArray n u (by rw [List.size_toArray]; omega)) ⟨e, ?_⟩
  refine ⟨.non, _, I.lset (its' := its ++ [u]) hH e (by simp) (r.append (.cons ru .nil)) ?_, rfl, q⟩
  rw [List.length_append, List.length_singleton]
  omega

def rRep : R2 := fun x y H Q => ∃ l k xs, x = .ref l ∧ y = .int k ∧ H l = some (.lst xs) ∧ -(2 ^ 63) ≤ k ∧ k < 2 ^ 63 ∧ xs.length * k.toNat ≤ sizeLine ∧
  ∀ p, H p = none → Q (.ref p) (upd H p (.lst (List.replicate k.toNat xs).flatten))
theorem len_rep {α : Type} (xs : List α) (k : Nat) : (List.replicate k xs).flatten.length = k * xs.length := by
  induction k with
  | zero => simp
  | succ k ih => rw [List.replicate_succ, List.flatten_cons, List.length_append, ih, Nat.succ_mul, Nat.add_comm]
theorem op_rep : OpR X (binaryOp .Mult) rRep := by
  intro pins s σ H x y v u Q I rx ry h
  obtain ⟨l, k, xs, rfl, rfl, hH, h1, h2, hz, q⟩ := h
  cases rx
  obtain ⟨t, rfl⟩ := ry
  obtain ⟨z, its, n, r, hl, e⟩ := I.lstM hH
  have hlen : its.toArray.size * k.toNat ≤ sizeLine := by rw [List.size_toArray, ← hl]; exact hz
  have hcap : ¬ its.toArray.size * k.toNat > (2 ^ 63 - 1) / 8 := by
    have : (sizeLine : Nat) ≤ (2 ^ 63 - 1) / 8 := by decide
    omega
  have hfit : ¬ (!Builtin.List.listFitsIndex k) = true := by
    rw [fitsIndex_both h1 h2]
    exact Bool.false_ne_true
  have hlong : ¬ Builtin.List.listTooLong (its.toArray.size * k.toNat) = true := by
    rw [notLongL hlen]
    exact Bool.false_ne_true
  have hnew : List.foldl (fun x1 x2 => x1 ++ x2) #[] (List.replicate (if its.toArray.isEmpty = true then 0 else k.toNat) its.toArray) = (List.replicate k.toNat its).flatten.toArray := by
    have f0 : ∀ m : Nat, List.foldl (fun x1 x2 => x1 ++ x2) #[] (List.replicate m its.toArray) = (List.replicate m its).flatten.toArray := fun m => by
      have := foldl_rep its m []
      rw [List.nil_append] at this
      exact this
    rw [f0]
    cases its with
    | nil => simp
    | cons a r' => rw [if_neg (by simp)]
  refine wpAny_binaryOp_repeat_ref (T := "list") (U := "int") (by decide) ⟨_, e, rfl⟩ (fun s' => typeIs_int s' k t) noFill_list_mul F.fills_int_mul F.slot_int_rmul repeat_list F.slot_int_index.lookup
    (call_meets F.slot_int_rmul (typeIs_int s k t) F.entry_int_rmul (F.args_int_rmul_2 _ _) (int___rmul___int_list k t l its.toArray n)
      ⟨e, rfl, ⟨_, e, rfl⟩, call_meets F.slot_list_mul ⟨_, e, rfl⟩ F.entry_list_mul (F.args_list_mul_2 _ _) (AutoListH.list___mul___list_int_3 l its.toArray n k t hfit hcap hlong) ⟨e, ?_⟩⟩)
  rw [hnew]
  exact ⟨.ref _, _, I.lnew (t' := s.toks) (r.rep k.toNat) (by rw [len_rep, Nat.mul_comm]; exact hz), rfl, q _ I.fresh⟩

end

section
variable {prog : Program} {w : World} {A : Around} {E : Value → Shared → Prop} {s : Shared}
end

section
variable {X : Cx}
end
end L2

namespace Att
open PySem PySem.W PySem.Calls PyProof.Rows

theorem ints_of_wellAll {P : Params} {h : Heap} : ∀ (ns : List Int) (vs : List Value), WellAll P h vs (ns.map WData.int) → IntsAre vs ns := by
  intro ns
  induction ns with
  | nil =>
    intro vs w
    rw [List.map_nil] at w
    cases w
    exact .nil
  | cons n ns ih =>
    intro vs w
    rw [List.map_cons] at w
    cases w with
    | cons a b =>
      cases a
      exact .cons _ _ (ih _ b)

theorem script_of {l : OpenLaw} {n : Nat} (hn : l.most = some n) {P : Params} {h : Heap} {args : List WData} {vals : List Value}
    (hpre : l.row.toRowW.claim.pre args = true) (hwl : WellAll P h vals args) :
    ∃ a vs ns, vals = [Value.ref a] ∧ args = [WData.list (ns.map WData.int)] ∧ h.get? a = some { cls := .type "list", data := .seq vs.toArray } ∧ IntsAre vs ns ∧ ns.length ≤ n := by
  have hsh : WShape.hasAll [] args [.list .int] = true := (pre_splitW hpre).1
  have hc : l.pre.holds [] { args := args } = true := (pre_splitW hpre).2
  obtain ⟨d, r, rfl, h1, h2⟩ := hasAllW_cons hsh
  obtain rfl := hasAllW_nil h2
  obtain ⟨xs, rfl, h3⟩ := hasW_list h1
  obtain ⟨ns, rfl⟩ := items_int h3
  have hlen : ns.length ≤ n := by
    unfold OpenLaw.pre at hc
    have h4 : (WTm.not (.lt (.lit (.int (n : Int))) (.len (.arg 0)))).holds [] { args := [.list (ns.map .int)] } = true := by
      have h4 := (holds_andW hc).1
      rw [hn] at h4
      exact h4
    have h5 := condW_of h4 (w_not (w_lt w_lit (w_len_list (w_arg rfl))))
    rw [List.length_map] at h5
    refine Nat.le_of_not_lt fun q => ?_
    have q' : (n : Int) < ((ns.length : Nat) : Int) := by omega
    first
      | (rw [decide_eq_true q'] at h5; exact absurd h5 (by decide))
      | (simp at h5; omega)
  cases hwl with
  | cons w1 w2 =>
    cases w2
    cases w1 with
    | list ho hall => exact ⟨_, _, ns, rfl, rfl, ho, ints_of_wellAll ns _ hall, hlen⟩

theorem post_true (l : OpenLaw) (args : List WData) : l.row.toRowW.claim.post args (.bool true) args = true :=
  postW_of (r := l.row.toRowW) (X := (true == true))
    (show WShape.has [] (.bool true) .bool = true by first | rfl | decide | simp [WShape.has, WShape.arms, WShape.armsAll])
    (show (WTm.eq .res (.lit (.bool true))).value [] { args := args, res := some (.bool true), after := args } = some (.bool (true == true)) from w_eq_bool (w_res rfl) w_lit) rfl

section
variable {prog : Program} {w : World} {A : Around} {E : Value → Shared → Prop} {s : Shared} {K : Frag}

end
end Att

namespace L2
open PySem PySem.Spec PyProof.Rows

theorem vals_ints : ∀ {vs : List Value} {ns : List Int}, IntsAre vs ns → Vals (ns.map V.int) vs
  | _, _, .nil => .nil
  | _, _, .cons n t h => .cons ⟨t, rfl⟩ (vals_ints h)

def Only (H : Hp) : Prop := ∀ b, H b = none ∨ ∃ o xs, H b = some (.frz o (.lst xs))

theorem law_call {P : Program} {w : World} {K : PySem.W.Frag} {mg mb : Str → Option Value} {CX : CXT} {k : Nat} {fa a : Addr} {fd : FuncData} {x : Str} {sp : Sp} {s₁ : Shared} {vs : List Value} {ns : List Int}
    (KX : K.In s₁.heap) (hns : s₁.heap.Ns mainGlobals mg) (hb : s₁.heap.Ns builtinsNs mb) (hbb : ∀ x : Str, x ≠ "__name__" → mb x = bootBuiltins x) (hlim : s₁.heap.NoLimit) (hg : s₁.gens = #[])
    (ha : s₁.heap.get? a = some { cls := .type "list", data := .seq vs.toArray }) (hi : IntsAre vs ns) (hl : ns.length ≤ sizeLine) (hr : Room k callerA)
    (F : ∀ base : Heap, K.In base → base.Ns mainGlobals mg → FnOk P w K mg base CX k fa fd [x] sp) (hbind : ∀ (s : Shared) (u : Value), BindsTo s fd ⟨[u], []⟩ [(x, u)])
    (hsp : ∀ H : Hp, Only H → SqL K H a (ns.map V.int) → sp [.ref a] H (fun v _ => v = .bl true) fun _ _ _ => False)
    (hCX : ∀ H e s', CX [] H s₁ (fun _ _ _ => False) e s' → False) :
    codeAny (model P w) callerA (.call (.ref fa) ⟨[.ref a], []⟩) (fun r s' => r = .ok (.ret (.bool true)) ∧ OldK s₁.heap s'.heap ∧ s'.os = s₁.os ∧ AllBare s'.gens) s₁ := by
  have rv := vals_ints hi
  have lenV := hi.length
  have core : ∀ H : Hp, Only H → SqL K H a (ns.map V.int) → HOk P w H s₁.heap → (∀ b, H b ≠ none → b = a) → (H a ≠ none → K.lookup a = none) →
      codeAny (model P w) callerA (.call (.ref fa) ⟨[.ref a], []⟩) (fun r s' => r = .ok (.ret (.bool true)) ∧ OldK s₁.heap s'.heap ∧ s'.os = s₁.os ∧ AllBare s'.gens) s₁ := by
    intro H hO hS hok hA hK
    have base_of : ∀ {b : Addr} {o : Obj}, s₁.heap.get? b = some o → H b = none → (hidT s₁.heap H).get? b = some o := fun e n => hidT_get e n
    have noA : ∀ {b : Addr} {o : Obj} {es : Array DictEntry} {ep : Nat}, s₁.heap.get? b = some o → o.data = .dict es ep → H b = none := fun {b o es ep} e d => by
      cases q : H b with
      | none => rfl
      | some u =>
        have e' : b = a := hA b (by rw [q]; simp)
        subst e'
        rw [ha] at e; cases e
        have d' : Data.seq vs.toArray _ = Data.dict es ep := d
        cases d'
    have nsK : ∀ {b : Addr} {m : Str → Option Value}, s₁.heap.Ns b m → (hidT s₁.heap H).Ns b m := fun {b m} ⟨o, es, ep, e, d, r⟩ => ⟨o, es, ep, base_of e (noA e d), d, r⟩
    have hKb : K.In (hidT s₁.heap H) := fun b o e => base_of (KX b o e) (by
      cases q : H b with
      | none => rfl
      | some u =>
        have e' : b = a := hA b (by rw [q]; simp)
        subst e'
        rw [hK (by rw [q]; simp)] at e; cases e)
    have hM : Mod K mg (hidT s₁.heap H) := ⟨hKb, nsK hns, ⟨mb, nsK hb, hbb⟩, let ⟨mc, h1, h2⟩ := hlim; ⟨mc, nsK h1, h2⟩⟩
    have e0 : Env0 P w K mg (hidT s₁.heap H) callerA [] s₁ H := ⟨rfl, hM, fun b o e => of_hidT e, Nat.le_of_eq (hidT_size _ _), trivial, fun b hb => absurd (show b ∈ ([] : List Addr) from hb) (by simp), hok, .of_eq hg⟩
    refine codeAny_mono ((F _ hKb (nsK hns)).run callerA [] s₁ H ⟨[.ref a], []⟩ [.ref a] [.ref a] _ _ hr e0 (hbind s₁ (.ref a)) (.cons rfl .nil) (hsp H hO hS)) fun r s' h => ?_
    cases r with
    | error e => exact (hCX H e s' h).elim
    | ok fl =>
      cases fl with
      | next => exact False.elim h
      | brk => exact False.elim h
      | cont => exact False.elim h
      | ret u =>
        obtain ⟨v, H', os, bare, un, hok', r', q⟩ := h
        have q' : v = .bl true := q
        subst q'
        obtain rfl : u = Value.bool true := r'
        refine ⟨rfl, OldK.of_keep fun b o e => ?_, os, bare⟩
        cases q : H b with
        | none => exact un.keep b o e q (by intro z; exact absurd (show b ∈ ([] : List Addr) from z) (by simp)) (by simp)
        | some u =>
          rcases hO b with z | ⟨ob, xs, z⟩
          · rw [q] at z; cases z
          · have z2 := un.frzs b ob _ z
            obtain ⟨e1, _⟩ := hok b _ z
            obtain ⟨e2, _⟩ := hok' b _ z2
            rw [e] at e1; cases e1
            exact e2
  cases hk : K.lookup a with
  | some o =>
    have e := KX a o hk
    rw [ha] at e
    cases e
    refine core (fun _ => none) (fun _ => .inl rfl) (.inr ⟨_, vs.toArray, _, hk, rfl, rfl, rfl, by rw [List.size_toArray, lenV]; exact hl, by simpa using rv⟩) (fun b u z => by have z' : (none : Option HO) = some u := z; cases z') (fun b z => absurd rfl z) fun z => absurd rfl z
  | none =>
    refine core (fun b => if b = a then some (.frz { cls := .type "list", data := .seq vs.toArray } (.lst (ns.map V.int))) else none) (fun b => ?_) (.inl (.inr ⟨{ cls := .type "list", data := .seq vs.toArray }, if_pos rfl⟩)) (fun b u z => ?_) (fun b z => ?_) fun _ => hk
    · by_cases hb : b = a
      · exact .inr ⟨_, _, if_pos hb⟩
      · exact .inl (if_neg hb)
    · by_cases hb : b = a
      · have z' := (if_pos hb).symm.trans z
        cases z'
        subst hb
        exact ⟨ha, by rw [List.length_map]; exact hl, vs, _, rv, ha⟩
      · have z' := (if_neg hb).symm.trans z
        cases z'
    · by_cases hb : b = a
      · exact hb
      · exact absurd (if_neg hb) z
end L2

namespace L2
open PySem PySem.Spec PyProof.Rows

end L2


namespace L2
open PySem PySem.Spec PyProof.Rows

def inClass (s : Stmt) (j : Nat) : Stmt := match s with
  | .ClassDef _ _ _ body _ _ _ _ _ _ _ => body.getD j (.Pass ⟨0, 0, 0, 0⟩)
  | _ => .Pass ⟨0, 0, 0, 0⟩
def defArgs (s : Stmt) : Arguments := match s with
  | .FunctionDef _ a _ _ _ _ _ _ _ _ => a
  | _ => { posonlyargs := [], args := [], vararg := none, kwonlyargs := [], kw_defaults := [], kwarg := none, defaults := [] }
def defBody (s : Stmt) : List Stmt := match s with
  | .FunctionDef _ _ b _ _ _ _ _ _ _ => b
  | _ => []
def defScope (s : Stmt) : Scope := match s with
  | .FunctionDef _ _ _ _ _ _ sc _ _ _ => sc
  | _ => { kind := .function, names := [], isGenerator := false, isCoroutine := false }

abbrev E0 : XK := fun _ _ _ => False
structure Fun (K : PySem.W.Frag) (x qual : Str) (st : Stmt) (f : Addr) (fd : FuncData) : Prop where
  ex : ∃ (oc : Value) (od : Option Addr) (kV doc pm : Value) (an : Option Addr) (cdv ct : Value) (osl : Array (Option Value)),
    fd = PySem.W.fnOf x qual (defArgs st) (defBody st) (defScope st) .none kV doc pm an cdv ct ∧ K.lookup f = some ⟨oc, od, .func fd, osl⟩ ∧ PySem.W.codeIn K cdv qual = true
  kp : PySem.W.keepIn K (.ref f) = true
section
variable {P : Program} {w : World} {K : PySem.W.Frag} {mg : Str → Option Value} {base : Heap}
theorem Fun.binds {x qual : Str} {st : Stmt} {f : Addr} {fd : FuncData} {ps : List Str} (F : Fun K x qual st f fd)
    (h : ∀ (kV doc pm : Value) (an : Option Addr) (cdv ct : Value) (us : List Value), us.length = ps.length → bindArgs (PySem.W.fnOf x qual (defArgs st) (defBody st) (defScope st) .none kV doc pm an cdv ct) ⟨us, []⟩ = pure (ps.zip us)) : Binds K fd ps [] := by
  obtain ⟨oc, od, kV, doc, pm, an, cdv, ct, osl, rfl, lk, hcd⟩ := F.ex
  exact .all (h kV doc pm an cdv ct)
theorem fun_mk {x qual : Str} {st : Stmt} {f : Addr} {oc : Value} {od an : Option Addr} {osl : Array (Option Value)} {kV doc pm cdv ct : Value} (l : K.lookup f = some ⟨oc, od, .func (PySem.W.fnOf x qual (defArgs st) (defBody st) (defScope st) .none kV doc pm an cdv ct), osl⟩)
    (c : PySem.W.codeIn K cdv qual = true) (k : PySem.W.keepIn K (.ref f) = true) : Fun K x qual st f (PySem.W.fnOf x qual (defArgs st) (defBody st) (defScope st) .none kV doc pm an cdv ct) := ⟨⟨oc, od, kV, doc, pm, an, cdv, ct, osl, rfl, l, c⟩, k⟩
end
theorem hu_of {A : Around} {k : Nat} (hr : Room k A) : A.units + 1 < cLine := Nat.lt_of_le_of_lt (Nat.add_le_add_left (by decide : 1 ≤ 64) _) hr.units
section
variable {X : Cx}
theorem pv (i : Nat) {x : Str} {pos : Pos} (hN : X.N[i]? = some x := by rfl) (hv : Vis X.env.scope x := by first | exact Or.inl rfl | exact Or.inr (Or.inl rfl) | exact Or.inr (Or.inr rfl)) (hd : (x == ("__debug__" : Str)) = false := by decide)
    (hcd : (x == ("__classdict__" : Str)) = false := by decide) : PE X (.Name x pos) (tVar i) := pe_var hN hv hd hcd
end

theorem iteF {A B : Prop} (h : B) : if false = true then A else B := by
  rw [if_neg Bool.false_ne_true]
  exact h
theorem iteT {A B : Prop} (h : A) : if true = true then A else B := by
  rw [if_pos rfl]
  exact h
theorem ite2 {c A B : Prop} [Decidable c] (h1 : c → A) (h2 : ¬ c → B) : if c then A else B := by
  by_cases h : c
  · rw [if_pos h]
    exact h1 h
  · rw [if_neg h]
    exact h2 h
def Same (H H' : Hp) : Prop := ∀ b o, H b = some o → H' b = some o
theorem Same.refl (H : Hp) : Same H H := fun _ _ h => h
theorem Same.trans {H H1 H2 : Hp} (a : Same H H1) (b : Same H1 H2) : Same H H2 := fun c o h => b c o (a c o h)
theorem Same.free {H H' : Hp} (e : Same H H') {l : Addr} (h : H' l = Option.none) : H l = Option.none := by
  cases q : H l with
  | none => rfl
  | some o =>
    rw [e l o q] at h
    cases h
theorem Same.seq {K : PySem.W.Frag} {H H' : Hp} {a : Addr} {xs : List V} (e : Same H H') (h : SqL K H a xs) : SqL K H' a xs := by
  rcases h with (h | ⟨o, h⟩) | h
  · exact .inl (.inl (e _ _ h))
  · exact .inl (.inr ⟨o, e _ _ h⟩)
  · exact .inr h

end L2

namespace L2
open PySem PySem.Spec PyProof.Rows

end L2

namespace L2
open PySem PySem.Spec PyProof.Rows





end L2

namespace L2
open PySem PySem.Spec PyProof.Rows

section
variable {X : Cx} {pins : List (Addr × Obj)} {σ : List (Option V)} {H H' : Hp} {s : Shared} {h' : Heap}

end

end L2

namespace L2
open PySem PySem.Spec PyProof.Rows
section
variable {X : Cx}

variable {a b : Expr} {ta tb : TE} {pos : Pos}
variable {tA tB' : TT} {rest : List Expr}
end
end L2

namespace L2
open PySem PySem.Spec PyProof.Rows






end L2

namespace L2
open PySem PySem.Spec PyProof.Rows

end L2

namespace L2
open PySem PySem.Spec PyProof.Rows

section
variable {X : Cx} {a b c : Expr} {ta tb tc : TE} {pos : Pos}

end

end L2

namespace L2
open PySem PySem.Spec PyProof.Rows

section
variable {prog : Program} {w : World} {A : Around} {E : Value → Shared → Prop} {s : Shared} {K : PySem.W.Frag} {x dx C f : Addr} {mA : Str → Option Value} {name : Str} {v : Value}

end


section
variable {X : Cx} {pins : List (Addr × Obj)} {σ : St} {H : Hp} {s : Shared} {a C dx : Addr} {fs : List (Str × V)} {f : Str} {v : V} {A : Around} {E : Value → Shared → Prop}

end


end L2

namespace L2
open PySem PySem.Spec PyProof.Rows



section
variable {X : Cx} {CX : CXT} {k : Nat} {f C : Addr} {fd : FuncData} {ps : List Str} {sp : Sp} {dvs : List V} {ds : List Value} {E : XK} {x m : Str} {p pos apos : Pos} {e o : Expr} {es : List Expr} {ta : TE} {t : TA}

end


end L2

namespace L2
open PySem PySem.Spec PyProof.Rows
section
variable {X : Cx} {x : Str} {p pos : Pos} {e : Expr} {es : List Expr} {t : TA} {id T : String} {r : List V → Hp → VK → Prop}

end
end L2

namespace L2
open PySem PySem.Spec PyProof.Rows

section
variable {κ : Type} [DecidableEq κ]
theorem KV.length {kvs : List (κ × V)} {vs : List (κ × Value)} (r : KV kvs vs) : kvs.length = vs.length := Paired.length r
end


section
variable {P : Program} {w : World} {H : Hp} {h : Heap} {a : Addr}
theorem rd_of {u : HO} (ok : HOk P w H h) (e : Rd H a u) : ObjOk P w H h a u := e.ok ok
theorem dk_rd {kvs : List (Key × V)} (ok : HOk P w H h) (e : Rd H a (.dK kvs)) : kvs.length ≤ sizeLine ∧ (a == sysModules) = false ∧ ∃ vs, KV kvs vs ∧ h.DictOf (mixKind P w) a vs :=
  show ObjOk P w H h a (.dK kvs) from rd_of ok e
end

section
variable {X : Cx} {pins : List (Addr × Obj)} {σ : St} {H : Hp} {s : Shared} {a : Addr} {y v : V} {u r : Value} {o : Option V} {A : Around} {E : Value → Shared → Prop}

theorem Inv.big (I : Inv X pins σ H s) : sysModules < s.heap.objs.size := by
  have h : mainGlobals < s.heap.objs.size := (I.mod.glob.keeps I.bk).lt
  exact Nat.lt_trans (by decide) h

end

section
variable {X : Cx} {pins : List (Addr × Obj)} {σ : St} {H : Hp} {s : Shared} {a : Addr} {kvs : List (Key × V)} {k : Key} {u : Value} {A : Around} {E : Value → Shared → Prop}
end


section
variable {X : Cx} {o i e value : Expr} {pos pos' tpos : Pos} {td ty tv : TE}
end


theorem dk_empty {P : Program} {w : World} {H : Hp} (h : Heap) (hb : sysModules < h.objs.size) : ObjOk P w H (h.push { cls := .type "dict", data := .dict #[] }) h.objs.size (.dK []) :=
  ⟨Nat.zero_le _, beq_eq_false_iff_ne.mpr (Ne.symm (Nat.ne_of_lt hb)), [], .nil, Heap.DictOf.new h⟩
def tDNewK : TE := fun _ H Q => ∀ p, H p = none → Q (.ref p) (upd H p (.dK []))
section
variable {X : Cx} {pos : Pos}
theorem pe_dnewK : PE X (.Dict [] [] pos) tDNewK := fun pins s σ H Q I h =>
  wpAny_Dict_empty ⟨.ref s.heap.objs.size, _, I.laid (a := s.heap.objs.size) (o := .dK []) (t' := s.toks) (fun _ _ q => Heap.get?_push_of_some _ q) (Nat.le_refl _) (dk_empty s.heap I.big), rfl, h _ (I.hok.fresh (Nat.le_refl _))⟩
end

structure M1 (X : Cx) (o : Expr) (m : Str) (apos : Pos) (e : Expr) (cpos : Pos) : Prop where
  base : attributeBase o m X.env (eval o X.env) = eval o X.env
  few : ((backTo cpos (starEach [e] X.env)).all (fun x => !x.1) && (backToKw cpos (keywordEach [] X.env)).all (fun x => x.1.isSome)
    && decide (([e] : List Expr).length + ([] : List Keyword).length + (if ([] : List Keyword).isEmpty then 0 else 1) < 30)) = true
  line : (apos.endLine == cpos.line) = true
  trees : backTo cpos (starEach [e] X.env) = [(false, eval e X.env)]
structure M2 (X : Cx) (o : Expr) (m : Str) (apos : Pos) (e f : Expr) (cpos : Pos) : Prop where
  base : attributeBase o m X.env (eval o X.env) = eval o X.env
  few : ((backTo cpos (starEach [e, f] X.env)).all (fun x => !x.1) && (backToKw cpos (keywordEach [] X.env)).all (fun x => x.1.isSome)
    && decide (([e, f] : List Expr).length + ([] : List Keyword).length + (if ([] : List Keyword).isEmpty then 0 else 1) < 30)) = true
  line : (apos.endLine == cpos.line) = true
  trees : backTo cpos (starEach [e, f] X.env) = [(false, eval e X.env), (false, eval f X.env)]

section
variable {X : Cx} {pins : List (Addr × Obj)} {σ : St} {H : Hp} {s : Shared} {a : Addr} {y d : V} {u r : Value} {o : Option V} {A : Around} {E : Value → Shared → Prop}
end

section
variable {X : Cx} {o e f : Expr} {apos cpos : Pos} {td ty tx : TE}
end

section
variable {X : Cx} {pins : List (Addr × Obj)} {σ : St} {H : Hp} {s : Shared} {a : Addr} {kvs : List (Key × V)} {A : Around} {E : Value → Shared → Prop}
end


section
variable {X : Cx} {pins : List (Addr × Obj)} {σ : St} {H : Hp} {s : Shared} {a : Addr} {y : V} {u : Value} {A : Around} {E : Value → Shared → Prop}
end
end L2

namespace Att
open PySem PySem.W PySem.Calls PyProof.Rows

section
variable {prog : Program} {w : World} {A : Around} {E : Value → Shared → Prop} {s : Shared} {K : Frag}

end
end Att

namespace L2
open PySem PySem.Spec PyProof.Rows

end L2

namespace L2
open PySem PySem.Spec PyProof.Rows

end L2

namespace L2
open PySem PySem.Spec PyProof.Rows

section
variable {X : Cx}
end

section
variable {κ : Type} [DecidableEq κ]
end
end L2


set_option maxHeartbeats 4000000
namespace G
open PySem L2
section
variable {D : Ends} {σ : St} {H H1 : Hp} {Q : VK} {t u : TS} {ta tb tc te : TE} {n : St → Hp → Prop} {r : VK} {b c : St → Hp → Prop}
theorem i_seq (h : t ⟨u ⟨n, r, b, c⟩, r, b, c⟩ σ H) : tSeq t u ⟨n, r, b, c⟩ σ H := h
theorem i_next (h : n σ H) : tNext ⟨n, r, b, c⟩ σ H := h
theorem i_drop (h : te σ H fun _ H1 => n σ H1) : tDrop te ⟨n, r, b, c⟩ σ H := h
theorem i_ret (h : te σ H r) : tRet te ⟨n, r, b, c⟩ σ H := h
theorem i_if {c' : TT} (h : c' σ H fun k H1 => if k = true then t ⟨n, r, b, c⟩ σ H1 else u ⟨n, r, b, c⟩ σ H1) : tIfS c' t u ⟨n, r, b, c⟩ σ H := h
theorem i_asg {g : TG} (h : te σ H fun x H1 => g x σ H1 n) : tAsg te g ⟨n, r, b, c⟩ σ H := h
theorem i_C {v : V} (h : Q v H) : tC v σ H Q := h
theorem i_op {f : R2} (h : ta σ H fun x H1 => tb σ H1 fun y H2 => f x y H2 Q) : tOp f ta tb σ H Q := h
def kB (q : Bool → Hp → Prop) : VK := fun x H' => ∃ k, x = .bl k ∧ q k H'
theorem i_B {k : Bool} {q : Bool → Hp → Prop} (h : q k H) : kB q (.bl k) H := ⟨k, rfl, h⟩
theorem i_test {q : Bool → Hp → Prop} (h : te σ H (kB q)) : tTest te σ H q := h
theorem i_tB {q : Bool → Hp → Prop} (h : te σ H (kB q)) : tB te σ H q := h
theorem i_and {t u : TT} {q : Bool → Hp → Prop} (h : t σ H fun k H1 => if k = true then u σ H1 q else q false H1) : tAnd t u σ H q := h
theorem i_or {t u : TT} {q : Bool → Hp → Prop} (h : t σ H fun k H1 => if k = true then q true H1 else u σ H1 q) : tOr t u σ H q := h
theorem i_not {t : TT} {q : Bool → Hp → Prop} (h : t σ H fun k H1 => q (!k) H1) : tNot t σ H q := h
theorem i_andV (h : ta σ H (kB fun k H1 => if k = true then tb σ H1 Q else Q (.bl false) H1)) : tAndV ta tb σ H Q := h
theorem i_notV (h : ta σ H (kB fun k H1 => Q (.bl (!k)) H1)) : tNotV ta σ H Q := h
theorem i_ifx {t : TT} (h : t σ H fun k H1 => if k = true then ta σ H1 Q else tb σ H1 Q) : tIf t ta tb σ H Q := h
theorem i_I0 {g : Int → Int → V} {i j : Int} (h : Q (g i j) H) : rI0 g (.int i) (.int j) H Q := ⟨i, j, rfl, rfl, h⟩
theorem i_I {C : Int → Int → Prop} {g : Int → Int → V} {i j : Int} (hc : C i j) (h : Q (g i j) H) : rI C g (.int i) (.int j) H Q := ⟨i, j, rfl, rfl, hc, h⟩
theorem i_eqI {i j : Int} (h : Q (.bl (decide (i = j))) H) : rEq (.int i) (.int j) H Q := ⟨rfl, by rw [show decide (V.int i = V.int j) = decide (i = j) from decide_eq_decide.mpr ⟨fun e => V.int.inj e, fun e => by rw [e]⟩]; exact h⟩
theorem i_eqS {i j : Str} (h : Q (.bl (decide (i = j))) H) : rEq (.str i) (.str j) H Q := ⟨rfl, by rw [show decide (V.str i = V.str j) = decide (i = j) from decide_eq_decide.mpr ⟨fun e => V.str.inj e, fun e => by rw [e]⟩]; exact h⟩
theorem i_neI {i j : Int} (h : Q (.bl (!decide (i = j))) H) : rNe (.int i) (.int j) H Q := ⟨rfl, by rw [show decide (V.int i = V.int j) = decide (i = j) from decide_eq_decide.mpr ⟨fun e => V.int.inj e, fun e => by rw [e]⟩]; exact h⟩
def rIsN : R2 := fun x y H Q => y = .non ∧ Q (.bl (decide (x = .non))) H
def rNotN : R2 := fun x y H Q => y = .non ∧ Q (.bl (!decide (x = .non))) H
theorem i_isN0 (h : Q (.bl true) H) : rIsN .non .non H Q := ⟨rfl, h⟩
theorem i_isN1 {i : Int} (h : Q (.bl false) H) : rIsN (.int i) .non H Q := ⟨rfl, h⟩
theorem i_isN2 {i : Str} (h : Q (.bl false) H) : rIsN (.str i) .non H Q := ⟨rfl, h⟩
theorem i_isN3 {i : Addr} (h : Q (.bl false) H) : rIsN (.ref i) .non H Q := ⟨rfl, h⟩
theorem i_isN4 {i : Bool} (h : Q (.bl false) H) : rIsN (.bl i) .non H Q := ⟨rfl, h⟩
theorem i_notN0 (h : Q (.bl false) H) : rNotN .non .non H Q := ⟨rfl, h⟩
theorem i_notN1 {i : Int} (h : Q (.bl true) H) : rNotN (.int i) .non H Q := ⟨rfl, h⟩
theorem i_notN3 {i : Addr} (h : Q (.bl true) H) : rNotN (.ref i) .non H Q := ⟨rfl, h⟩
theorem i_iteT {A B : Prop} (h : A) : if true = true then A else B := iteT h
theorem i_iteF {A B : Prop} (h : B) : if false = true then A else B := iteF h
theorem i_iteNT {A B : Prop} (h : B) : if (!true) = true then A else B := iteF h
theorem i_iteNF {A B : Prop} (h : A) : if (!false) = true then A else B := iteT h
theorem ifd {p A B : Prop} [Decidable p] (h1 : p → A) (h2 : ¬ p → B) : if decide p = true then A else B := ite2 (fun e => h1 (of_decide_eq_true e)) (fun e => h2 (fun q => e (decide_eq_true q)))
theorem ifnd {p A B : Prop} [Decidable p] (h1 : ¬ p → A) (h2 : p → B) : if (!decide p) = true then A else B := ite2 (fun e => h1 (by simpa using e)) (fun e => h2 (by simpa using e))
theorem i_nil {q : List V → Hp → Prop} (h : q [] H) : tNil σ H q := h
theorem i_cons {q : List V → Hp → Prop} {t : TA} (h : ta σ H fun x H1 => t σ H1 fun xs H2 => q (x :: xs) H2) : tCons ta t σ H q := h
theorem i_lst {t : TA} (h : t σ H fun xs H1 => xs.length ≤ sizeLine ∧ ∀ p, H1 p = none → Q (.ref p) (upd H1 p (.lst xs))) : tLst t σ H Q := h
theorem i_tup {t : TA} (h : t σ H fun xs H1 => xs.length ≤ sizeLine ∧ ∀ p, H1 p = none → Q (.ref p) (upd H1 p (.tup xs))) : tTup t σ H Q := h
theorem i_call {t : TA} {sp : Sp} {dvs : List V} {E : XK} (h : t σ H fun vs H1 => sp (vs ++ dvs) H1 Q E) : tCall sp dvs E t σ H Q := h
theorem i_CB {t : TA} {f : List V → Hp → VK → Prop} (h : t σ H fun vs H1 => f vs H1 Q) : tCB f t σ H Q := h
theorem i_make {t : TA} {sp : Sp} {dvs : List V} {E : XK} {C : Addr} (h : t σ H fun vs H1 => ∀ x dx, H1 x = none → H1 dx = none → dx ≠ x → sp (.ref x :: (vs ++ dvs)) (upd (upd H1 dx (.own x)) x (.ins C dx [])) (fun v H2 => v = .non ∧ Q (.ref x) H2) E) : tMake C sp dvs E t σ H Q := h
def kFld (K : PySem.W.Frag) (f : Str) (Q : VK) : VK := fun x H1 => ∃ a C dx fs v, x = .ref a ∧ H1 a = some (.ins C dx fs) ∧ Cls K C ∧ NoAttr K C f ∧ fs.lookup f = some v ∧ Q v H1
theorem i_fld {K : PySem.W.Frag} {f : Str} (h : ta σ H (kFld K f Q)) : tFld K ta f σ H Q := h
theorem i_fldK {K : PySem.W.Frag} {f : Str} {a C dx : Addr} {fs : List (Str × V)} {v : V} (h : H a = some (.ins C dx fs)) (hc : Cls K C) (hn : NoAttr K C f) (hl : fs.lookup f = some v) (q : Q v H) : kFld K f Q (.ref a) H := ⟨a, C, dx, fs, v, rfl, h, hc, hn, hl, q⟩
theorem i_sfld {K : PySem.W.Frag} {f : Str} {tv : TE} (h : tv σ H fun y H1 => ta σ H1 fun x H2 => ∃ a C dx fs, x = .ref a ∧ H2 a = some (.ins C dx fs) ∧ Cls K C ∧ NoAttr K C f ∧ fs.length < 1000 ∧ n σ (upd H2 a (.ins C dx (putF f y fs)))) : sFld K ta tv f ⟨n, r, b, c⟩ σ H := h
theorem i_meth {C : Addr} {m : Str} {sp : Sp} {dvs : List V} {E : XK} {t : TA} (h : ta σ H fun x H1 => ∃ a dx fs, x = .ref a ∧ H1 a = some (.ins C dx fs) ∧ fs.lookup m = none ∧ t σ H1 fun vs H2 => sp (x :: (vs ++ dvs)) H2 Q E) : tMeth C m sp dvs E ta t σ H Q := h
theorem i_noPart {q : Option Int → Hp → Prop} (h : q none H) : tNoPart σ H q := h
def kI (q : Int → Hp → Prop) : VK := fun x H1 => ∃ i, x = .int i ∧ q i H1
theorem i_part {q : Option Int → Hp → Prop} (h : te σ H (kI fun i => q (some i))) : tPart te σ H q := h
theorem i_kI {i : Int} {q : Int → Hp → Prop} (h : q i H) : kI q (.int i) H := ⟨i, rfl, h⟩
theorem i_sl {f : V → Option Int → Option Int → Hp → VK → Prop} {tl th : TO} (h : te σ H fun x H1 => tl σ H1 fun l H2 => th σ H2 fun u H3 => f x l u H3 Q) : tSl f te tl th σ H Q := h
theorem i_bm {K : PySem.W.Frag} {T : String} {f : V → List V → Hp → VK → Prop} {to : TE} {t : TA} (h : to σ H fun x H1 => tyV K T x H1 ∧ t σ H1 fun xs H2 => f x xs H2 Q) : tBM K T f to t σ H Q := h
theorem i_for {wi : TI} {g : TG} {tb : TS} (h : wi σ H fun J H1 => ∃ W : Nat → Nat → St → Hp → Prop, (∃ m, W 0 m σ H1) ∧ ∀ i m σ H, W i m σ H →
  (J.stop i H ∧ n σ H) ∨ (J.go i H ∧ ∃ N : St → Hp → Prop, (∀ σ' H', N σ' H' → ∃ m', m' < m ∧ W (i + 1) m' σ' H') ∧ ∀ x H', J.yld i H x H' → g x σ H' fun σ2 H2 => tb ⟨N, r, n, N⟩ σ2 H2)) : tFor wi g tb ⟨n, r, b, c⟩ σ H := h
theorem i_iL {K : PySem.W.Frag} {R : It → Hp → Prop} (h : te σ H fun x H1 => ∃ a, x = .ref a ∧ (∃ xs, SqL K H1 a xs) ∧ R (Itl K a) H1) : iList K te σ H R := h
theorem i_iR {ta : TA} {R : It → Hp → Prop} (h : ta σ H fun vs H1 => ∃ j : Int, vs = [.int j] ∧ -(2 ^ 62) ≤ j ∧ j < 2 ^ 62 ∧ R (Itr 0 j.toNat) H1) : iRng1 ta σ H R := h
end
theorem i_v0 {v : V} {l : St} {H : Hp} {Q : VK} (h : Q v H) : tVar 0 (some v :: l) H Q := ⟨v, rfl, h⟩
theorem i_v1 {x0 : Option V} {v : V} {l : St} {H : Hp} {Q : VK} (h : Q v H) : tVar 1 (x0 :: some v :: l) H Q := ⟨v, rfl, h⟩
theorem i_g1 {x0 : Option V} {y : Option V} {v : V} {l : St} {H : Hp} {Q : St → Hp → Prop} (h : Q (x0 :: some v :: l) H) : gName 1 v (x0 :: y :: l) H Q := h
theorem i_v2 {x0 x1 : Option V} {v : V} {l : St} {H : Hp} {Q : VK} (h : Q v H) : tVar 2 (x0 :: x1 :: some v :: l) H Q := ⟨v, rfl, h⟩
theorem i_g2 {x0 x1 : Option V} {y : Option V} {v : V} {l : St} {H : Hp} {Q : St → Hp → Prop} (h : Q (x0 :: x1 :: some v :: l) H) : gName 2 v (x0 :: x1 :: y :: l) H Q := h
theorem i_v3 {x0 x1 x2 : Option V} {v : V} {l : St} {H : Hp} {Q : VK} (h : Q v H) : tVar 3 (x0 :: x1 :: x2 :: some v :: l) H Q := ⟨v, rfl, h⟩
theorem i_g3 {x0 x1 x2 : Option V} {y : Option V} {v : V} {l : St} {H : Hp} {Q : St → Hp → Prop} (h : Q (x0 :: x1 :: x2 :: some v :: l) H) : gName 3 v (x0 :: x1 :: x2 :: y :: l) H Q := h
theorem i_v4 {x0 x1 x2 x3 : Option V} {v : V} {l : St} {H : Hp} {Q : VK} (h : Q v H) : tVar 4 (x0 :: x1 :: x2 :: x3 :: some v :: l) H Q := ⟨v, rfl, h⟩
theorem i_g4 {x0 x1 x2 x3 : Option V} {y : Option V} {v : V} {l : St} {H : Hp} {Q : St → Hp → Prop} (h : Q (x0 :: x1 :: x2 :: x3 :: some v :: l) H) : gName 4 v (x0 :: x1 :: x2 :: x3 :: y :: l) H Q := h
theorem i_v5 {x0 x1 x2 x3 x4 : Option V} {v : V} {l : St} {H : Hp} {Q : VK} (h : Q v H) : tVar 5 (x0 :: x1 :: x2 :: x3 :: x4 :: some v :: l) H Q := ⟨v, rfl, h⟩
theorem i_g5 {x0 x1 x2 x3 x4 : Option V} {y : Option V} {v : V} {l : St} {H : Hp} {Q : St → Hp → Prop} (h : Q (x0 :: x1 :: x2 :: x3 :: x4 :: some v :: l) H) : gName 5 v (x0 :: x1 :: x2 :: x3 :: x4 :: y :: l) H Q := h
theorem i_v6 {x0 x1 x2 x3 x4 x5 : Option V} {v : V} {l : St} {H : Hp} {Q : VK} (h : Q v H) : tVar 6 (x0 :: x1 :: x2 :: x3 :: x4 :: x5 :: some v :: l) H Q := ⟨v, rfl, h⟩
theorem i_g6 {x0 x1 x2 x3 x4 x5 : Option V} {y : Option V} {v : V} {l : St} {H : Hp} {Q : St → Hp → Prop} (h : Q (x0 :: x1 :: x2 :: x3 :: x4 :: x5 :: some v :: l) H) : gName 6 v (x0 :: x1 :: x2 :: x3 :: x4 :: x5 :: y :: l) H Q := h
theorem i_v7 {x0 x1 x2 x3 x4 x5 x6 : Option V} {v : V} {l : St} {H : Hp} {Q : VK} (h : Q v H) : tVar 7 (x0 :: x1 :: x2 :: x3 :: x4 :: x5 :: x6 :: some v :: l) H Q := ⟨v, rfl, h⟩
theorem i_g7 {x0 x1 x2 x3 x4 x5 x6 : Option V} {y : Option V} {v : V} {l : St} {H : Hp} {Q : St → Hp → Prop} (h : Q (x0 :: x1 :: x2 :: x3 :: x4 :: x5 :: x6 :: some v :: l) H) : gName 7 v (x0 :: x1 :: x2 :: x3 :: x4 :: x5 :: x6 :: y :: l) H Q := h
theorem i_v8 {x0 x1 x2 x3 x4 x5 x6 x7 : Option V} {v : V} {l : St} {H : Hp} {Q : VK} (h : Q v H) : tVar 8 (x0 :: x1 :: x2 :: x3 :: x4 :: x5 :: x6 :: x7 :: some v :: l) H Q := ⟨v, rfl, h⟩
theorem i_g8 {x0 x1 x2 x3 x4 x5 x6 x7 : Option V} {y : Option V} {v : V} {l : St} {H : Hp} {Q : St → Hp → Prop} (h : Q (x0 :: x1 :: x2 :: x3 :: x4 :: x5 :: x6 :: x7 :: some v :: l) H) : gName 8 v (x0 :: x1 :: x2 :: x3 :: x4 :: x5 :: x6 :: x7 :: y :: l) H Q := h
theorem i_v9 {x0 x1 x2 x3 x4 x5 x6 x7 x8 : Option V} {v : V} {l : St} {H : Hp} {Q : VK} (h : Q v H) : tVar 9 (x0 :: x1 :: x2 :: x3 :: x4 :: x5 :: x6 :: x7 :: x8 :: some v :: l) H Q := ⟨v, rfl, h⟩
theorem i_g9 {x0 x1 x2 x3 x4 x5 x6 x7 x8 : Option V} {y : Option V} {v : V} {l : St} {H : Hp} {Q : St → Hp → Prop} (h : Q (x0 :: x1 :: x2 :: x3 :: x4 :: x5 :: x6 :: x7 :: x8 :: some v :: l) H) : gName 9 v (x0 :: x1 :: x2 :: x3 :: x4 :: x5 :: x6 :: x7 :: x8 :: y :: l) H Q := h
theorem i_v10 {x0 x1 x2 x3 x4 x5 x6 x7 x8 x9 : Option V} {v : V} {l : St} {H : Hp} {Q : VK} (h : Q v H) : tVar 10 (x0 :: x1 :: x2 :: x3 :: x4 :: x5 :: x6 :: x7 :: x8 :: x9 :: some v :: l) H Q := ⟨v, rfl, h⟩
theorem i_g10 {x0 x1 x2 x3 x4 x5 x6 x7 x8 x9 : Option V} {y : Option V} {v : V} {l : St} {H : Hp} {Q : St → Hp → Prop} (h : Q (x0 :: x1 :: x2 :: x3 :: x4 :: x5 :: x6 :: x7 :: x8 :: x9 :: some v :: l) H) : gName 10 v (x0 :: x1 :: x2 :: x3 :: x4 :: x5 :: x6 :: x7 :: x8 :: x9 :: y :: l) H Q := h
theorem i_v11 {x0 x1 x2 x3 x4 x5 x6 x7 x8 x9 x10 : Option V} {v : V} {l : St} {H : Hp} {Q : VK} (h : Q v H) : tVar 11 (x0 :: x1 :: x2 :: x3 :: x4 :: x5 :: x6 :: x7 :: x8 :: x9 :: x10 :: some v :: l) H Q := ⟨v, rfl, h⟩
theorem i_g11 {x0 x1 x2 x3 x4 x5 x6 x7 x8 x9 x10 : Option V} {y : Option V} {v : V} {l : St} {H : Hp} {Q : St → Hp → Prop} (h : Q (x0 :: x1 :: x2 :: x3 :: x4 :: x5 :: x6 :: x7 :: x8 :: x9 :: x10 :: some v :: l) H) : gName 11 v (x0 :: x1 :: x2 :: x3 :: x4 :: x5 :: x6 :: x7 :: x8 :: x9 :: x10 :: y :: l) H Q := h
theorem i_v12 {x0 x1 x2 x3 x4 x5 x6 x7 x8 x9 x10 x11 : Option V} {v : V} {l : St} {H : Hp} {Q : VK} (h : Q v H) : tVar 12 (x0 :: x1 :: x2 :: x3 :: x4 :: x5 :: x6 :: x7 :: x8 :: x9 :: x10 :: x11 :: some v :: l) H Q := ⟨v, rfl, h⟩
theorem i_g12 {x0 x1 x2 x3 x4 x5 x6 x7 x8 x9 x10 x11 : Option V} {y : Option V} {v : V} {l : St} {H : Hp} {Q : St → Hp → Prop} (h : Q (x0 :: x1 :: x2 :: x3 :: x4 :: x5 :: x6 :: x7 :: x8 :: x9 :: x10 :: x11 :: some v :: l) H) : gName 12 v (x0 :: x1 :: x2 :: x3 :: x4 :: x5 :: x6 :: x7 :: x8 :: x9 :: x10 :: x11 :: y :: l) H Q := h
theorem i_v13 {x0 x1 x2 x3 x4 x5 x6 x7 x8 x9 x10 x11 x12 : Option V} {v : V} {l : St} {H : Hp} {Q : VK} (h : Q v H) : tVar 13 (x0 :: x1 :: x2 :: x3 :: x4 :: x5 :: x6 :: x7 :: x8 :: x9 :: x10 :: x11 :: x12 :: some v :: l) H Q := ⟨v, rfl, h⟩
theorem i_g13 {x0 x1 x2 x3 x4 x5 x6 x7 x8 x9 x10 x11 x12 : Option V} {y : Option V} {v : V} {l : St} {H : Hp} {Q : St → Hp → Prop} (h : Q (x0 :: x1 :: x2 :: x3 :: x4 :: x5 :: x6 :: x7 :: x8 :: x9 :: x10 :: x11 :: x12 :: some v :: l) H) : gName 13 v (x0 :: x1 :: x2 :: x3 :: x4 :: x5 :: x6 :: x7 :: x8 :: x9 :: x10 :: x11 :: x12 :: y :: l) H Q := h
theorem i_v14 {x0 x1 x2 x3 x4 x5 x6 x7 x8 x9 x10 x11 x12 x13 : Option V} {v : V} {l : St} {H : Hp} {Q : VK} (h : Q v H) : tVar 14 (x0 :: x1 :: x2 :: x3 :: x4 :: x5 :: x6 :: x7 :: x8 :: x9 :: x10 :: x11 :: x12 :: x13 :: some v :: l) H Q := ⟨v, rfl, h⟩
theorem i_g14 {x0 x1 x2 x3 x4 x5 x6 x7 x8 x9 x10 x11 x12 x13 : Option V} {y : Option V} {v : V} {l : St} {H : Hp} {Q : St → Hp → Prop} (h : Q (x0 :: x1 :: x2 :: x3 :: x4 :: x5 :: x6 :: x7 :: x8 :: x9 :: x10 :: x11 :: x12 :: x13 :: some v :: l) H) : gName 14 v (x0 :: x1 :: x2 :: x3 :: x4 :: x5 :: x6 :: x7 :: x8 :: x9 :: x10 :: x11 :: x12 :: x13 :: y :: l) H Q := h
theorem i_v15 {x0 x1 x2 x3 x4 x5 x6 x7 x8 x9 x10 x11 x12 x13 x14 : Option V} {v : V} {l : St} {H : Hp} {Q : VK} (h : Q v H) : tVar 15 (x0 :: x1 :: x2 :: x3 :: x4 :: x5 :: x6 :: x7 :: x8 :: x9 :: x10 :: x11 :: x12 :: x13 :: x14 :: some v :: l) H Q := ⟨v, rfl, h⟩
theorem i_g15 {x0 x1 x2 x3 x4 x5 x6 x7 x8 x9 x10 x11 x12 x13 x14 : Option V} {y : Option V} {v : V} {l : St} {H : Hp} {Q : St → Hp → Prop} (h : Q (x0 :: x1 :: x2 :: x3 :: x4 :: x5 :: x6 :: x7 :: x8 :: x9 :: x10 :: x11 :: x12 :: x13 :: x14 :: some v :: l) H) : gName 15 v (x0 :: x1 :: x2 :: x3 :: x4 :: x5 :: x6 :: x7 :: x8 :: x9 :: x10 :: x11 :: x12 :: x13 :: x14 :: y :: l) H Q := h
theorem i_v16 {x0 x1 x2 x3 x4 x5 x6 x7 x8 x9 x10 x11 x12 x13 x14 x15 : Option V} {v : V} {l : St} {H : Hp} {Q : VK} (h : Q v H) : tVar 16 (x0 :: x1 :: x2 :: x3 :: x4 :: x5 :: x6 :: x7 :: x8 :: x9 :: x10 :: x11 :: x12 :: x13 :: x14 :: x15 :: some v :: l) H Q := ⟨v, rfl, h⟩
theorem i_g16 {x0 x1 x2 x3 x4 x5 x6 x7 x8 x9 x10 x11 x12 x13 x14 x15 : Option V} {y : Option V} {v : V} {l : St} {H : Hp} {Q : St → Hp → Prop} (h : Q (x0 :: x1 :: x2 :: x3 :: x4 :: x5 :: x6 :: x7 :: x8 :: x9 :: x10 :: x11 :: x12 :: x13 :: x14 :: x15 :: some v :: l) H) : gName 16 v (x0 :: x1 :: x2 :: x3 :: x4 :: x5 :: x6 :: x7 :: x8 :: x9 :: x10 :: x11 :: x12 :: x13 :: x14 :: x15 :: y :: l) H Q := h
theorem i_v17 {x0 x1 x2 x3 x4 x5 x6 x7 x8 x9 x10 x11 x12 x13 x14 x15 x16 : Option V} {v : V} {l : St} {H : Hp} {Q : VK} (h : Q v H) : tVar 17 (x0 :: x1 :: x2 :: x3 :: x4 :: x5 :: x6 :: x7 :: x8 :: x9 :: x10 :: x11 :: x12 :: x13 :: x14 :: x15 :: x16 :: some v :: l) H Q := ⟨v, rfl, h⟩
theorem i_g17 {x0 x1 x2 x3 x4 x5 x6 x7 x8 x9 x10 x11 x12 x13 x14 x15 x16 : Option V} {y : Option V} {v : V} {l : St} {H : Hp} {Q : St → Hp → Prop} (h : Q (x0 :: x1 :: x2 :: x3 :: x4 :: x5 :: x6 :: x7 :: x8 :: x9 :: x10 :: x11 :: x12 :: x13 :: x14 :: x15 :: x16 :: some v :: l) H) : gName 17 v (x0 :: x1 :: x2 :: x3 :: x4 :: x5 :: x6 :: x7 :: x8 :: x9 :: x10 :: x11 :: x12 :: x13 :: x14 :: x15 :: x16 :: y :: l) H Q := h
end G
namespace G
open PySem L2
theorem same_new {H : Hp} {p : Addr} (h : H p = none) (o : HO) : Same H (upd H p o) := fun b u q => by rw [upd_ne (ne_of_none q h)]; exact q
def tyN (H : Hp) : V → Option String
  | .non => some "NoneType"
  | .bl _ => some "bool"
  | .int _ => some "int"
  | .str _ => some "str"
  | .ref a => match H a with
    | some (.lst _) => some "list"
    | some (.frz _ (.lst _)) => some "list"
    | some (.tup _) => some "tuple"
    | some (.dK _) => some "dict"
    | some (.dT _) => some "dict"
    | _ => none
  | _ => none
def isK (t n : String) : Option Bool := if ["int", "bool", "str", "list", "tuple", "dict"].contains n then some (t == n || (t == "bool" && n == "int")) else none
def cIsi : List V → Hp → VK → Prop := fun xs H Q => ∃ x n t k, xs = [x, .ty n] ∧ tyN H x = some t ∧ isK t n = some k ∧ Q (.bl k) H
theorem isK_int_int : isK "int" "int" = some true := by decide +kernel
theorem isK_int_bool : isK "int" "bool" = some false := by decide +kernel
theorem isK_int_str : isK "int" "str" = some false := by decide +kernel
theorem isK_int_list : isK "int" "list" = some false := by decide +kernel
theorem isK_int_tuple : isK "int" "tuple" = some false := by decide +kernel
theorem isK_int_dict : isK "int" "dict" = some false := by decide +kernel
theorem isK_bool_int : isK "bool" "int" = some true := by decide +kernel
theorem isK_bool_bool : isK "bool" "bool" = some true := by decide +kernel
theorem isK_bool_str : isK "bool" "str" = some false := by decide +kernel
theorem isK_bool_list : isK "bool" "list" = some false := by decide +kernel
theorem isK_bool_tuple : isK "bool" "tuple" = some false := by decide +kernel
theorem isK_bool_dict : isK "bool" "dict" = some false := by decide +kernel
theorem isK_str_int : isK "str" "int" = some false := by decide +kernel
theorem isK_str_bool : isK "str" "bool" = some false := by decide +kernel
theorem isK_str_str : isK "str" "str" = some true := by decide +kernel
theorem isK_str_list : isK "str" "list" = some false := by decide +kernel
theorem isK_str_tuple : isK "str" "tuple" = some false := by decide +kernel
theorem isK_str_dict : isK "str" "dict" = some false := by decide +kernel
theorem isK_NoneType_int : isK "NoneType" "int" = some false := by decide +kernel
theorem isK_NoneType_bool : isK "NoneType" "bool" = some false := by decide +kernel
theorem isK_NoneType_str : isK "NoneType" "str" = some false := by decide +kernel
theorem isK_NoneType_list : isK "NoneType" "list" = some false := by decide +kernel
theorem isK_NoneType_tuple : isK "NoneType" "tuple" = some false := by decide +kernel
theorem isK_NoneType_dict : isK "NoneType" "dict" = some false := by decide +kernel
theorem isK_list_int : isK "list" "int" = some false := by decide +kernel
theorem isK_list_bool : isK "list" "bool" = some false := by decide +kernel
theorem isK_list_str : isK "list" "str" = some false := by decide +kernel
theorem isK_list_list : isK "list" "list" = some true := by decide +kernel
theorem isK_list_tuple : isK "list" "tuple" = some false := by decide +kernel
theorem isK_list_dict : isK "list" "dict" = some false := by decide +kernel
theorem isK_tuple_int : isK "tuple" "int" = some false := by decide +kernel
theorem isK_tuple_bool : isK "tuple" "bool" = some false := by decide +kernel
theorem isK_tuple_str : isK "tuple" "str" = some false := by decide +kernel
theorem isK_tuple_list : isK "tuple" "list" = some false := by decide +kernel
theorem isK_tuple_tuple : isK "tuple" "tuple" = some true := by decide +kernel
theorem isK_tuple_dict : isK "tuple" "dict" = some false := by decide +kernel
theorem isK_dict_int : isK "dict" "int" = some false := by decide +kernel
theorem isK_dict_bool : isK "dict" "bool" = some false := by decide +kernel
theorem isK_dict_str : isK "dict" "str" = some false := by decide +kernel
theorem isK_dict_list : isK "dict" "list" = some false := by decide +kernel
theorem isK_dict_tuple : isK "dict" "tuple" = some false := by decide +kernel
theorem isK_dict_dict : isK "dict" "dict" = some true := by decide +kernel
theorem i_isiI_int {i : Int} {H : Hp} {Q : VK} (h : Q (.bl true) H) : cIsi [.int i, .ty "int"] H Q := ⟨_, _, _, _, rfl, rfl, isK_int_int, h⟩
theorem i_isiI_bool {i : Int} {H : Hp} {Q : VK} (h : Q (.bl false) H) : cIsi [.int i, .ty "bool"] H Q := ⟨_, _, _, _, rfl, rfl, isK_int_bool, h⟩
theorem i_isiS_int {i : Str} {H : Hp} {Q : VK} (h : Q (.bl false) H) : cIsi [.str i, .ty "int"] H Q := ⟨_, _, _, _, rfl, rfl, isK_str_int, h⟩
theorem i_isiS_str {i : Str} {H : Hp} {Q : VK} (h : Q (.bl true) H) : cIsi [.str i, .ty "str"] H Q := ⟨_, _, _, _, rfl, rfl, isK_str_str, h⟩
theorem i_isiL_int {a : Addr} {H : Hp} {Q : VK} {xs : List V} (hp : H a = some (.lst xs)) (h : Q (.bl false) H) : cIsi [.ref a, .ty "int"] H Q := ⟨_, _, _, _, rfl, (by show (match H a with | some (.lst _) => some "list" | some (.frz _ (.lst _)) => some "list" | some (.tup _) => some "tuple" | some (.dK _) => some "dict" | some (.dT _) => some "dict" | _ => none) = some "list"; rw [hp]), isK_list_int, h⟩
theorem i_isiT_int {a : Addr} {H : Hp} {Q : VK} {xs : List V} (hp : H a = some (.tup xs)) (h : Q (.bl false) H) : cIsi [.ref a, .ty "int"] H Q := ⟨_, _, _, _, rfl, (by show (match H a with | some (.lst _) => some "list" | some (.frz _ (.lst _)) => some "list" | some (.tup _) => some "tuple" | some (.dK _) => some "dict" | some (.dT _) => some "dict" | _ => none) = some "tuple"; rw [hp]), isK_tuple_int, h⟩
theorem i_isiL_str {a : Addr} {H : Hp} {Q : VK} {xs : List V} (hp : H a = some (.lst xs)) (h : Q (.bl false) H) : cIsi [.ref a, .ty "str"] H Q := ⟨_, _, _, _, rfl, (by show (match H a with | some (.lst _) => some "list" | some (.frz _ (.lst _)) => some "list" | some (.tup _) => some "tuple" | some (.dK _) => some "dict" | some (.dT _) => some "dict" | _ => none) = some "list"; rw [hp]), isK_list_str, h⟩
theorem i_isiT_str {a : Addr} {H : Hp} {Q : VK} {xs : List V} (hp : H a = some (.tup xs)) (h : Q (.bl false) H) : cIsi [.ref a, .ty "str"] H Q := ⟨_, _, _, _, rfl, (by show (match H a with | some (.lst _) => some "list" | some (.frz _ (.lst _)) => some "list" | some (.tup _) => some "tuple" | some (.dK _) => some "dict" | some (.dT _) => some "dict" | _ => none) = some "tuple"; rw [hp]), isK_tuple_str, h⟩
theorem i_isiL_list {a : Addr} {H : Hp} {Q : VK} {xs : List V} (hp : H a = some (.lst xs)) (h : Q (.bl true) H) : cIsi [.ref a, .ty "list"] H Q := ⟨_, _, _, _, rfl, (by show (match H a with | some (.lst _) => some "list" | some (.frz _ (.lst _)) => some "list" | some (.tup _) => some "tuple" | some (.dK _) => some "dict" | some (.dT _) => some "dict" | _ => none) = some "list"; rw [hp]), isK_list_list, h⟩
theorem i_isiT_list {a : Addr} {H : Hp} {Q : VK} {xs : List V} (hp : H a = some (.tup xs)) (h : Q (.bl false) H) : cIsi [.ref a, .ty "list"] H Q := ⟨_, _, _, _, rfl, (by show (match H a with | some (.lst _) => some "list" | some (.frz _ (.lst _)) => some "list" | some (.tup _) => some "tuple" | some (.dK _) => some "dict" | some (.dT _) => some "dict" | _ => none) = some "tuple"; rw [hp]), isK_tuple_list, h⟩
theorem i_isiL_tuple {a : Addr} {H : Hp} {Q : VK} {xs : List V} (hp : H a = some (.lst xs)) (h : Q (.bl false) H) : cIsi [.ref a, .ty "tuple"] H Q := ⟨_, _, _, _, rfl, (by show (match H a with | some (.lst _) => some "list" | some (.frz _ (.lst _)) => some "list" | some (.tup _) => some "tuple" | some (.dK _) => some "dict" | some (.dT _) => some "dict" | _ => none) = some "list"; rw [hp]), isK_list_tuple, h⟩
theorem i_isiT_tuple {a : Addr} {H : Hp} {Q : VK} {xs : List V} (hp : H a = some (.tup xs)) (h : Q (.bl true) H) : cIsi [.ref a, .ty "tuple"] H Q := ⟨_, _, _, _, rfl, (by show (match H a with | some (.lst _) => some "list" | some (.frz _ (.lst _)) => some "list" | some (.tup _) => some "tuple" | some (.dK _) => some "dict" | some (.dT _) => some "dict" | _ => none) = some "tuple"; rw [hp]), isK_tuple_tuple, h⟩
def cLenL (K : PySem.W.Frag) : List V → Hp → VK → Prop := fun xs H Q => ∃ p ys, xs = [.ref p] ∧ (SqL K H p ys ∨ SqT K H p ys) ∧ Q (.int ys.length) H
theorem i_lenL {K : PySem.W.Frag} {a : Addr} {H : Hp} {Q : VK} {xs : List V} (hp : SqL K H a xs) (h : Q (.int xs.length) H) : cLenL K [.ref a] H Q := ⟨a, xs, rfl, .inl hp, h⟩
theorem i_ixL {K : PySem.W.Frag} {a : Addr} {H : Hp} {Q : VK} {xs : List V} {i : Int} {v : V} (hp : SqL K H a xs) (hi : atI xs i = some v) (h : Q v H) : rIxL K (.ref a) (.int i) H Q := ⟨a, xs, i, v, rfl, rfl, hp, hi, h⟩
section
variable {K : PySem.W.Frag} {a : Addr} {xs : List V} {g : TG} {tb : TS} {σ : St} {H : Hp} {n : St → Hp → Prop} {r : VK}
theorem forL (xs : List V) (Pv : Nat → St → Hp → Prop) (h0 : Pv 0 σ H) (hl : ∀ i σ H, i ≤ xs.length → Pv i σ H → SqL K H a xs)
    (hs : ∀ i x σ H, xs[i]? = some x → Pv i σ H → g x σ H fun σ2 H2 => tb ⟨Pv (i + 1), r, n, Pv (i + 1)⟩ σ2 H2) (hd : ∀ σ H, Pv xs.length σ H → n σ H) :
    ∃ W : Nat → Nat → St → Hp → Prop, (∃ m, W 0 m σ H) ∧ ∀ i m σ H, W i m σ H →
      ((Itl K a).stop i H ∧ n σ H) ∨ ((Itl K a).go i H ∧ ∃ N : St → Hp → Prop, (∀ σ' H', N σ' H' → ∃ m', m' < m ∧ W (i + 1) m' σ' H') ∧ ∀ x H', (Itl K a).yld i H x H' → g x σ H' fun σ2 H2 => tb ⟨N, r, n, N⟩ σ2 H2) :=
  for_list (D := ⟨n, r, fun _ _ => False, fun _ _ => False⟩) Pv h0 hl hs hd
theorem forR {lo : Int} {k : Nat} (Pv : Nat → St → Hp → Prop) (h0 : Pv 0 σ H)
    (hs : ∀ i σ H, i < k → Pv i σ H → g (.int (lo + i)) σ H fun σ2 H2 => tb ⟨Pv (i + 1), r, n, Pv (i + 1)⟩ σ2 H2) (hd : ∀ σ H, Pv k σ H → n σ H) :
    ∃ W : Nat → Nat → St → Hp → Prop, (∃ m, W 0 m σ H) ∧ ∀ i m σ H, W i m σ H →
      ((Itr lo k).stop i H ∧ n σ H) ∨ ((Itr lo k).go i H ∧ ∃ N : St → Hp → Prop, (∀ σ' H', N σ' H' → ∃ m', m' < m ∧ W (i + 1) m' σ' H') ∧ ∀ x H', (Itr lo k).yld i H x H' → g x σ H' fun σ2 H2 => tb ⟨N, r, n, N⟩ σ2 H2) :=
  for_range (D := ⟨n, r, fun _ _ => False, fun _ _ => False⟩) Pv h0 hs hd
end
theorem len_ok {n : Nat} (h : n ≤ 1000000) : n ≤ sizeLine := Nat.le_trans h (by decide)
end G
namespace G
open PySem L2
def rCatS : R2 := fun x y H Q => ∃ i j, x = .str i ∧ y = .str j ∧ i.length + j.length ≤ sizeLine ∧ Q (.str (i ++ j)) H
theorem i_catS {i j : Str} {H : Hp} {Q : VK} (hz : i.length + j.length ≤ sizeLine) (h : Q (.str (i ++ j)) H) : rCatS (.str i) (.str j) H Q := ⟨i, j, rfl, rfl, hz, h⟩
theorem i_ixS {z : Str} {i : Int} {c : Nat} {H : Hp} {Q : VK} (hz : z.length ≤ sizeLine) (hi : atI z.cps.toList i = some c) (h : Q (.str ⟨#[c]⟩) H) : rIxS (.str z) (.int i) H Q := ⟨z, i, c, rfl, rfl, hz, hi, h⟩
theorem i_ixSx {z : Str} {i : Int} {H : Hp} {Q : VK} (hz : z.length ≤ sizeLine) (h0 : 0 ≤ i) (h1 : i < z.length) (h : ∀ c : Nat, Q (.str ⟨#[c]⟩) H) : rIxS (.str z) (.int i) H Q := by
  have hk : i.toNat < z.cps.toList.length := by rw [Array.length_toList]; exact (Int.toNat_lt h0).mpr h1
  have ek : i = ((i.toNat : Nat) : Int) := by omega
  have q : atI z.cps.toList ((i.toNat : Nat) : Int) = some z.cps.toList[i.toNat] := atI_nat (List.getElem?_eq_getElem hk)
  rw [← ek] at q
  exact i_ixS hz q (h _)
def cutS (z : Str) (lo hi : Option Int) : Str := ⟨((z.cps.toList.drop (HT.sIx z.length 0 lo)).take (HT.sIx z.length z.length hi - HT.sIx z.length 0 lo)).toArray⟩
theorem cutS_length (z : Str) (lo hi : Option Int) : (cutS z lo hi).length ≤ z.length := by
  show (List.toArray _).size ≤ z.cps.size
  rw [List.size_toArray, List.length_take, List.length_drop, Array.length_toList]
  omega
def rSlS : V → Option Int → Option Int → Hp → VK → Prop := fun x lo hi H Q => ∃ z, x = .str z ∧ z.length ≤ sizeLine ∧ Q (.str (cutS z lo hi)) H
theorem i_slS {z : Str} {lo hi : Option Int} {H : Hp} {Q : VK} (hz : z.length ≤ sizeLine) (h : Q (.str (cutS z lo hi)) H) : rSlS (.str z) lo hi H Q := ⟨z, rfl, hz, h⟩
theorem str_len (z : Str) : z.cps.toList.length = z.length := Array.length_toList
def pick (σ : St) (j : Nat) : Option V := match σ[j]? with
  | some v => v
  | none => none
def tLC (wi : TI) (caps : List Nat) (tc : TT) (te : TE) : TE := fun σ H Q => wi σ H fun J H1 => ∃ W : Nat → Nat → List V → Hp → Prop, (∃ m, W 0 m [] H1) ∧ ∀ i m ys H, W i m ys H →
  (J.stop i H ∧ ∀ p, H p = none → Q (.ref p) (upd H p (.lst ys))) ∨
  (J.go i H ∧ ys.length < sizeLine ∧ ∀ x H', J.yld i H x H' → tc (some x :: caps.map (pick σ)) H' fun k H2 => if k = true then te (some x :: caps.map (pick σ)) H2 (fun y H3 => ∃ m', m' < m ∧ W (i + 1) m' (ys ++ [y]) H3) else ∃ m', m' < m ∧ W (i + 1) m' ys H2)
def tTrue : TT := fun _ H Q => Q true H
theorem i_true {σ : St} {H : Hp} {Q : Bool → Hp → Prop} (h : Q true H) : tTrue σ H Q := h
end G
namespace G
open PySem L2
end G
namespace G
open PySem L2
structure EqD (K : PySem.W.Frag) (C : Addr) : Prop where
  eq : PySem.W.findIn K (.ref C) "__eq__" = some (some (.builtin "object.__eq__"))
  ob : PySem.W.mroIn K C (.type "object") = some true
end G
namespace G
open PySem L2
def tRaise (C : Addr) (E : XK) (ta : TA) : TS := fun _ σ H => ta σ H fun vs H1 => vs.length ≤ 100 ∧ E (.ref C) none H1
def tMethX (C : Addr) (m : Str) (sp : Sp) (dvs : List V) (E : St → XK) (ta : TE) (t : TA) : TE := fun σ H Q => ta σ H fun x H1 => ∃ a dx fs, x = .ref a ∧ H1 a = some (.ins C dx fs) ∧ fs.lookup m = none ∧
  t σ H1 fun vs H2 => sp (x :: (vs ++ dvs)) H2 Q (E σ)
def tTry (Mt : Value → Prop) (tb : (St → XK) → TS) (th : TS) : TS := fun D σ H => tb (fun σ' cls _ H' => Mt cls ∧ th D σ' H') D σ H
section
variable {σ : St} {H : Hp} {Q : VK} {n : St → Hp → Prop} {r : VK} {b c : St → Hp → Prop} {te : TE} {t : TA}
theorem i_raise {C : Addr} {E : XK} (h : t σ H fun vs H1 => vs.length ≤ 100 ∧ E (.ref C) none H1) : tRaise C E t ⟨n, r, b, c⟩ σ H := h
theorem i_methX {C : Addr} {m : Str} {sp : Sp} {dvs : List V} {E : St → XK} (h : te σ H fun x H1 => ∃ a dx fs, x = .ref a ∧ H1 a = some (.ins C dx fs) ∧ fs.lookup m = none ∧ t σ H1 fun vs H2 => sp (x :: (vs ++ dvs)) H2 Q (E σ)) : tMethX C m sp dvs E te t σ H Q := h
theorem i_try {Mt : Value → Prop} {tb : (St → XK) → TS} {th : TS} (h : tb (fun σ' cls _ H' => Mt cls ∧ th ⟨n, r, b, c⟩ σ' H') ⟨n, r, b, c⟩ σ H) : tTry Mt tb th ⟨n, r, b, c⟩ σ H := h
end
theorem i_gsub {to ti : TE} {ts : TSet} {x : V} {σ : St} {H : Hp} {Q : St → Hp → Prop} (h : to σ H fun o H1 => ti σ H1 fun i H2 => ts o i x H2 fun H3 => Q σ H3) : gSub to ti ts x σ H Q := h
def cListL (K : PySem.W.Frag) : List V → Hp → VK → Prop := fun xs H Q => ∃ (p : Addr) (ys : List V), xs = [.ref p] ∧ SqL K H p ys ∧ ∀ l, H l = none → Q (.ref l) (upd H l (.lst ys))
theorem i_listL {K : PySem.W.Frag} {H : Hp} {Q : VK} {p : Addr} {ys : List V} (h1 : SqL K H p ys) (h : ∀ l, H l = none → Q (.ref l) (upd H l (.lst ys))) : cListL K [.ref p] H Q := ⟨p, ys, rfl, h1, h⟩
def OkN (K : PySem.W.Frag) (H : Hp) (xs : List V) : Prop := ∀ y ∈ xs, y = .non ∨ ∃ a C dx fs, y = .ref a ∧ H a = some (.ins C dx fs) ∧ Cls K C ∧ EqD K C
def rInN (K : PySem.W.Frag) (neg : Bool) : R2 := fun x y H Q => ∃ p xs, x = .non ∧ y = .ref p ∧ SqL K H p xs ∧ OkN K H xs ∧ Q (.bl (if neg then !decide (V.non ∈ xs) else decide (V.non ∈ xs))) H
theorem i_notInN {K : PySem.W.Frag} {H : Hp} {Q : VK} {p : Addr} {xs : List V} (h1 : SqL K H p xs) (h2 : OkN K H xs) (h : Q (.bl (!decide (V.non ∈ xs))) H) : rInN K true .non (.ref p) H Q := ⟨p, xs, rfl, rfl, h1, h2, h⟩
def rIndexN (K : PySem.W.Frag) : V → List V → Hp → VK → Prop := fun x vs H Q => ∃ p xs, x = .ref p ∧ vs = [.non] ∧ SqL K H p xs ∧ OkN K H xs ∧ V.non ∈ xs ∧ Q (.int (xs.idxOf V.non)) H
def eqL (xs ys : List V) : Bool := xs.length == ys.length && (xs.zip ys).all fun p => eqV p.1 p.2
def rEqL (K : PySem.W.Frag) (neg : Bool) : R2 := fun x y H Q => ∃ p q xs ys, x = .ref p ∧ y = .ref q ∧ SqL K H p xs ∧ SqL K H q ys ∧ (xs.length = ys.length → xs.all flatV = true ∧ ys.all flatV = true) ∧ Q (.bl (if neg then !eqL xs ys else eqL xs ys)) H
theorem flat_ints (ns : List Int) : (ns.map V.int).all flatV = true := by
  rw [List.all_eq_true]
  intro x hx
  obtain ⟨i, _, rfl⟩ := List.mem_map.mp hx
  rfl
def Fm (S : List Addr) (H H' : Hp) : Prop := ∀ b o, H b = some o → b ∉ S → H' b = some o
theorem Fm.same {H H' : Hp} (a : Fm [] H H') : Same H H' := fun c o h => a c o h (fun z => nomatch z)
theorem i_notN {x : V} {H : Hp} {Q : VK} (h : Q (.bl (!decide (x = .non))) H) : rNotN x .non H Q := ⟨rfl, h⟩
def LCg (J : It) (caps : List Nat) (tc : TT) (te : TE) (σ : St) (H : Hp) (Q : VK) : Prop := ∃ W : Nat → Nat → List V → Hp → Prop, (∃ m, W 0 m [] H) ∧ ∀ i m ys H, W i m ys H →
  (J.stop i H ∧ ∀ p, H p = none → Q (.ref p) (upd H p (.lst ys))) ∨
  (J.go i H ∧ ys.length < sizeLine ∧ ∀ x H', J.yld i H x H' → tc (some x :: caps.map (pick σ)) H' fun k H2 => if k = true then te (some x :: caps.map (pick σ)) H2 (fun y H3 => ∃ m', m' < m ∧ W (i + 1) m' (ys ++ [y]) H3) else ∃ m', m' < m ∧ W (i + 1) m' ys H2)
theorem i_lcg {wi : TI} {caps : List Nat} {tc : TT} {te : TE} {σ : St} {H : Hp} {Q : VK} (h : wi σ H fun J H1 => LCg J caps tc te σ H1 Q) : tLC wi caps tc te σ H Q := h
theorem lc_src {J : It} {caps : List Nat} {tc : TT} {te : TE} {σ : St} {H : Hp} {Q : VK} (k : Nat) (hz : k ≤ 1000000) (g : Nat → Option V)
    (hstop : J.stop k H) (hgo : ∀ i, i < k → J.go i H) (hy : ∀ i x H', i < k → J.yld i H x H' → H' = H ∧ (∀ q : Bool → Hp → Prop, q (g i).isSome H → tc (some x :: caps.map (pick σ)) H q) ∧ ∀ (y : V) (q : VK), g i = some y → q y H → te (some x :: caps.map (pick σ)) H q)
    (q : ∀ p, H p = none → Q (.ref p) (upd H p (.lst ((List.range k).filterMap g)))) :
    LCg J caps tc te σ H Q := by
  refine ⟨fun i m ys H' => H' = H ∧ i ≤ k ∧ m = k - i ∧ ys = (List.range i).filterMap g, ⟨k, rfl, Nat.zero_le _, rfl, rfl⟩, ?_⟩
  rintro i m ys _ ⟨rfl, hi, rfl, rfl⟩
  by_cases hk : i = k
  · subst hk
    exact .inl ⟨hstop, q⟩
  · have hlt : i < k := by omega
    refine .inr ⟨hgo i hlt, ?_, fun x H' y => ?_⟩
    · refine Nat.lt_of_le_of_lt (Nat.le_trans (List.length_filterMap_le _ _) ?_) (show 1000000 < sizeLine by decide)
      rw [List.length_range]; omega
    · obtain ⟨rfl, h1, h2⟩ := hy i x H' hlt y
      refine h1 _ ?_
      have er : List.filterMap g (List.range (i + 1)) = List.filterMap g (List.range i) ++ (match g i with | some y => [y] | none => []) := by
        rw [List.range_succ, List.filterMap_append]
        cases e : g i with
        | none => rw [List.filterMap_cons_none e]; rfl
        | some y => rw [List.filterMap_cons_some e]; rfl
      cases e : g i with
      | none =>
        rw [e] at er
        dsimp only [Option.isSome]
        refine iteF ⟨k - (i + 1), by omega, rfl, by omega, rfl, ?_⟩
        rw [er, List.append_nil]
      | some y =>
        rw [e] at er
        dsimp only [Option.isSome]
        refine iteT (h2 y _ e ⟨k - (i + 1), by omega, rfl, by omega, rfl, ?_⟩)
        rw [er]
theorem filterMap_if (l : List Nat) (p : Nat → Bool) (f : Nat → V) : l.filterMap (fun i => if p i = true then some (f i) else none) = (l.filter p).map f := by
  induction l with
  | nil => rfl
  | cons a l ih =>
    by_cases h : p a = true
    · rw [List.filterMap_cons_some (by rw [if_pos h]), List.filter_cons_of_pos h, List.map_cons, ih]
    · rw [List.filterMap_cons_none (by rw [if_neg h]), List.filter_cons_of_neg h, ih]
theorem lc_range {caps : List Nat} {tc : TT} {te : TE} {σ : St} {H : Hp} {Q : VK} {n : Nat} {z : Int} (ez : z.toNat = n) (p : Nat → Bool) (f : Nat → V) (hz : n ≤ 1000000)
    (htc : ∀ i, i < n → ∀ q : Bool → Hp → Prop, q (p i) H → tc (some (.int i) :: caps.map (pick σ)) H q)
    (hte : ∀ i, i < n → p i = true → ∀ q : VK, q (f i) H → te (some (.int i) :: caps.map (pick σ)) H q)
    (q : ∀ l, H l = none → Q (.ref l) (upd H l (.lst (((List.range n).filter p).map f)))) :
    LCg (Itr 0 z.toNat) caps tc te σ H Q := by
  subst ez
  refine lc_src z.toNat hz (fun i => if p i = true then some (f i) else none) (Nat.le_refl _) (fun i hi => hi) (fun i x H' hi y => ?_) ?_
  · obtain ⟨e1, e2⟩ := y
    have ex : x = .int i := by rw [e2]; simp
    refine ⟨e1, fun q hq => ?_, fun y q hy hq => ?_⟩
    · rw [ex]
      refine htc i hi q ?_
      cases e : p i with
      | true => rw [e] at hq; exact hq
      | false => rw [e] at hq; exact hq
    · rw [ex]
      cases e : p i with
      | true =>
        rw [e] at hy
        have ey : f i = y := by simpa using hy
        exact hte i hi e q (by rw [ey]; exact hq)
      | false => rw [e] at hy; simp at hy
  · rw [filterMap_if]; exact q
theorem lc_list {K : PySem.W.Frag} {a : Addr} {xs : List V} {caps : List Nat} {tc : TT} {te : TE} {σ : St} {H : Hp} {Q : VK} (hs : SqL K H a xs) (g : Nat → Option V) (hz : xs.length ≤ 1000000)
    (hy : ∀ i x, xs[i]? = some x → (∀ q : Bool → Hp → Prop, q (g i).isSome H → tc (some x :: caps.map (pick σ)) H q) ∧ ∀ (y : V) (q : VK), g i = some y → q y H → te (some x :: caps.map (pick σ)) H q)
    (q : ∀ p, H p = none → Q (.ref p) (upd H p (.lst ((List.range xs.length).filterMap g)))) :
    LCg (Itl K a) caps tc te σ H Q := by
  refine lc_src xs.length hz g ⟨xs, hs, Nat.le_refl _⟩ (fun i hi => ⟨xs, xs[i], hs, List.getElem?_eq_getElem hi⟩) (fun i x H' hi y => ?_) q
  obtain ⟨e1, e2⟩ := y
  exact ⟨e1, hy i x (e2 xs hs)⟩
theorem ixN_nat {n i : Nat} (h : i < n) : ixN n (i : Int) = some i := by
  unfold ixN
  rw [if_pos (by omega), if_pos (by omega)]; simp
theorem ixN_int {n : Nat} {i : Int} (h0 : 0 ≤ i) (h : i.toNat < n) : ixN n i = some i.toNat := by
  have e : i = ((i.toNat : Nat) : Int) := by omega
  have := ixN_nat h
  rw [← e] at this; exact this
theorem atI_int {α : Type} {xs : List α} {i : Int} {v : α} (h0 : 0 ≤ i) (h : xs[i.toNat]? = some v) : atI xs i = some v := by
  have e : i = ((i.toNat : Nat) : Int) := by omega
  have := atI_nat h
  rw [← e] at this; exact this
end G
namespace G
open PySem L2
inductive Al {α β : Type} (P : α → β → Prop) : List α → List β → Prop
  | nil : Al P [] []
  | cons {x : α} {y : β} {xs : List α} {ys : List β} : P x y → Al P xs ys → Al P (x :: xs) (y :: ys)
section
variable {α β : Type} {P P' : α → β → Prop} {xs : List α} {ys : List β}
theorem Al.length (h : Al P xs ys) : xs.length = ys.length := by
  induction h with
  | nil => rfl
  | cons _ _ ih => rw [List.length_cons, List.length_cons, ih]
theorem Al.mono (h : Al P xs ys) (f : ∀ x y, P x y → P' x y) : Al P' xs ys := by
  induction h with
  | nil => exact .nil
  | cons p _ ih => exact .cons (f _ _ p) ih
theorem Al.get (h : Al P xs ys) : ∀ {i : Nat} {y : β}, ys[i]? = some y → ∃ x, xs[i]? = some x ∧ P x y := by
  induction h with
  | nil => intro i y e; simp at e
  | cons p _ ih =>
    intro i y e
    cases i with
    | zero => simp at e; subst e; exact ⟨_, rfl, p⟩
    | succ i =>
      obtain ⟨x, e1, e2⟩ := ih (i := i) (y := y) (by simpa using e)
      exact ⟨x, by simpa using e1, e2⟩
end
end G
namespace G
open PySem L2
abbrev Tg := Addr → Nat × Nat
def WT (H : Hp) (T : Tg) : Prop := ∀ b, H b = none → T b = (0, 0)
structure Stp (s : Nat) (H H' : Hp) (T T' : Tg) : Prop where
  kp : ∀ b o, H b = some o → (T b).1 ≠ s → H' b = some o
  al : ∀ b o, H b = some o → ∃ o', H' b = some o'
  tg : ∀ b o, H b = some o → T' b = T b
  wt : WT H' T'
def setT (T : Tg) (a : Addr) (v : Nat × Nat) : Tg := fun x => if x = a then v else T x
theorem setT_same {T : Tg} {a : Addr} {v : Nat × Nat} : setT T a v a = v := by unfold setT; rw [if_pos rfl]
theorem setT_ne {T : Tg} {a b : Addr} {v : Nat × Nat} (h : b ≠ a) : setT T a v b = T b := by unfold setT; rw [if_neg h]
theorem WT.same {H H' : Hp} {T : Tg} (w : WT H T) (s : Same H H') : WT H' T := fun b h => w b (s.free h)
theorem Stp.upd {s : Nat} {H : Hp} {T : Tg} {a : Addr} {o o' : HO} (w : WT H T) (ha : H a = some o) (ht : (T a).1 = s) : Stp s H (L2.upd H a o') T T where
  kp := fun x u h n => by
    have : x ≠ a := fun e => n (by rw [e]; exact ht)
    rw [upd_ne this]; exact h
  al := fun x u h => by
    by_cases e : x = a
    · exact ⟨o', by rw [e, upd_same]⟩
    · exact ⟨u, by rw [upd_ne e]; exact h⟩
  tg := fun _ _ _ => rfl
  wt := fun b h => w b (by
    by_cases e : b = a
    · rw [e, upd_same] at h; cases h
    · rw [upd_ne e] at h; exact h)
theorem ne_tag {T : Tg} {a b : Addr} {x y : Nat × Nat} (ha : T a = x) (hb : T b = y) (h : x ≠ y) : a ≠ b := fun e => h (by rw [← ha, ← hb, e])
end G
namespace G
open PySem L2
theorem lc_new {J : It} {caps : List Nat} {tc : TT} {te : TE} {σ : St} {H : Hp} {Q : VK} (k : Nat) (hz : k ≤ 1000000) (R : Nat → V → Hp → Prop) (mono : ∀ i y H1 H2, R i y H1 → Same H1 H2 → R i y H2)
    (hstop : ∀ H', Same H H' → J.stop k H') (hgo : ∀ i H', i < k → Same H H' → J.go i H')
    (hy : ∀ i x H1 H', i < k → Same H H1 → J.yld i H1 x H' → H' = H1 ∧ (∀ q : Bool → Hp → Prop, q true H1 → tc (some x :: caps.map (pick σ)) H1 q) ∧ ∀ q : VK, (∀ y H2, Same H1 H2 → R i y H2 → q y H2) → te (some x :: caps.map (pick σ)) H1 q)
    (q : ∀ ys H', Same H H' → ys.length = k → (∀ (i : Nat) y, ys[i]? = some y → R i y H') → ∀ p, H' p = none → Q (.ref p) (upd H' p (.lst ys))) :
    LCg J caps tc te σ H Q := by
  refine ⟨fun i m ys H' => Same H H' ∧ i ≤ k ∧ m = k - i ∧ ys.length = i ∧ ∀ (j : Nat) y, ys[j]? = some y → R j y H', ⟨k, Same.refl _, Nat.zero_le _, rfl, rfl, fun j y e => by simp at e⟩, ?_⟩
  rintro i m ys H1 ⟨s1, hi, rfl, hl, hr⟩
  by_cases hk : i = k
  · subst hk
    exact .inl ⟨hstop H1 s1, q ys H1 s1 hl hr⟩
  · have hlt : i < k := by omega
    refine .inr ⟨hgo i H1 hlt s1, Nat.lt_of_le_of_lt (show ys.length ≤ 1000000 by omega) (show 1000000 < sizeLine by decide), fun x H' y => ?_⟩
    obtain ⟨rfl, h1, h2⟩ := hy i x H1 H' hlt s1 y
    refine h1 _ (iteT (h2 _ fun y H2 s2 r => ⟨k - (i + 1), by omega, s1.trans s2, by omega, rfl, by rw [List.length_append, hl]; rfl, fun j z e => ?_⟩))
    by_cases hj : j < ys.length
    · rw [List.getElem?_append_left hj] at e
      exact mono j z _ _ (hr j z e) s2
    · have hj' := (List.getElem?_eq_some_iff.mp e).1
      rw [List.length_append, List.length_singleton] at hj'
      have ej : j = ys.length := by omega
      subst ej
      rw [List.getElem?_append_right (Nat.le_refl _), Nat.sub_self] at e
      cases e
      rw [hl]
      exact r
theorem lc_newR {caps : List Nat} {tc : TT} {te : TE} {σ : St} {H : Hp} {Q : VK} {n : Nat} {z : Int} (ez : z.toNat = n) (hz : n ≤ 1000000) (R : Nat → V → Hp → Prop) (mono : ∀ i y H1 H2, R i y H1 → Same H1 H2 → R i y H2)
    (htc : ∀ i H1, ∀ q : Bool → Hp → Prop, q true H1 → tc (some (.int i) :: caps.map (pick σ)) H1 q)
    (hte : ∀ (i : Nat) H1, i < n → Same H H1 → ∀ q : VK, (∀ y H2, Same H1 H2 → R i y H2 → q y H2) → te (some (.int i) :: caps.map (pick σ)) H1 q)
    (q : ∀ ys H', Same H H' → ys.length = n → (∀ (i : Nat) y, ys[i]? = some y → R i y H') → ∀ p, H' p = none → Q (.ref p) (upd H' p (.lst ys))) : LCg (Itr 0 z.toNat) caps tc te σ H Q := by
  subst ez
  refine lc_new z.toNat hz R mono (fun _ _ => Nat.le_refl _) (fun i _ hi _ => hi) (fun i x H1 H' hi s1 y => ?_) q
  obtain ⟨e1, e2⟩ := y
  have ex : x = .int i := by rw [e2]; simp
  subst ex
  exact ⟨e1, htc i H1, fun q hq => hte i H1 hi s1 q hq⟩
theorem lc_newD {J : It} {caps : List Nat} {tc : TT} {te : TE} {σ : St} {H : Hp} {Q : VK} (k : Nat) (hz : k ≤ 1000000) (R : Nat → Addr → Hp → Prop) (mono : ∀ i y H1 H2, R i y H1 → Same H1 H2 → R i y H2) (al : ∀ i y H1, R i y H1 → ∃ o, H1 y = some o)
    (hstop : ∀ H', Same H H' → J.stop k H') (hgo : ∀ i H', i < k → Same H H' → J.go i H')
    (hy : ∀ i x H1 H', i < k → Same H H1 → J.yld i H1 x H' → H' = H1 ∧ (∀ q : Bool → Hp → Prop, q true H1 → tc (some x :: caps.map (pick σ)) H1 q) ∧ ∀ q : VK, (∀ r H2, Same H1 H2 → H1 r = none → R i r H2 → q (.ref r) H2) → te (some x :: caps.map (pick σ)) H1 q)
    (q : ∀ (rs : List Addr) H', Same H H' → rs.length = k → rs.Nodup → (∀ r ∈ rs, H r = none) → (∀ (i : Nat) r, rs[i]? = some r → R i r H') → ∀ p, H' p = none → Q (.ref p) (upd H' p (.lst (rs.map V.ref)))) :
    LCg J caps tc te σ H Q := by
  refine ⟨fun i m ys H' => ∃ rs : List Addr, ys = rs.map V.ref ∧ Same H H' ∧ i ≤ k ∧ m = k - i ∧ rs.length = i ∧ rs.Nodup ∧ (∀ r ∈ rs, H r = none) ∧ ∀ (j : Nat) r, rs[j]? = some r → R j r H', ⟨k, [], rfl, Same.refl _, Nat.zero_le _, rfl, rfl, List.nodup_nil, fun r hr => (nomatch hr), fun j y e => by simp at e⟩, ?_⟩
  rintro i m _ H1 ⟨rs, rfl, s1, hi, rfl, hl, nd, nn, hr⟩
  by_cases hk : i = k
  · subst hk
    exact .inl ⟨hstop H1 s1, q rs H1 s1 hl nd nn hr⟩
  · have hlt : i < k := by omega
    refine .inr ⟨hgo i H1 hlt s1, Nat.lt_of_le_of_lt (show (rs.map V.ref).length ≤ 1000000 by rw [List.length_map]; omega) (show 1000000 < sizeLine by decide), fun x H' y => ?_⟩
    obtain ⟨rfl, h1, h2⟩ := hy i x H1 H' hlt s1 y
    refine h1 _ (iteT (h2 _ fun r H2 s2 nr rr => ⟨k - (i + 1), by omega, rs ++ [r], by rw [List.map_append]; rfl, s1.trans s2, by omega, rfl, by rw [List.length_append, hl]; rfl, ?_, fun z hz => ?_, fun j z e => ?_⟩))
    · rw [List.nodup_append]
      refine ⟨nd, by simp, fun a ha b hb e => ?_⟩
      rw [List.mem_singleton.mp hb] at e
      subst e
      obtain ⟨j, hj, ej⟩ := List.getElem_of_mem ha
      obtain ⟨o, ho⟩ := al j a _ (hr j a (by rw [List.getElem?_eq_getElem hj, ej]))
      rw [nr] at ho; cases ho
    · rcases List.mem_append.mp hz with hz | hz
      · exact nn z hz
      · rw [List.mem_singleton.mp hz]; exact s1.free nr
    · by_cases hj : j < rs.length
      · rw [List.getElem?_append_left hj] at e
        exact mono j z _ _ (hr j z e) s2
      · have hj' := (List.getElem?_eq_some_iff.mp e).1
        rw [List.length_append, List.length_singleton] at hj'
        have ej : j = rs.length := by omega
        subst ej
        rw [List.getElem?_append_right (Nat.le_refl _), Nat.sub_self] at e
        cases e
        rw [hl]
        exact rr
theorem lc_newDL {K : PySem.W.Frag} {a : Addr} {xs : List V} {caps : List Nat} {tc : TT} {te : TE} {σ : St} {H : Hp} {Q : VK} (hs : SqL K H a xs) (hz : xs.length ≤ 1000000) (R : Nat → Addr → Hp → Prop) (mono : ∀ i y H1 H2, R i y H1 → Same H1 H2 → R i y H2) (al : ∀ i y H1, R i y H1 → ∃ o, H1 y = some o)
    (htc : ∀ x H1, ∀ q : Bool → Hp → Prop, q true H1 → tc (some x :: caps.map (pick σ)) H1 q)
    (hte : ∀ (i : Nat) x H1, xs[i]? = some x → Same H H1 → ∀ q : VK, (∀ r H2, Same H1 H2 → H1 r = none → R i r H2 → q (.ref r) H2) → te (some x :: caps.map (pick σ)) H1 q)
    (q : ∀ (rs : List Addr) H', Same H H' → rs.length = xs.length → rs.Nodup → (∀ r ∈ rs, H r = none) → (∀ (i : Nat) r, rs[i]? = some r → R i r H') → ∀ p, H' p = none → Q (.ref p) (upd H' p (.lst (rs.map V.ref)))) : LCg (Itl K a) caps tc te σ H Q := by
  refine lc_newD xs.length hz R mono al (fun H' s => ⟨xs, s.seq hs, Nat.le_refl _⟩) (fun i H' hi s => ⟨xs, xs[i], s.seq hs, List.getElem?_eq_getElem hi⟩) (fun i x H1 H' hi s1 y => ?_) q
  obtain ⟨e1, e2⟩ := y
  exact ⟨e1, htc x H1, fun q hq => hte i x H1 (e2 xs (s1.seq hs)) s1 q hq⟩
theorem lc_newDR {caps : List Nat} {tc : TT} {te : TE} {σ : St} {H : Hp} {Q : VK} {n : Nat} {z : Int} (ez : z.toNat = n) (hz : n ≤ 1000000) (R : Nat → Addr → Hp → Prop) (mono : ∀ i y H1 H2, R i y H1 → Same H1 H2 → R i y H2) (al : ∀ i y H1, R i y H1 → ∃ o, H1 y = some o)
    (htc : ∀ i H1, ∀ q : Bool → Hp → Prop, q true H1 → tc (some (.int i) :: caps.map (pick σ)) H1 q)
    (hte : ∀ (i : Nat) H1, i < n → Same H H1 → ∀ q : VK, (∀ r H2, Same H1 H2 → H1 r = none → R i r H2 → q (.ref r) H2) → te (some (.int i) :: caps.map (pick σ)) H1 q)
    (q : ∀ (rs : List Addr) H', Same H H' → rs.length = n → rs.Nodup → (∀ r ∈ rs, H r = none) → (∀ (i : Nat) r, rs[i]? = some r → R i r H') → ∀ p, H' p = none → Q (.ref p) (upd H' p (.lst (rs.map V.ref)))) : LCg (Itr 0 z.toNat) caps tc te σ H Q := by
  subst ez
  refine lc_newD z.toNat hz R mono al (fun _ _ => Nat.le_refl _) (fun i _ hi _ => hi) (fun i x H1 H' hi s1 y => ?_) q
  obtain ⟨e1, e2⟩ := y
  have ex : x = .int i := by rw [e2]; simp
  subst ex
  exact ⟨e1, htc i H1, fun q hq => hte i H1 hi s1 q hq⟩
end G
namespace G
open PySem L2 PySem.Spec PyProof.Rows
theorem boot_isinstance : bootBuiltins "isinstance" = some (.builtin "isinstance") := by decide +kernel
theorem boot_len : bootBuiltins "len" = some (.builtin "len") := by decide +kernel
theorem boot_int : bootBuiltins "int" = some (.type "int") := by decide +kernel
theorem boot_str : bootBuiltins "str" = some (.type "str") := by decide +kernel
theorem boot_bool : bootBuiltins "bool" = some (.type "bool") := by decide +kernel
theorem boot_list : bootBuiltins "list" = some (.type "list") := by decide +kernel
theorem boot_tuple : bootBuiltins "tuple" = some (.type "tuple") := by decide +kernel
structure FunD (K : PySem.W.Frag) (x qual : Str) (st : Stmt) (f : Addr) (fd : FuncData) : Prop where
  ex : ∃ (oc : Value) (od : Option Addr) (dV kV doc pm : Value) (an : Option Addr) (cdv ct : Value) (osl : Array (Option Value)),
    fd = PySem.W.fnOf x qual (defArgs st) (defBody st) (defScope st) dV kV doc pm an cdv ct ∧ K.lookup f = some ⟨oc, od, .func fd, osl⟩ ∧ PySem.W.codeIn K cdv qual = true
  kp : PySem.W.keepIn K (.ref f) = true
section
variable {P : Program} {w : World} {K : PySem.W.Frag} {mg : Str → Option Value} {base : Heap}
theorem funD_mk {x qual : Str} {st : Stmt} {f : Addr} {oc dV : Value} {od an : Option Addr} {osl : Array (Option Value)} {kV doc pm cdv ct : Value} (l : K.lookup f = some ⟨oc, od, .func (PySem.W.fnOf x qual (defArgs st) (defBody st) (defScope st) dV kV doc pm an cdv ct), osl⟩)
    (c : PySem.W.codeIn K cdv qual = true) (k : PySem.W.keepIn K (.ref f) = true) : FunD K x qual st f (PySem.W.fnOf x qual (defArgs st) (defBody st) (defScope st) dV kV doc pm an cdv ct) := ⟨⟨oc, od, dV, kV, doc, pm, an, cdv, ct, osl, rfl, l, c⟩, k⟩
theorem bindsD {f td : Addr} {oc tc : Value} {od to_ : Option Addr} {osl ts : Array (Option Value)} {fd : FuncData} {items : Array Value} {tn : Nat} {ps : List Str} {ds : List Value} (_ : K.lookup f = some ⟨oc, od, .func fd, osl⟩) (t : K.lookup td = some ⟨tc, to_, .seq items tn, ts⟩)
    (h : ∀ us : List Value, us.length + ds.length = ps.length → ∃ k, bindArgs fd ⟨us, []⟩ = seqItems? (.ref td) >>= k ∧ k (some items) = pure (ps.zip (us ++ ds))) (hd : fd.defaults = .ref td := by rfl) : Binds K fd ps ds := by
  intro s us KX hl
  obtain ⟨k, h1, h2⟩ := h us (by rw [List.length_append] at hl; exact hl)
  exact BindsTo.of_defaults hd (KX _ _ t) rfl (by rw [h1, hd]) h2
end
section
variable {X : Cx}
theorem op_isN_ : OpR X (compareOp .Is) rIsN := op_isN
theorem op_notN_ : OpR X (compareOp .IsNot) rNotN := op_notN
theorem call_lenL : CallR X (.builtin "len") (cLenL X.K) := call_len_seq
def kk (t n : String) : Option Bool := if (Value.type t == Value.type n) = true then some true else if PySem.W.kitMeta n = true then (fastBuiltinMro t).map (·.contains (.type n)) else none
theorem kit_kk (K : PySem.W.Frag) (t n : String) : PySem.W.kitOne K (.type t) (.type n) = kk t n := rfl
theorem kk_int_int : kk "int" "int" = some true := by decide +kernel
theorem kk_int_bool : kk "int" "bool" = some false := by decide +kernel
theorem kk_int_str : kk "int" "str" = some false := by decide +kernel
theorem kk_int_list : kk "int" "list" = some false := by decide +kernel
theorem kk_int_tuple : kk "int" "tuple" = some false := by decide +kernel
theorem kk_int_dict : kk "int" "dict" = some false := by decide +kernel
theorem kk_bool_int : kk "bool" "int" = some true := by decide +kernel
theorem kk_bool_bool : kk "bool" "bool" = some true := by decide +kernel
theorem kk_bool_str : kk "bool" "str" = some false := by decide +kernel
theorem kk_bool_list : kk "bool" "list" = some false := by decide +kernel
theorem kk_bool_tuple : kk "bool" "tuple" = some false := by decide +kernel
theorem kk_bool_dict : kk "bool" "dict" = some false := by decide +kernel
theorem kk_str_int : kk "str" "int" = some false := by decide +kernel
theorem kk_str_bool : kk "str" "bool" = some false := by decide +kernel
theorem kk_str_str : kk "str" "str" = some true := by decide +kernel
theorem kk_str_list : kk "str" "list" = some false := by decide +kernel
theorem kk_str_tuple : kk "str" "tuple" = some false := by decide +kernel
theorem kk_str_dict : kk "str" "dict" = some false := by decide +kernel
theorem kk_NoneType_int : kk "NoneType" "int" = some false := by decide +kernel
theorem kk_NoneType_bool : kk "NoneType" "bool" = some false := by decide +kernel
theorem kk_NoneType_str : kk "NoneType" "str" = some false := by decide +kernel
theorem kk_NoneType_list : kk "NoneType" "list" = some false := by decide +kernel
theorem kk_NoneType_tuple : kk "NoneType" "tuple" = some false := by decide +kernel
theorem kk_NoneType_dict : kk "NoneType" "dict" = some false := by decide +kernel
theorem kk_list_int : kk "list" "int" = some false := by decide +kernel
theorem kk_list_bool : kk "list" "bool" = some false := by decide +kernel
theorem kk_list_str : kk "list" "str" = some false := by decide +kernel
theorem kk_list_list : kk "list" "list" = some true := by decide +kernel
theorem kk_list_tuple : kk "list" "tuple" = some false := by decide +kernel
theorem kk_list_dict : kk "list" "dict" = some false := by decide +kernel
theorem kk_tuple_int : kk "tuple" "int" = some false := by decide +kernel
theorem kk_tuple_bool : kk "tuple" "bool" = some false := by decide +kernel
theorem kk_tuple_str : kk "tuple" "str" = some false := by decide +kernel
theorem kk_tuple_list : kk "tuple" "list" = some false := by decide +kernel
theorem kk_tuple_tuple : kk "tuple" "tuple" = some true := by decide +kernel
theorem kk_tuple_dict : kk "tuple" "dict" = some false := by decide +kernel
theorem kk_dict_int : kk "dict" "int" = some false := by decide +kernel
theorem kk_dict_bool : kk "dict" "bool" = some false := by decide +kernel
theorem kk_dict_str : kk "dict" "str" = some false := by decide +kernel
theorem kk_dict_list : kk "dict" "list" = some false := by decide +kernel
theorem kk_dict_tuple : kk "dict" "tuple" = some false := by decide +kernel
theorem kk_dict_dict : kk "dict" "dict" = some true := by decide +kernel
theorem tyN_in {H : Hp} {x : V} {t : String} (e : tyN H x = some t) : t = "int" ∨ t = "bool" ∨ t = "str" ∨ t = "NoneType" ∨ t = "list" ∨ t = "tuple" ∨ t = "dict" := by
  unfold tyN at e
  split at e <;> (first | (cases e; simp) | (split at e <;> (first | (cases e; simp) | cases e)) | cases e)
theorem isK_in {t n : String} {k : Bool} (e : isK t n = some k) : n = "int" ∨ n = "bool" ∨ n = "str" ∨ n = "list" ∨ n = "tuple" ∨ n = "dict" := by
  unfold isK at e
  by_cases h : (["int", "bool", "str", "list", "tuple", "dict"].contains n) = true
  · simpa using h
  · rw [if_neg h] at e; cases e
theorem kk_of {H : Hp} {x : V} {t n : String} {k : Bool} (ht : tyN H x = some t) (e : isK t n = some k) : kk t n = some k := by
  rcases tyN_in ht with rfl | rfl | rfl | rfl | rfl | rfl | rfl <;> rcases isK_in e with rfl | rfl | rfl | rfl | rfl | rfl
  · rw [isK_int_int] at e; rw [kk_int_int]; exact e
  · rw [isK_int_bool] at e; rw [kk_int_bool]; exact e
  · rw [isK_int_str] at e; rw [kk_int_str]; exact e
  · rw [isK_int_list] at e; rw [kk_int_list]; exact e
  · rw [isK_int_tuple] at e; rw [kk_int_tuple]; exact e
  · rw [isK_int_dict] at e; rw [kk_int_dict]; exact e
  · rw [isK_bool_int] at e; rw [kk_bool_int]; exact e
  · rw [isK_bool_bool] at e; rw [kk_bool_bool]; exact e
  · rw [isK_bool_str] at e; rw [kk_bool_str]; exact e
  · rw [isK_bool_list] at e; rw [kk_bool_list]; exact e
  · rw [isK_bool_tuple] at e; rw [kk_bool_tuple]; exact e
  · rw [isK_bool_dict] at e; rw [kk_bool_dict]; exact e
  · rw [isK_str_int] at e; rw [kk_str_int]; exact e
  · rw [isK_str_bool] at e; rw [kk_str_bool]; exact e
  · rw [isK_str_str] at e; rw [kk_str_str]; exact e
  · rw [isK_str_list] at e; rw [kk_str_list]; exact e
  · rw [isK_str_tuple] at e; rw [kk_str_tuple]; exact e
  · rw [isK_str_dict] at e; rw [kk_str_dict]; exact e
  · rw [isK_NoneType_int] at e; rw [kk_NoneType_int]; exact e
  · rw [isK_NoneType_bool] at e; rw [kk_NoneType_bool]; exact e
  · rw [isK_NoneType_str] at e; rw [kk_NoneType_str]; exact e
  · rw [isK_NoneType_list] at e; rw [kk_NoneType_list]; exact e
  · rw [isK_NoneType_tuple] at e; rw [kk_NoneType_tuple]; exact e
  · rw [isK_NoneType_dict] at e; rw [kk_NoneType_dict]; exact e
  · rw [isK_list_int] at e; rw [kk_list_int]; exact e
  · rw [isK_list_bool] at e; rw [kk_list_bool]; exact e
  · rw [isK_list_str] at e; rw [kk_list_str]; exact e
  · rw [isK_list_list] at e; rw [kk_list_list]; exact e
  · rw [isK_list_tuple] at e; rw [kk_list_tuple]; exact e
  · rw [isK_list_dict] at e; rw [kk_list_dict]; exact e
  · rw [isK_tuple_int] at e; rw [kk_tuple_int]; exact e
  · rw [isK_tuple_bool] at e; rw [kk_tuple_bool]; exact e
  · rw [isK_tuple_str] at e; rw [kk_tuple_str]; exact e
  · rw [isK_tuple_list] at e; rw [kk_tuple_list]; exact e
  · rw [isK_tuple_tuple] at e; rw [kk_tuple_tuple]; exact e
  · rw [isK_tuple_dict] at e; rw [kk_tuple_dict]; exact e
  · rw [isK_dict_int] at e; rw [kk_dict_int]; exact e
  · rw [isK_dict_bool] at e; rw [kk_dict_bool]; exact e
  · rw [isK_dict_str] at e; rw [kk_dict_str]; exact e
  · rw [isK_dict_list] at e; rw [kk_dict_list]; exact e
  · rw [isK_dict_tuple] at e; rw [kk_dict_tuple]; exact e
  · rw [isK_dict_dict] at e; rw [kk_dict_dict]; exact e
theorem tyOf {K : PySem.W.Frag} {H : Hp} {x : V} {t : String} (e : tyN H x = some t) : TyOf K H x (.type t) := by
  cases x with
  | non => cases e; exact .non
  | bl y => cases e; exact .bl y
  | int y => cases e; exact .int y
  | str y => cases e; exact .str y
  | byt y => cases e
  | flt y => cases e
  | ty y => cases e
  | ref a =>
    have e' : (match H a with | some (.lst _) => some "list" | some (.frz _ (.lst _)) => some "list" | some (.tup _) => some "tuple" | some (.dK _) => some "dict" | some (.dT _) => some "dict" | _ => none) = some t := e
    split at e'
    · rename_i h; cases e'; exact .lst h
    · rename_i h; cases e'; exact .frz h
    · rename_i h; cases e'; exact .tup h
    · rename_i h; cases e'; exact .dK h
    · rename_i h; cases e'; exact .dT h
    · cases e'
theorem call_isi : CallR X (.builtin "isinstance") cIsi := by
  intro pins s σ H xs us Q I r h
  obtain ⟨x, n, t, k, rfl, ht, hk, q⟩ := h
  obtain ⟨u, w', rfl, rx, rn⟩ := vals2 r
  have rn' : w' = Value.type n := rn
  subst rn'
  exact isinst_ok (t := .type t) (b := k) I rx (tyOf ht) ((kit_kk _ _ _).trans (kk_of ht hk)) fun tk => ⟨.bl k, H, I.tok _, rfl, q⟩
end
end G
namespace G
open PySem L2 PySem.Spec PyProof.Rows
section
variable {X : Cx}
theorem clip_sIx (n : Nat) (o : Option Int) (d : Nat) (v : Int) (h : o = some v) : max (0 : Int) (min (if v < 0 then v + n else v) n) = ((HT.sIx n d o : Nat) : Int) := by
  subst h
  show _ = (((if v < 0 then (v + (n : Int)).toNat else min v.toNat n : Nat)) : Int)
  split <;> omega
theorem slice_idx (lo hi : Option Int) (n : Nat) : Builtin.Str.strSliceIndices lo hi 1 n = Builtin.Str.strSliceIndices (some ((HT.sIx n 0 lo : Nat) : Int)) (some ((HT.sIx n n hi : Nat) : Int)) 1 n := by
  have a1 := HT.sIx_le n 0 (Nat.zero_le _) lo
  have a2 := HT.sIx_le n n (Nat.le_refl _) hi
  have e1 : max (0 : Int) (min (if ((HT.sIx n 0 lo : Nat) : Int) < 0 then ((HT.sIx n 0 lo : Nat) : Int) + n else ((HT.sIx n 0 lo : Nat) : Int)) n) = ((HT.sIx n 0 lo : Nat) : Int) := by
    rw [if_neg (by omega)]; omega
  have e2 : max (0 : Int) (min (if ((HT.sIx n n hi : Nat) : Int) < 0 then ((HT.sIx n n hi : Nat) : Int) + n else ((HT.sIx n n hi : Nat) : Int)) n) = ((HT.sIx n n hi : Nat) : Int) := by
    rw [if_neg (by omega)]; omega
  simp only [Builtin.Str.strSliceIndices, show ((1 : Int) > 0) = True from by simp, if_true]
  rw [e1, e2]
  cases lo with
  | none =>
    cases hi with
    | none => rfl
    | some j => dsimp only; rw [clip_sIx n (some j) n j rfl]; rfl
  | some i =>
    cases hi with
    | none => dsimp only; rw [clip_sIx n (some i) 0 i rfl]; rfl
    | some j => dsimp only; rw [clip_sIx n (some j) n j rfl, clip_sIx n (some i) 0 i rfl]
theorem slice_cut (z : Str) (lo hi : Option Int) : (Builtin.Str.strSliceIndices lo hi 1 z.length).filterMap (z.cps[·]?) = (z.cps.toList.drop (HT.sIx z.length 0 lo)).take (HT.sIx z.length z.length hi - HT.sIx z.length 0 lo) := by
  rw [slice_idx]
  by_cases h : HT.sIx z.length 0 lo ≤ HT.sIx z.length z.length hi
  · exact StrLaws.sliced_plain z h (HT.sIx_le _ _ (Nat.le_refl _) _)
  · have e : HT.sIx z.length z.length hi - HT.sIx z.length 0 lo = 0 := by omega
    rw [e, List.take_zero]
    have e2 : Builtin.Str.strSliceIndices (some ((HT.sIx z.length 0 lo : Nat) : Int)) (some ((HT.sIx z.length z.length hi : Nat) : Int)) 1 z.length = [] := by
      have a1 := HT.sIx_le z.length 0 (Nat.zero_le _) lo
      have a2 := HT.sIx_le z.length z.length (Nat.le_refl _) hi
      simp only [Builtin.Str.strSliceIndices, sliceRange, show ((1 : Int) > 0) = True from by simp, if_true]
      rw [if_neg (by omega : ¬ ((HT.sIx z.length 0 lo : Nat) : Int) < 0), if_neg (by omega : ¬ ((HT.sIx z.length z.length hi : Nat) : Int) < 0), if_neg (by omega)]
      rfl
    rw [e2]
    rfl
theorem part_of {v : Value} {o : Option Int} (p : IsPart v o) : ∃ q : Option (Int × Tok), v = partValue q ∧ q.map (·.1) = o := by
  cases p with
  | none => exact ⟨none, rfl, rfl⟩
  | int i t => exact ⟨some (i, t), rfl, rfl⟩
theorem sl_str : SlR X rSlS := by
  intro pins s σ H x v vl vu lo hi sl Q I rx hs pl pu h
  obtain ⟨z, rfl, hz, q⟩ := h
  obtain ⟨t, rfl⟩ := rx
  obtain ⟨ql, rfl, el⟩ := part_of pl
  obtain ⟨qu, rfl, eu⟩ := part_of pu
  refine ⟨"str", _, F.slot_str_getitem.lookup, typeIs_str _ _ _, ?_⟩
  refine wpAny_getItem_str_slice (l := ql) (u := qu) (st := none) hs rfl ?_
  have ep : (slicePicked z ql qu none).filterMap (z.cps[·]?) = (z.cps.toList.drop (HT.sIx z.length 0 lo)).take (HT.sIx z.length z.length hi - HT.sIx z.length 0 lo) := by
    unfold slicePicked
    rw [el, eu]
    exact slice_cut z lo hi
  have em : (⟨((slicePicked z ql qu none).filterMap (z.cps[·]?)).toArray⟩ : Str) = cutS z lo hi := by
    rw [ep]; rfl
  unfold sliceMade
  split
  · rename_i hw
    have hl : (slicePicked z ql qu none).length = z.length := by
      rw [Bool.and_eq_true] at hw
      exact beq_iff_eq.mp hw.2
    have hc : cutS z lo hi = z := by
      have h1 : (slicePicked z ql qu none) = Builtin.Str.strSliceIndices (some ((HT.sIx z.length 0 lo : Nat) : Int)) (some ((HT.sIx z.length z.length hi : Nat) : Int)) 1 z.length := by
        unfold slicePicked
        rw [el, eu]
        exact slice_idx lo hi z.length
      have a2 := HT.sIx_le z.length z.length (Nat.le_refl _) hi
      have a1 := HT.sIx_le z.length 0 (Nat.zero_le _) lo
      have hz0 : HT.sIx z.length 0 lo ≤ HT.sIx z.length z.length hi ∨ z.length = 0 := by
        by_cases hle : HT.sIx z.length 0 lo ≤ HT.sIx z.length z.length hi
        · exact .inl hle
        · right
          rw [h1] at hl
          have e2 : Builtin.Str.strSliceIndices (some ((HT.sIx z.length 0 lo : Nat) : Int)) (some ((HT.sIx z.length z.length hi : Nat) : Int)) 1 z.length = [] := by
            simp only [Builtin.Str.strSliceIndices, sliceRange, show ((1 : Int) > 0) = True from by simp, if_true]
            rw [if_neg (by omega : ¬ ((HT.sIx z.length 0 lo : Nat) : Int) < 0), if_neg (by omega : ¬ ((HT.sIx z.length z.length hi : Nat) : Int) < 0), if_neg (by omega)]
            rfl
          rw [e2] at hl
          exact hl.symm
      unfold cutS
      rcases hz0 with hle | h0
      · rw [h1, StrLaws.strSliceIndices_plain hle a2, List.length_map, List.length_range] at hl
        have b1 : HT.sIx z.length 0 lo = 0 := by omega
        have b2 : HT.sIx z.length z.length hi = z.length := by omega
        rw [b1, b2, List.drop_zero, Nat.sub_zero, ← str_len, List.take_length]
        all_goals rfl
      · have hcz : z.cps = #[] := Array.eq_empty_of_size_eq_zero h0
        obtain ⟨zc⟩ := z
        dsimp only at hcz
        subst hcz
        simp
    rw [hc] at q
    exact ⟨.str z, H, I, ⟨_, rfl⟩, q⟩
  · show Str.length _ ≤ sizeLine ∧ _
    rw [em]
    exact ⟨Nat.le_trans (cutS_length z lo hi) hz, .str (cutS z lo hi), H, I.tok _, ⟨_, rfl⟩, q⟩
def GC (mg : Str → Option Value) (x : Str) (v : V) : Prop := ∃ u, mg x = some u ∧ RelV v u
theorem GC.pe {x : Str} {v : V} {pos : Pos} (h : GC X.mg x v) (hg : Gl X x) (hd : (x == ("__debug__" : Str)) = false := by decide) : PE X (.Name x pos) (tC v) := by
  obtain ⟨u, hm, r⟩ := h
  exact pe_glob hg hm r hd
end
end G
namespace G
open PySem L2 PySem.Spec PyProof.Rows
section
variable {X : Cx}
end
end G
namespace G
open PySem L2
end G
namespace G
open PySem L2 PySem.Spec PyProof.Rows
section
variable {X : Cx} {pins : List (Addr × Obj)} {σ : L2.St} {H : Hp} {s : Shared} {acc : Addr} {ys : List V} {its : List Value} {n : Nat}
theorem adopt (I : Inv X pins σ H s) (hf : FpOk X pins H acc) (ho : s.heap.get? acc = some { cls := .type "list", data := .seq its.toArray n }) (hv : Vals ys its) (hz : ys.length ≤ sizeLine) : Inv X pins σ (upd H acc (.lst ys)) s := by
  obtain ⟨f0, f1, f2, f3, f4, f5⟩ := hf
  have ne : ∀ b u, H b = some u → b ≠ acc := fun b u e => ne_of_none e f0
  refine I.step (h' := s.heap) (g' := s.gens) (t' := s.toks) (d' := s.drawn) (ch := [acc]) (fun b hb => ?_) (fun _ _ _ _ _ e _ => e) (fun b o _ _ _ e _ => ⟨o.slots, e⟩) (fun b o hb e h0 => ?_) (fun b o _ e => ⟨o, e⟩)
    (fun b xs e => by rw [upd_ne (ne b _ e)]; exact e) (fun b o u e => by rw [upd_ne (ne b _ e)]; exact e) (fun b ps e => ⟨#[], by rw [upd_ne (ne b _ e), e]; simp⟩) (fun m hm => hm) (fun b u e => ?_) I.bare
  · have e : b = acc := by simpa using hb
    subst e
    exact ⟨f3, f1, f4, f5⟩
  · have e : b ≠ acc := by simpa using hb
    rw [upd_ne e]; exact h0
  · by_cases hb : b = acc
    · subst hb
      rw [upd_same] at e; cases e
      exact ⟨hz, its, n, hv, ho⟩
    · rw [upd_ne hb] at e
      exact (I.hok b u e).stay (fun _ _ _ q => q) (fun c q => by rw [upd_ne (ne c _ q)]; exact q) fun c xs q => by rw [upd_ne (ne c _ q)]; exact q
theorem disown (I : Inv X pins σ (upd H acc (.lst ys)) s) (hf : FpOk X pins H acc) : Inv X pins σ H s := by
  obtain ⟨f0, f1, f2, f3, f4, f5⟩ := hf
  have back : ∀ b u, upd H acc (.lst ys) b = some u → u ≠ .lst ys → H b = some u := fun b u e hne => by
    by_cases hb : b = acc
    · subst hb
      rw [upd_same] at e; cases e; exact absurd rfl hne
    · rw [upd_ne hb] at e; exact e
  refine I.step (h' := s.heap) (g' := s.gens) (t' := s.toks) (d' := s.drawn) (ch := [acc]) (fun b hb => ?_) (fun _ _ _ _ _ e _ => e) (fun b o _ _ _ e _ => ⟨o.slots, e⟩) (fun b o hb e h0 => ?_) (fun b o _ e => ⟨o, e⟩)
    (fun b xs e => back b _ e (fun z => nomatch z)) (fun b o u e => back b _ e (fun z => nomatch z)) (fun b ps e => ⟨#[], by rw [back b _ e (fun z => nomatch z)]; simp⟩) (fun m hm => hm) (fun b u e => ?_) I.bare
  · have e : b = acc := by simpa using hb
    subst e
    exact ⟨f3, f1, f4, f5⟩
  · have e : b ≠ acc := by simpa using hb
    rw [upd_ne e] at h0; exact h0
  · have hb : b ≠ acc := ne_of_none e f0
    have e' : upd H acc (.lst ys) b = some u := by rw [upd_ne hb]; exact e
    exact (I.hok b u e').stay (fun _ _ _ q => q) (fun c q => back c _ q (fun z => nomatch z)) fun c xs q => back c _ q (fun z => nomatch z)
end
def PF (X : Cx) (ifs : List Expr) (t : TT) : Prop :=
  ∀ (pins : List (Addr × Obj)) (s : Shared) (σ : L2.St) (H : Hp) (Q : Bool → Hp → Prop), Inv X pins σ H s → t σ H Q →
    wpAny (model X.prog X.w) X.A (forIn ifs true fun c r => if r = true then do let ok ← isTrue c X.env (eval c X.env); pure (ForInStep.yield ok) else pure (ForInStep.yield r)) (TP X pins σ Q) X.xe s
theorem pf_nil {X : Cx} : PF X [] tTrue := fun _ _ _ H _ I h => wpAny_tests_nil ⟨H, I, h⟩
theorem pf_one {X : Cx} {c : Expr} {t : TT} (h : PT X c t) : PF X [c] t := fun pins s σ H Q I q => wpAny_tests_one (h pins s σ H Q I q)
def cxLC (X : Cx) (scope : Scope) (cl : List (Str × Addr)) (N : List Str) (C : Addr) (s : Shared) (H : Hp) (ex : List Addr) (pn : List (Addr × Obj)) : Cx :=
  { X with N := N, s₀ := s, H₀ := H, env := compEnvC scope cl C X.env, outer := X.stack, ex := ex, fn := fun _ => false, pn := pn, xe := fun _ _ => False }
def AllIn (cells : List (Str × Addr)) : List (Str × Addr) → Prop
  | [] => True
  | p :: r => cells.lookup p.1 = some p.2 ∧ AllIn cells r
theorem AllIn.get {cells : List (Str × Addr)} : ∀ {cl : List (Str × Addr)}, AllIn cells cl → ∀ {x : Str} {c : Addr}, cl.lookup x = some c → cells.lookup x = some c
  | [], _, x, c, h => by cases h
  | (y, d) :: r, a, x, c, h => by
    cases e : (x == y) with
    | true =>
      rw [List.lookup_cons, e] at h
      have e' : x = y := beq_iff_eq.mp e
      subst e'
      cases h
      exact a.1
    | false =>
      rw [List.lookup_cons, e] at h
      exact AllIn.get a.2 h
def CapOk (X : Cx) : List Str → List Nat → Prop
  | [], [] => True
  | y :: r, j :: js => X.N[j]? = some y ∧ X.env.kindOf y = some .cell ∧ CapOk X r js
  | _, _ => False
theorem CapOk.len {X : Cx} : ∀ {ns : List Str} {js : List Nat}, CapOk X ns js → ns.length = js.length
  | [], [], _ => rfl
  | [], _ :: _, h => h.elim
  | _ :: _, [], h => h.elim
  | _ :: r, _ :: js, h => by rw [List.length_cons, List.length_cons, CapOk.len h.2.2]
theorem CapOk.get {X : Cx} {σ : L2.St} : ∀ {ns : List Str} {js : List Nat}, CapOk X ns js → ∀ {i : Nat} {x : Str} {v : V}, ns[i]? = some x → (js.map (pick σ))[i]? = some (some v) → ∃ j : Nat, X.N[j]? = some x ∧ X.env.kindOf x = some .cell ∧ σ[j]? = some (some v)
  | [], _, _, i, x, v, h, _ => by simp at h
  | _ :: _, [], h, _, _, _, _, _ => h.elim
  | y :: r, j :: js, h, 0, x, v, h1, h2 => by
    simp at h1 h2
    subst h1
    refine ⟨j, h.1, h.2.1, ?_⟩
    unfold pick at h2
    split at h2
    · rename_i e; rw [e, h2]
    · cases h2
  | y :: r, j :: js, h, i + 1, x, v, h1, h2 => CapOk.get (i := i) h.2.2 (by simpa using h1) (by simpa using h2)
theorem lk_ne {x n : Str} {k : NameKind} {r : List (Str × NameKind)} (h : (x == n) = false) : List.lookup x ((n, k) :: r) = List.lookup x r := by rw [List.lookup_cons, h]
theorem lk_eq {x n : Str} {k : NameKind} {r : List (Str × NameKind)} (h : (x == n) = true) : List.lookup x ((n, k) :: r) = some k := by rw [List.lookup_cons, h]
def relK (env : Env) (x : Str) (k : NameKind) : NameKind := if (k == NameKind.free && env.scope.kind == .function && env.kindOf x == some .cell) = true then .cell else k
theorem lookup_relabel {env : Env} {x : Str} : ∀ {names : List (Str × NameKind)},
    (names.map fun (n, k) => if (k == NameKind.free && env.scope.kind == .function && env.kindOf n == some .cell) then (n, NameKind.cell) else (n, k)).lookup x = (names.lookup x).map (relK env x)
  | [] => rfl
  | (n, k') :: r => by
    have ih := @lookup_relabel env x r
    show List.lookup x ((if (k' == NameKind.free && env.scope.kind == .function && env.kindOf n == some .cell) = true then (n, NameKind.cell) else (n, k')) :: r.map fun (n, k) => if (k == NameKind.free && env.scope.kind == .function && env.kindOf n == some .cell) then (n, NameKind.cell) else (n, k)) = _
    cases hx : x == n with
    | true =>
      have e := beq_iff_eq.mp hx
      subst e
      rw [lk_eq (k := k') hx]
      by_cases hc : (k' == NameKind.free && env.scope.kind == .function && env.kindOf x == some .cell) = true
      · rw [if_pos hc, lk_eq hx]
        show some NameKind.cell = some (relK env x k')
        unfold relK; rw [if_pos hc]
      · rw [if_neg hc, lk_eq hx]
        show some k' = some (relK env x k')
        unfold relK; rw [if_neg hc]
    | false =>
      rw [lk_ne (k := k') (r := r) hx]
      by_cases hc : (k' == NameKind.free && env.scope.kind == .function && env.kindOf n == some .cell) = true
      · rw [if_pos hc, lk_ne hx]; exact ih
      · rw [if_neg hc, lk_ne hx]; exact ih
theorem lookup_all {names : List (Str × NameKind)} {p : Str × NameKind → Bool} : ∀ {x : Str} {k : NameKind}, names.all p = true → names.lookup x = some k → p (x, k) = true := by
  induction names with
  | nil => intro x k _ h; simp at h
  | cons y r ih =>
    intro x k ha h
    obtain ⟨n, k'⟩ := y
    rw [List.all_cons, Bool.and_eq_true] at ha
    cases hx : x == n with
    | true =>
      rw [List.lookup_cons, hx] at h
      have e1 : x = n := beq_iff_eq.mp hx
      have e2 : k' = k := Option.some.inj h
      rw [e1, ← e2]; exact ha.1
    | false =>
      rw [List.lookup_cons, hx] at h
      exact ih ha.2 h
theorem compLoop_go {prog : Program} {w : World} {A : Around} {R : Result → Shared → Prop} {s : Shared} {elt target iter : Expr} {ifs : List Expr} {scope : Scope} {pos : Pos} {it acc : Value} {env : Env} (I : Nat → Shared → Prop)
    (turn : ∀ n s, I n s → wpAny (model prog w) A (pyNext it) (fun r s₁ => match r with
      | none => R (.ok .next) s₁
      | some v => wpAny (model prog w) A (letOwnedTupleGo target it v) (fun _ s₁' => wpAny (model prog w) A (assign target env v) (fun _ s₂ =>
          wpAny (model prog w) A (forIn ifs true fun c r => if r = true then do let ok ← isTrue c env (eval c env); pure (ForInStep.yield ok) else pure (ForInStep.yield r)) (fun ok s₃ =>
            if ok = true then wpAny (model prog w) A (eval elt env) (fun x s₄ =>
              wpAny (model prog w) A (call (.builtin "list.append") [acc, x]) (fun _ s₅ => ∃ m, m < n ∧ I m s₅) (fun _ _ => False) s₄) (fun _ _ => False) s₃
            else ∃ m, m < n ∧ I m s₃) (fun _ _ => False) s₂) (fun _ _ => False) s₁') (fun _ _ => False) s₁) (fun _ _ => False) s)
    (n : Nat) (h : I n s) :
    codeAny (model prog w) A (.compLoop (.ListComp elt [⟨target, iter, ifs, 0⟩] scope pos) 0 it acc env) R s := by
  refine codeAny_loop rfl I (fun n s hI => ?_) n h
  show wpAny _ A ((compTurn (.ListComp elt [⟨target, iter, ifs, 0⟩] scope pos) 0 it acc env).onRaise (fun x => do noteFrame x env; theTreesLotGoes x)) _ _ s
  refine wpAny_noted ?_
  rw [compTurn_list]
  refine wpAny_bind (wpAny_standAt (wpAny_bind (wpAny_mono (turn n s hI) (fun r s₁ h₁ => ?_) fun _ _ h' => h'.elim)))
  cases r with
  | none => exact wpAny_pure h₁
  | some v =>
    refine wpAny_bind (wpAny_mono h₁ (fun _ s₁' h₁' => ?_) fun _ _ h' => h'.elim)
    refine wpAny_bind (wpAny_mono h₁' (fun _ s₂ h₂ => wpAny_bind (wpAny_mono h₂ (fun ok s₃ h₃ => ?_) fun _ _ h' => h'.elim)) fun _ _ h' => h'.elim)
    cases ok with
    | false => exact wpAny_pure ⟨rfl, h₃⟩
    | true =>
      exact wpAny_bind (wpAny_bind (wpAny_mono h₃ (fun x s₄ h₄ => wpAny_bind (wpAny_mono h₄ (fun _ s₅ h₅ => wpAny_pure (wpAny_pure ⟨rfl, h₅⟩)) fun _ _ h' => h'.elim)) fun _ _ h' => h'.elim))
theorem pe_lc {X : Cx} {elt iter : Expr} {x : Str} {px pos : Pos} {ifs : List Expr} {scope : Scope} {cl : List (Str × Addr)} {wi : TI} {tc : TT} {te : TE} {cns : List Str} (caps : List Nat)
    (hi : PI X (.Name x px) iter wi)
    (hf : ∀ C s H ex pn, PF (cxLC X scope cl (x :: cns) C s H ex pn) ifs tc) (he : ∀ C s H ex pn, PE (cxLC X scope cl (x :: cns) C s H ex pn) elt te) (hc : X.calm = true)
    (hclos : closureFor scope X.env = pure cl) (hcl : AllIn X.env.cells cl) (hcap : CapOk X cns caps)
    (hkind : scope.kind = .function) (hcell : (scope.names.all fun p => p.2 != .cell) = true) (hfree : (scope.names.all fun p => p.2 != .free || (cl.lookup p.1).isSome) = true)
    (hcf : (cns.all fun y => scope.names.lookup y == some .free) = true) (hnames : ∀ y ∈ scope.names, y.2 = .local → scope.names.lookup y.1 = some .local) (hx : scope.names.lookup x = some .local) (hnd : (x :: cns).Nodup)
    (hs : ∀ v, foldedSetIterable iter X.env v = pure v := by intro _; rfl) :
    PE X (.ListComp elt [⟨.Name x px, iter, ifs, 0⟩] scope pos) (tLC wi caps tc te) := by
  intro pins s σ H Q I h
  rw [eval_ListComp]
  refine wpAny_comprehension_free (use := none) rfl hs hclos hkind hnames (thn (hi pins s σ H _ I h) fun xv s1 h1 => thn h1 fun itv s2 h2 => ?_)
  obtain ⟨it, fp, tn, J, H2, rfl, I2, T, st2, f2, W, ⟨m0, w0⟩, turn⟩ := h2
  have hne : ∀ y ∈ scope.names, y.2 ≠ .cell := fun y hy e => by
    have := List.all_eq_true.mp hcell y hy
    rw [e] at this; simp at this
  refine wpAny_newObj_type (wpAny_newFunctionEnv hne (by intro y hy; simp at hy) (fun h₁ hns₁ hsb₁ => ?_) hkind)
  dsimp only at hns₁ hsb₁ ⊢
  generalize hacc : s2.heap.objs.size = acc
  generalize hH3 : s2.heap.push { cls := .type "list", dict := none, data := .seq ([] : List Value).toArray } = h3 at hns₁ hsb₁ ⊢
  have hC : h3.objs.size = acc + 1 := by rw [← hH3, Heap.size_push, hacc]
  have k23 : ∀ b o, s2.heap.get? b = some o → h3.get? b = some o := fun b o e => hH3 ▸ Heap.get?_push_of_some _ e
  have k34 : ∀ b o, h3.get? b = some o → h₁.get? b = some o := fun b o e => hsb₁.extBut b o (Nat.ne_of_lt (Heap.lt_size e)) (Heap.get?_push_of_some _ e)
  have oacc : h3.get? acc = some { cls := .type "list", dict := none, data := .seq ([] : List Value).toArray } := by
    rw [← hH3, ← hacc]; exact Heap.get?_push_size _ rfl
  have I3 : Inv X pins σ H2 { s2 with heap := h3 } := I2.kept (t' := s2.toks) k23
  have facc : FpOk X pins H2 acc := I2.fpOk (Nat.le_of_eq hacc) (I2.hok.fresh (Nat.le_of_eq hacc))
  have fpl : ∀ b ∈ fp, b < acc := fun b hb => by
    obtain ⟨o, e, _⟩ := T.obj _ _ st2 b hb
    rw [← hacc]; exact Heap.lt_size e
  have exok : ∀ b ∈ acc :: fp, FpOk X pins H2 b := fun b hb => (List.mem_cons.mp hb).elim (fun e => e ▸ facc) (f2 b)
  have exC : ∀ b ∈ acc :: fp, b ≠ h3.objs.size := fun b hb => by
    rcases List.mem_cons.mp hb with e | hb
    · rw [hC, e]; exact Nat.ne_of_lt (Nat.lt_succ_self _)
    · rw [hC]; exact Nat.ne_of_lt (Nat.lt_succ_of_lt (fpl b hb))
  have stk_no : ∀ b ∈ acc :: fp, b ∉ frs X.stack := fun b hb hm => by
    obtain ⟨_, g1, g2, _⟩ := exok b hb
    exact (List.mem_cons.mp (I2.stkSub b hm)).elim g1 g2
  let Y : Cx := cxLC X scope cl (x :: cns) h3.objs.size { s2 with heap := h3 } H2 (acc :: fp) (X.pn ++ pins)
  have cellsOf : ∀ y c, cl.lookup y = some c → X.env.cells.lookup y = some c := fun y c e => hcl.get e
  have kindY : ∀ y k, Y.env.kindOf y = some k → (k = .cell ∨ k = .free) → ∃ c, cl.lookup y = some c := fun y k e hk => by
    have e0 : (scope.names.lookup y).map (relK X.env y) = some k := lookup_relabel.symm.trans e
    obtain ⟨k0, e1, e2⟩ := Option.map_eq_some_iff.mp e0
    have e3 := lookup_all hfree e1
    have e4 := lookup_all hcell e1
    by_cases hf : k0 = .free
    · subst hf
      rw [Bool.or_eq_true] at e3
      rcases e3 with e3 | e3
      · exact absurd rfl (bne_iff_ne.mp e3)
      · exact Option.isSome_iff_exists.mp e3
    · exfalso
      have e5 : relK X.env y k0 = k0 := by
        unfold relK
        rw [if_neg]
        intro z
        rw [Bool.and_eq_true, Bool.and_eq_true] at z
        exact hf (beq_iff_eq.mp z.1.1)
      rw [e5] at e2
      subst e2
      rcases hk with rfl | rfl
      · simp at e4
      · exact hf rfl
  have okY : Y.Ok := {
    mod := I2.ok.mod
    kind := hkind
    glob := I2.ok.glob
    blt := I2.ok.blt
    above := Nat.le_refl _
    inj := fun a b c e1 e2 => I2.ok.inj a b c (cellsOf _ _ e1) (cellsOf _ _ e2)
    has := fun y hy => hy.elim (fun e => kindY y _ e (.inl rfl)) (fun e => kindY y _ e (.inr rfl))
    cab := fun y c e => nomatch e
    hd := I2.ok.hd
    frames := I2.ok.frames
    stk := .inl rfl
    exf := fun b hb => ⟨exC b hb, fun y c e => (exok b hb).2.2.2.2.1 y c (cellsOf _ _ e)⟩
    bs := fun b o e => ⟨k23 b o (I2.bs b o e).1, (I2.bs b o e).2⟩
    bsz := by
      show X.base.objs.size ≤ h3.objs.size
      rw [hC, ← hacc]
      exact Nat.le_succ_of_le (Nat.le_trans I2.ok.bsz I2.sz)
    noex := fun b o e hb => by
      rcases (exok b hb).2.2.2.1 with z | z
      · exact I2.ok.noex b o e z
      · exact absurd (Nat.lt_of_lt_of_le (Heap.lt_size e) (Nat.le_trans I2.ok.bsz z)) (Nat.lt_irrefl _)
    exfs := stk_no
    funs := I3.stack
    frf := I3.stkFree }
  have lenN : (none :: caps.map (pick σ) : L2.St).length = (x :: cns).length := by rw [List.length_cons, List.length_cons, List.length_map, hcap.len]
  have I4 : Inv Y [] (none :: caps.map (pick σ)) H2 { s2 with heap := h₁, toks := s2.toks + ([] : List (Str × Value)).length } := {
    ok := okY
    os := rfl
    bare := I2.bare
    base := Un.kept k34
    loc := by
      refine ⟨_, hns₁, fun i y v e1 e2 e3 => ?_⟩
      cases i with
      | zero => simp at e2
      | succ i =>
        obtain ⟨j, j1, j2, j3⟩ := hcap.get (σ := σ) (i := i) (x := y) (v := v) (by have e1' : (x :: cns)[i + 1]? = some y := e1; simpa using e1') (by simpa using e2)
        obtain ⟨m, hn, hl⟩ := I2.loc
        obtain ⟨u, r, l⟩ := hl j y v j1 j3 (.inr (.inl j2))
        rcases l with ⟨l, _⟩ | ⟨_, c, l1, l2⟩
        · rw [j2] at l; cases l
        · refine ⟨u, r, .inr ?_⟩
          rcases e3 with e3 | e3 | e3
          · exfalso
            have hm : y ∈ cns := List.mem_of_getElem? (show cns[i]? = some y by have e1' : (x :: cns)[i + 1]? = some y := e1; simpa using e1')
            have hl : scope.names.lookup y = some .free := beq_iff_eq.mp (List.all_eq_true.mp hcf y hm)
            have e0 : (scope.names.lookup y).map (relK X.env y) = some .local := lookup_relabel.symm.trans e3
            rw [hl] at e0
            have e5 : relK X.env y .free = .local := Option.some.inj e0
            unfold relK at e5
            split at e5 <;> cases e5
          · obtain ⟨c', hc'⟩ := kindY y _ e3 (.inl rfl)
            have := cellsOf _ _ hc'
            rw [l1] at this; cases this
            exact ⟨.inl e3, c, hc', l2.keeps fun b o e => k34 _ _ (k23 _ _ e)⟩
          · obtain ⟨c', hc'⟩ := kindY y _ e3 (.inr rfl)
            have := cellsOf _ _ hc'
            rw [l1] at this; cases this
            exact ⟨.inr e3, c, hc', l2.keeps fun b o e => k34 _ _ (k23 _ _ e)⟩
    cell := fun y c e => by
      obtain ⟨v, z⟩ := I2.cell y c (cellsOf _ _ e)
      exact ⟨v, z.keeps fun b o e => k34 _ _ (k23 _ _ e)⟩
    free := I2.hok.fresh (by rw [hacc]; show acc ≤ h3.objs.size; rw [hC]; exact Nat.le_succ _)
    freeC := fun y c e => I2.freeC y c (cellsOf _ _ e)
    pin := fun p hp => by
      have hp2 : p ∈ (X.pn ++ pins) ++ [] := hp
      have hp' : p ∈ X.pn ++ pins := by rw [List.append_nil] at hp2; exact hp2
      obtain ⟨p1, p2, p3, p4, p5⟩ := I2.pin p hp'
      refine ⟨k34 _ _ (k23 _ _ p1), p2, ?_, fun hm => (List.mem_cons.mp (I2.stkSub _ hm)).elim p3 p4, p5⟩
      exact Nat.ne_of_lt (by show p.1 < h3.objs.size; exact Heap.lt_size (k23 _ _ p1))
    hok := I2.hok.kept fun b u e => k34 _ _ (k23 _ _ e)
    len := lenN }
  have fpY : ∀ {H' : Hp} {pl : List (Addr × Obj)} {b : Addr}, b ∈ acc :: fp → H' b = none → (∀ p ∈ pl, p.1 ≠ b) → FpOk Y pl H' b := fun {H' pl b} hb hn hp =>
    ⟨hn, exC b hb, stk_no b hb, .inl hb, fun y c e => (exok b hb).2.2.2.2.1 y c (cellsOf _ _ e), fun p hm => (List.mem_append.mp hm).elim (fun z => (exok b hb).2.2.2.2.2 p z) (hp p)⟩
  have fin : ∀ {σ' : L2.St} {H' : Hp} {s' : Shared} {ys : List V} {its : List Value} {kk : Nat} {pl : List (Addr × Obj)}, Inv Y pl σ' H' s' → H' acc = none → Vals ys its → ys.length ≤ sizeLine →
      s'.heap.get? acc = some { cls := .type "list", data := .seq its.toArray kk } → (∀ p, H' p = none → Q (.ref p) (upd H' p (.lst ys))) →
      ∀ h', Heap.SameBut h3.objs.size s'.heap h' → EP X pins σ Q (.ref acc) { s' with heap := h' } := fun {σ' H' s' ys its kk pl} J ha hv hz ho hq h' hs' => by
    have hacC : acc ≠ h3.objs.size := exC acc (List.mem_cons_self)
    have keepC : ∀ b o, b ≠ h3.objs.size → s'.heap.get? b = some o → h'.get? b = some o := fun b o hb e => hs'.extBut b o hb e
    have ltC : ∀ b o, s2.heap.get? b = some o → b ≠ h3.objs.size := fun b o e => Nat.ne_of_lt (Heap.lt_size (k23 b o e))
    have hCfree : H' h3.objs.size = none := J.free
    have un : Un (frs X.stack) (acc :: fp) H2 H' s2.heap h' := {
      keep := fun b o e n hb hx => keepC b o (ltC b o e) (J.base.keep b o (k23 b o e) n hb hx)
      slot := fun b o e n hb hx => by
        obtain ⟨sl, q⟩ := J.base.slot b o (k23 b o e) n hb hx
        exact ⟨sl, keepC b _ (ltC b o e) q⟩
      free := fun b o e n hx => J.base.free b o (k23 b o e) n hx
      there := fun b o e hx => by
        obtain ⟨o', q⟩ := J.base.there b o (k23 b o e) hx
        exact ⟨o', keepC b o' (ltC b o e) q⟩
      tups := J.base.tups
      frzs := J.base.frzs
      tbls := J.base.tbls }
    have hok : HOk X.prog X.w H' h' := fun b u e => by
      refine (J.hok b u e).stay (fun c v hc q => keepC c v ?_ q) (fun _ q => q) fun _ _ q => q
      rintro rfl
      rcases hc with rfl | hc
      · rw [hCfree] at e; cases e
      · rw [hCfree] at hc; cases hc
    have I5 : Inv X pins σ H' { s' with heap := h' } := I2.call' (ch := acc :: fp) J.os un hok J.bare fun b hb => by
      obtain ⟨g0, g1, g2, g3, g4, g5⟩ := exok b hb
      exact ⟨g3, g1, g4, g5⟩
    refine ⟨.ref acc, _, adopt (acc := acc) I5 ?_ (keepC _ _ hacC ho) hv hz, rfl, hq acc ha⟩
    obtain ⟨g0, g1, g2, g3, g4, g5⟩ := facc
    exact ⟨ha, g1, g2, g3, g4, g5⟩
  have loop : codeAny (model X.prog X.w) X.A (.compLoop (.ListComp elt [⟨.Name x px, iter, ifs, 0⟩] scope pos) 0 (.ref it) (.ref acc) Y.env) (compPost (model X.prog X.w) X.A X.xe none (EP X pins σ Q) (.ref acc) h3.objs.size)
      { s2 with heap := h₁, toks := s2.toks + ([] : List (Str × Value)).length } := by
    refine compLoop_go (fun n s' => ∃ (i : Nat) (v : Option V) (ys : List V) (its : List Value) (kk : Nat) (H' : Hp), Inv Y [] (v :: caps.map (pick σ)) H' s' ∧ tn i s'.heap ∧ (∀ b ∈ fp, H' b = none) ∧ H' acc = none ∧ Vals ys its ∧ ys.length ≤ sizeLine ∧
      s'.heap.get? acc = some { cls := .type "list", data := .seq its.toArray kk } ∧ W i n ys H') ?_ m0 ⟨0, none, [], [], 0, H2, I4, T.keep _ _ _ st2 (fun b _ o e => k34 _ _ (k23 _ _ e)), fun b hb => (f2 b hb).1, facc.1, .nil, Nat.zero_le _, k34 _ _ oacc, w0⟩
    rintro n s5 ⟨i, v, ys, its, kk, H5, I5, st5, fr5, ha5, hv5, hz5, ho5, w5⟩
    have pinA : Inv Y [(acc, { cls := .type "list", data := .seq its.toArray kk })] (v :: caps.map (pick σ)) H5 s5 := I5.pins_of fun p hp => by
      have e : p = (acc, { cls := .type "list", data := .seq its.toArray kk }) := by simpa using hp
      subst e
      exact ⟨ho5, ha5, exC acc List.mem_cons_self, stk_no acc List.mem_cons_self, fun v => by intro z; cases z⟩
    have fpA : ∀ {H' : Hp}, (∀ b ∈ fp, H' b = none) → ∀ b ∈ fp, FpOk Y [(acc, { cls := .type "list", data := .seq its.toArray kk })] H' b := fun hn b hb => fpY (List.mem_cons_of_mem _ hb) (hn b hb) fun p hp => by
      have e : p = (acc, { cls := .type "list", data := .seq its.toArray kk }) := by simpa using hp
      subst e
      exact (Nat.ne_of_lt (fpl b hb)).symm
    rcases turn i n ys H5 w5 with ⟨stop, qn⟩ | ⟨go, hlt, step⟩
    · refine thn (T.done Y rfl rfl rfl hc i _ s5 _ H5 (fun _ _ => False) pinA (fpA fr5) st5 stop) fun r s6 ⟨hr, I6⟩ => ?_
      subst hr
      obtain ⟨m, hm, _⟩ := I6.loc
      have ho6 := (I6.pin (acc, { cls := .type "list", data := .seq its.toArray kk }) (List.mem_append_right _ List.mem_cons_self)).1
      exact ⟨m, hm, fin I6 ha5 hv5 hz5 ho6 qn⟩
    · refine thn (T.item Y rfl rfl rfl hc i _ s5 _ H5 (fun _ _ => False) pinA (fpA fr5) st5 go) fun r s6 ⟨u, hr, h6⟩ => ?_
      subst hr
      refine thn h6 fun _ s7 ⟨z, H7, I7, r7, y7, st7, fr7⟩ => ?_
      have I7' := I7.pinned (fpA fr7) (T.obj _ _ st7)
      have pg : PG Y (.Name x px) (gName 0) := pg_name hnd rfl (.inl (lookup_relabel_local hx)) (.inr (lookup_relabel_local hx))
      refine thn (pg _ s7 _ H7 z u (fun σ2 H2' => σ2 = some z :: caps.map (pick σ) ∧ H2' = H7) I7' r7 ⟨rfl, rfl⟩) fun _ s8 ⟨σ8, H8, I8, e8, e8'⟩ => ?_
      subst e8 e8'
      refine thn (hf _ _ _ _ _ _ s8 _ H8 _ I8 (step z H8 y7)) fun ok s9 ⟨H9, I9, q9⟩ => ?_
      have stat : ∀ {H' : Hp} {s' : Shared} {σ' : L2.St}, Inv Y ([(acc, { cls := .type "list", data := .seq its.toArray kk })] ++ pinsAt fp s7.heap) σ' H' s' → tn (i + 1) s'.heap ∧ (∀ b ∈ fp, H' b = none) ∧ H' acc = none ∧ s'.heap.get? acc = some { cls := .type "list", data := .seq its.toArray kk } := fun {H' s' σ'} J => by
        have pa := J.pin (acc, { cls := .type "list", data := .seq its.toArray kk }) (List.mem_append_right _ (List.mem_append_left _ List.mem_cons_self))
        refine ⟨T.keep _ _ _ st7 fun b hb o e => (J.pin (b, o) (List.mem_append_right _ (List.mem_append_right _ (mem_pinsAt hb e)))).1, fun b hb => ?_, pa.2.1, pa.1⟩
        obtain ⟨o, e, d⟩ := T.obj _ _ st7 b hb
        exact (J.pin (b, o) (List.mem_append_right _ (List.mem_append_right _ (mem_pinsAt hb e)))).2.1
      have nopin : ∀ {H' : Hp} {s' : Shared} {σ' : L2.St} {pl : List (Addr × Obj)}, Inv Y pl σ' H' s' → Inv Y [] σ' H' s' := fun J => J.pins_of fun p hp => nomatch hp
      cases ok with
      | false =>
        obtain ⟨m', hm, w9⟩ := q9
        obtain ⟨t1, t2, t3, t4⟩ := stat I9
        exact ⟨m', hm, i + 1, some z, ys, its, kk, H9, nopin I9, t1, t2, t3, hv5, hz5, t4, w9⟩
      | true =>
        show wpAny _ _ (eval elt Y.env) _ _ s9
        refine thn (he _ _ _ _ _ _ s9 _ H9 _ I9 q9) fun y s10 ⟨yv, H10, I10, r10, m', hm, w10⟩ => ?_
        obtain ⟨t1, t2, t3, t4⟩ := stat I10
        have I10' : Inv Y (pinsAt fp s7.heap) (some z :: caps.map (pick σ)) H10 s10 := I10.pins_of fun p hp => I10.pin p (List.mem_append_right _ (List.mem_append_right _ hp))
        have fA : FpOk Y (pinsAt fp s7.heap) H10 acc := fpY List.mem_cons_self t3 fun p hp => Nat.ne_of_lt (fpl _ (of_pinsAt hp).1)
        have Ja := adopt I10' fA t4 hv5 hz5
        refine thn (mt_append (X := Y) _ s10 _ _ (.ref acc) [yv] (.ref acc) [y] (fun _ H' => H' = upd (upd H10 acc (.lst ys)) acc (.lst (ys ++ [yv]))) Ja rfl (.cons r10 .nil) ⟨acc, ys, yv, rfl, rfl, upd_same, hlt, rfl⟩) fun _ s11 ⟨_, H11, I11, _, e11⟩ => ?_
        rw [upd_upd] at e11
        subst e11
        obtain ⟨hz11, its', kk', hv11, ho11⟩ := I11.hok acc _ upd_same
        have Jd := disown I11 fA
        have st11 : tn (i + 1) s11.heap := T.keep _ _ _ st7 fun b hb o e => (Jd.pin (b, o) (List.mem_append_right _ (mem_pinsAt hb e))).1
        exact ⟨m', hm, i + 1, some z, ys ++ [yv], its', kk', H10, nopin Jd, st11, t2, t3, hv11, hz11, ho11, w10⟩
  exact codeAny_compStart_list loop (T.self X.A 0 _ _ _ (T.keep _ _ _ st2 (fun b _ o e => k34 _ _ (k23 _ _ e))) loop)
end G
namespace G
open PySem L2 PySem.Spec PyProof.Rows
theorem obj_there {P : Program} {w : World} {H : Hp} {h : Heap} {a : Addr} {o : HO} (x : ObjOk P w H h a o) : ∃ ob, h.get? a = some ob := by
  induction o with
  | lst xs => obtain ⟨_, _, _, _, e⟩ := x; exact ⟨_, e⟩
  | tup xs => obtain ⟨_, _, _, ob, e, _⟩ := x; exact ⟨ob, e⟩
  | dK kvs => obtain ⟨_, _, _, _, ob, _, _, e, _⟩ := x; exact ⟨ob, e⟩
  | dT kvs => obtain ⟨_, _, _, _, ob, _, _, e, _⟩ := x; exact ⟨ob, e⟩
  | set S n => obtain ⟨ob, _, _, _, e, _⟩ := x; exact ⟨ob, e⟩
  | ins C dx fs => obtain ⟨_, _, _, e, _⟩ := x; exact ⟨_, e⟩
  | own y => exact x
  | xd fs => obtain ⟨_, ⟨ob, _, _, e, _⟩, _⟩ := x; exact ⟨ob, e⟩
  | rng lo hi => obtain ⟨_, _, _, e⟩ := x; exact ⟨_, e⟩
  | frz ob u ih => exact ⟨_, x.1⟩
  | tbl ps => exact ⟨_, x⟩
  | met f y => exact ⟨_, x⟩
  | ext φ => obtain ⟨_, e, _⟩ := x; exact e
theorem un_step {P : Program} {w : World} {fs : List Addr} {H0 H1 : Hp} {h0 h1 h2 : Heap} (u : Un fs [] H0 H1 h0 h1) (ok : HOk P w H1 h1) (fr : ∀ b ∈ fs, H1 b = none)
    (kp : ∀ b o, h1.get? b = some o → ((∃ v, h0.get? b = some v) ∨ ∃ v, H1 b = some v) → b ∉ fs → h2.get? b = some o) (sl : ∀ b o, h1.get? b = some o → b ∈ fs → ∃ z, h2.get? b = some { o with slots := z }) :
    Un fs [] H0 H1 h0 h2 ∧ HOk P w H1 h2 := by
  refine ⟨⟨fun b o e n hb hx => kp b o (u.keep b o e n hb hx) (.inl ⟨o, e⟩) hb, fun b o e n hb hx => ?_, u.free, fun b o e hx => ?_, u.tups, u.frzs, u.tbls⟩, fun a o e => ?_⟩
  · obtain ⟨z, e1⟩ := u.slot b o e n hb hx
    obtain ⟨z2, e2⟩ := sl b _ e1 hb
    exact ⟨z2, e2⟩
  · obtain ⟨o', e1⟩ := u.there b o e hx
    by_cases hb : b ∈ fs
    · obtain ⟨z, e2⟩ := sl b _ e1 hb
      exact ⟨_, e2⟩
    · exact ⟨o', kp b o' e1 (.inl ⟨o, e⟩) hb⟩
  · refine (ok a o e).stay (fun b v hb q => ?_) (fun _ q => q) fun _ _ q => q
    have hs : ∃ v, H1 b = some v := by
      rcases hb with z | z
      · exact ⟨o, by rw [z]; exact e⟩
      · exact ⟨_, z⟩
    refine kp b v q (.inr hs) fun z => ?_
    obtain ⟨v', e'⟩ := hs
    rw [fr b z] at e'; cases e'
def CXe (P : Program) (w : World) : CXT := fun outer H s E e s' =>
  ∃ (ea : Addr) (cls a0 : Value) (B : Heap) (H' : Hp), e = .ref ea ∧ s'.os = s.os ∧ AllBare s'.gens ∧ Un (frs outer) [] H H' s.heap s'.heap ∧ HOk P w H' s'.heap ∧ Heap.FlyingW B outer ea cls a0 s'.heap ∧
    (∀ b o, s'.heap.get? b = some o → ((∃ v, s.heap.get? b = some v) ∨ ∃ v, H' b = some v) → b ∉ frs outer → B.get? b = some o) ∧ E cls none H'
theorem passE0 {P : Program} {w : World} {X : Cx} : Passes (CXe P w) X E0 := fun _ _ _ _ _ _ _ h => by
  obtain ⟨_, _, _, _, _, _, _, _, _, _, _, _, z⟩ := h
  exact z.elim
section
variable {P : Program} {w : World} {K : PySem.W.Frag} {mg : Str → Option Value} {base : Heap} {N : List Str} {qual : Str} {scope : Scope} {f : Addr} {cd : Value} {A : Around} {outer : List Env} {s : Shared} {H : Hp} {E : XK}
theorem raiseL {pins : List (Addr × Obj)} {σ : L2.St} {H1 : Hp} {s1 : Shared} {C e : Addr} {vs : List Value} {h1 : Heap} (I : Inv (cxOf (CXe P w) P w K mg base N qual scope f cd A outer s H E) pins σ H1 s1)
    (hx : Heap.MadeExcOf s1.heap h1 e (.ref C) vs) (hE : E (.ref C) none H1) : (cxOf (CXe P w) P w K mg base N qual scope f cd A outer s H E).xe (.ref e) { s1 with heap := h1 } := by
  have L0 : ∀ b o, s.heap.get? b = some o → b ≠ (envOfC qual scope s.heap.objs.size f cd).locals := fun b o e => Nat.ne_of_lt (Nat.lt_of_lt_of_le (Heap.lt_size e) I.ok.above)
  have nin : ∀ b, ((∃ v, s.heap.get? b = some v) ∨ ∃ v, H1 b = some v) → b ∉ frs outer → b ∉ frs (envOfC qual scope s.heap.objs.size f cd :: outer) := fun b hb hn hm => by
    rcases List.mem_cons.mp (I.stkSub b hm) with z | z
    · rcases hb with ⟨v, e⟩ | ⟨v, e⟩
      · exact L0 b v e z
      · rw [z] at e
        have := I.free
        rw [e] at this; cases this
    · exact hn z
  have fh : s1.heap.FunFrames (PySem.W.hideAll s1.heap (frs (envOfC qual scope s.heap.objs.size f cd :: outer))) (envOfC qual scope s.heap.objs.size f cd :: outer) :=
    PySem.W.funFrames_hide I.stack fun env he b hb => List.mem_filterMap.mpr ⟨env, he, hb⟩
  refine wpAny_leaves_madeW (s := { s1 with heap := h1 }) I.ok.frames rfl (fun b o q => PySem.W.of_hideAll _ q) fh hx fun h' t fl _ _ sm => ?_
  have inB : ∀ b o, s1.heap.get? b = some o → ((∃ v, s.heap.get? b = some v) ∨ ∃ v, H1 b = some v) → b ∉ frs outer → (PySem.W.hideAll s1.heap (frs (envOfC qual scope s.heap.objs.size f cd :: outer))).get? b = some o :=
    fun b o e hb hn => PySem.W.hideAll_get _ e (nin b hb hn)
  have dat : ∀ b o, s1.heap.get? b = some o → b ∈ frs outer → ∀ vs, o.data ≠ .fields vs := fun b o e hb => by
    obtain ⟨_, o', ho', hd⟩ := I.funs.mem hb
    rw [e] at ho'; cases ho'; exact hd
  have U := un_step (P := P) (w := w) (h2 := h') I.base I.hok (fun b hb => by
      obtain ⟨_, o, ho, _⟩ := I.ok.funs.mem hb
      exact I.base.free b o ho (I.ok.frf b hb) (fun z => nomatch z)) (fun b o e hb hn => fl.1 _ _ (inB b o e hb hn)) fun b o e hb => sm b o (hx.keeps b o e) (dat b o e hb)
  refine ⟨e, .ref C, .ref t, _, H1, rfl, I.os, I.bare, U.1, U.2, fl, fun b o q hb hn => ?_, hE⟩
  have there : ∃ v, s1.heap.get? b = some v := by
    rcases hb with ⟨v, z⟩ | ⟨v, z⟩
    · exact I.base.there b v z (fun z => nomatch z)
    · exact obj_there (I.hok b v z)
  obtain ⟨v, z⟩ := there
  have q2 := inB b v z hb hn
  have := fl.1 _ _ q2
  rw [q] at this; cases this
  exact q2
end
abbrev ExcK (K : PySem.W.Frag) (C : Addr) : Prop := PySem.W.excIn K C [.type "ValueError", .type "Exception", .type "BaseException", .type "object"] "ValueError.__new__" = true
theorem exc_obj {K : PySem.W.Frag} {h : Heap} {C : Addr} {ms : List Value} {ni : String} (X : K.In h) (q : PySem.W.excIn K C ms ni = true) :
    ∃ tl N nm ql bs hd sn sub ab col dd j0 j1 j2 j3 j5 mN, h.get? C = some (excClassObj nm ql C N bs tl hd sn sub ab col dd j0 j1 j2 j3 j5 ni) ∧ h.Ns N mN ∧ mN "__init__" = none ∧ OwnTail h ms tl := by
  unfold PySem.W.excIn at q
  split at q
  · rename_i dd cdat slots hob
    split at q
    · rename_i C2 tl j0 j1 j2 j3 n2 j5 em es
      simp only [Bool.and_eq_true, beq_iff_eq, Bool.not_eq_true'] at q
      obtain ⟨⟨⟨⟨⟨e1, e2⟩, e3⟩, e4⟩, e5⟩, e6⟩ := q
      subst e1 e2
      obtain ⟨c1, c2, c3, c4, c5, c6, c7, c8, c9, c10, c11⟩ := cdat
      dsimp only at em e3 e5 e6
      subst em e3
      have eslots : slots = #[j0, j1, j2, j3, some (.builtin n2), j5] := by
        obtain ⟨ls⟩ := slots
        simp only at es
        rw [es]
      subst eslots
      refine ⟨tl, c4, c1, c5, c2, c6, c7, c8, c9, c10, dd, j0, j1, j2, j3, j5, h.nsMap c4, X _ _ hob, ?_, PySem.W.nsMap_none_of_in X e5 e6, PySem.W.tail_of_in X e4⟩
      exact .of_isNs (PySem.W.isNs_of_in X e5)
    · cases q
  · cases q
section
variable {X : Cx} {x : Str} {C : Addr} {np cpos pos : Pos} {e : Expr} {es : List Expr} {ta : TA} {E : XK}
theorem ps_raise (hc : X.calm = true) (hg : Gl X x) (hm : X.mg x = some (.ref C)) (hx : ExcK X.K C) (ha : PA X (e :: es) ta)
    (hE : ∀ (pins : List (Addr × Obj)) (σ : L2.St) (H : Hp) (s : Shared) (ea : Addr) (vs : List Value) (h1 : Heap), Inv X pins σ H s → Heap.MadeExcOf s.heap h1 ea (.ref C) vs → E (.ref C) none H → X.xe (.ref ea) { s with heap := h1 })
    (hs : starEach (e :: es) X.env = (false, eval e X.env) :: starEach es X.env := by rfl) (hpl : (backTo cpos (starEach es X.env)).any (·.1) = false := by rfl) (hd : (x == ("__debug__" : Str)) = false := by decide) :
    PS X (.Raise (some (.Call (.Name x np) (e :: es) [] cpos)) none pos) (tRaise C E ta) := by
  intro pins s σ H D I h
  obtain ⟨tl, N, nm, ql, bs, hdd, sn, sub, ab, col, dd, j0, j1, j2, j3, j5, mN, hC, hN, hni, T⟩ := exc_obj I.ok.mod.kin hx
  refine wpAny_Raise_call_subT (C := C) (nm := nm) (q := ql) (N := N) (bs := bs) (bm := tl) (hdct := hdd) (sn := sn) (sub := sub) (ab := ab) (col := col) (dd := dd) (k0 := j0) (k1 := j1) (k2 := j2) (k3 := j3) (k5 := j5) PySem.F.excBase_ValueError (mN := mN)
    (T.hasType PySem.F.excBase_ValueError.hasBase) (I.ok.hd hc) ?_ hni (ld_glob I hg hm ⟨rfl, ?_⟩ hd)
  · rw [hs]
    show (false || (backTo cpos (starEach es X.env)).any (·.1)) = false
    rw [hpl]; rfl
  · have q := ha cpos pins s σ H _ I h
    rw [hs] at q ⊢
    refine Calls.evalArgs_plain (thn q fun us s1 ⟨vs, H1, I1, r, l1, hE1⟩ => ⟨rfl, ?_, I1.bk _ _ hC, hN.keeps I1.bk, T.keeps I1.bk, fun h1 ea hmade => hE pins σ H1 s1 ea _ h1 I1 hmade hE1⟩)
    rw [← r.length]
    exact Nat.le_trans l1 (by decide)
end
end G
namespace G
open PySem L2 PySem.Spec PyProof.Rows
def PassX (CX : CXT) (X : Cx) (E : L2.St → XK) : Prop := ∀ (pins : List (Addr × Obj)) (σ : L2.St) (H : Hp) (s : Shared) (e : Value) (s' : Shared), Inv X pins σ H s → CX X.stack H s (E σ) e s' → X.xe e s'
section
variable {X : Cx} {CX : CXT} {k : Nat} {f C : Addr} {fd : FuncData} {ps : List Str} {sp : Sp} {dvs : List V} {ds : List Value} {E : L2.St → XK} {x m : Str} {p pos apos : Pos} {e o : Expr} {es : List Expr} {ta : TE} {t : TA}
theorem run_fnX {pins : List (Addr × Obj)} {σ : L2.St} {H : Hp} {s : Shared} {Q : VK} {us : List Value} {vs : List V} (F : FnOk X.prog X.w X.K X.mg X.base CX k f fd ps sp) (hr : Room k X.A) (hb : Binds X.K fd ps ds) (hd : Vals dvs ds) (hx : PassX CX X E)
    (I : Inv X pins σ H s) (r : Vals vs us) (h : sp (vs ++ dvs) H Q (E σ)) : wpAny (model X.prog X.w) X.A (call (.ref f) us) (EP X pins σ Q) X.xe s := by
  have r2 : Vals (vs ++ dvs) (us ++ ds) := r.append hd
  have hl : (us ++ ds).length = ps.length := by rw [← r2.length]; exact F.len _ _ _ _ h
  refine wpAny_call (codeAny_mono (F.run X.A X.stack s H ⟨us, []⟩ (us ++ ds) (vs ++ dvs) Q (E σ) hr I.env0 (hb s us I.kIn hl) r2 h) fun r s' hq => ?_)
  cases r with
  | error e => exact hx pins σ H s e s' I hq
  | ok fl =>
    cases fl with
    | ret u => exact I.after hq
    | next => exact False.elim hq
    | brk => exact False.elim hq
    | cont => exact False.elim hq
theorem pe_methX {pl : Sem Bool} (he : PE X o ta) (c : Cls X.K C) (hm : Meth X.K C m f) (F : FnOk X.prog X.w X.K X.mg X.base CX k f fd ps sp) (hr : Room k X.A) (hb : Binds X.K fd ps ds) (hd : Vals dvs ds) (hx : PassX CX X E) (ha : PA X (e :: es) t)
    (hst : starEach (e :: es) X.env = (false, eval e X.env) :: starEach es X.env := by rfl) (hpl : (backTo pos (starEach es X.env)).any (·.1) = false := by rfl)
    (ht : eval (.Call (.Attribute o m apos) (e :: es) [] pos) X.env = (do
      let ov ← eval o X.env
      standAt apos.atName
      let (f, first) ← holding [ov] (getMethod ov m pl)
      callWith pos f first (backTo pos (starEach (e :: es) X.env)) (backToKw pos (keywordEach [] X.env))) := by rfl) :
    PE X (.Call (.Attribute o m apos) (e :: es) [] pos) (tMethX C m sp dvs E ta t) := by
  intro pins s σ H Q I h
  refine PySem.W.methodCall_KW (pl := pl) (thn (he pins s σ H _ I h) fun u s1 ⟨x, H1, I1, rx, a, dx, fs, ex, ea, l, q⟩ => ?_) ht
  subst ex
  obtain rfl : u = Value.ref a := rx
  refine getmeth_ok I1 ea c hm l ?_
  refine PySem.W.callWith_K (first := [.ref a]) (h₀ := X.base) I.ok.mod.kin hm.kp (thn (ha pos pins s1 σ H1 _ I1 q) fun us s2 ⟨vs, H2, I2, r, q2⟩ => ⟨I2.kIn, ?_⟩) hst hpl
  exact run_fnX (us := .ref a :: us) (vs := .ref a :: vs) F hr hb hd hx I2 (.cons rfl r) q2
end
abbrev cxB (X : Cx) (pn : List (Addr × Obj)) (xe : Value → Shared → Prop) : Cx := { X with pn := pn, xe := xe }
abbrev cxH (X : Cx) (ea : Value) (pn : List (Addr × Obj)) : Cx := { X with A := X.A.mark (some ea), calm := false, pn := pn, xe := fun _ _ => False }
section
variable {X : Cx} {pins : List (Addr × Obj)} {σ : L2.St} {H : Hp} {s : Shared}
theorem ok_cxB (ok : X.Ok) (pn : List (Addr × Obj)) (xe : Value → Shared → Prop) : (cxB X pn xe).Ok :=
  ⟨ok.mod, ok.kind, ok.glob, ok.blt, ok.above, ok.inj, ok.has, ok.cab, ok.hd, ok.frames, ok.stk, ok.exf, ok.bs, ok.bsz, ok.noex, ok.exfs, ok.funs, ok.frf⟩
theorem ok_cxH (ok : X.Ok) (ea : Value) (pn : List (Addr × Obj)) : (cxH X ea pn).Ok :=
  ⟨ok.mod, ok.kind, ok.glob, ok.blt, ok.above, ok.inj, ok.has, ok.cab, fun z => (nomatch z), ok.frames, ok.stk, ok.exf, ok.bs, ok.bsz, ok.noex, ok.exfs, ok.funs, ok.frf⟩
theorem to_cxB (I : Inv X pins σ H s) (xe : Value → Shared → Prop) : Inv (cxB X (X.pn ++ pins) xe) [] σ H s :=
  ⟨ok_cxB I.ok _ _, I.os, I.bare, I.base, I.loc, I.cell, I.free, I.freeC, fun p hp => I.pin p (by simpa using hp), I.hok, I.len⟩
theorem of_cxB {xe : Value → Shared → Prop} {pl : List (Addr × Obj)} (ok : X.Ok) (I : Inv (cxB X (X.pn ++ pins) xe) pl σ H s) : Inv X pins σ H s :=
  ⟨ok, I.os, I.bare, I.base, I.loc, I.cell, I.free, I.freeC, fun p hp => I.pin p (List.mem_append_left _ hp), I.hok, I.len⟩
theorem to_cxH (I : Inv X pins σ H s) (ea : Value) : Inv (cxH X ea (X.pn ++ pins)) [] σ H s :=
  ⟨ok_cxH I.ok _ _, I.os, I.bare, I.base, I.loc, I.cell, I.free, I.freeC, fun p hp => I.pin p (by simpa using hp), I.hok, I.len⟩
theorem of_cxH {ea : Value} {pl : List (Addr × Obj)} (ok : X.Ok) (I : Inv (cxH X ea (X.pn ++ pins)) pl σ H s) : Inv X pins σ H s :=
  ⟨ok, I.os, I.bare, I.base, I.loc, I.cell, I.free, I.freeC, fun p hp => I.pin p (List.mem_append_left _ hp), I.hok, I.len⟩
theorem sp_cxB {xe : Value → Shared → Prop} {D : Ends} {f : Flow} (ok : X.Ok) (h : SP (cxB X (X.pn ++ pins) xe) [] D f s) : SP X pins D f s := by
  cases f with
  | next => obtain ⟨σ', H', I, q⟩ := h; exact ⟨σ', H', of_cxB ok I, q⟩
  | brk => obtain ⟨σ', H', I, q⟩ := h; exact ⟨σ', H', of_cxB ok I, q⟩
  | cont => obtain ⟨σ', H', I, q⟩ := h; exact ⟨σ', H', of_cxB ok I, q⟩
  | ret u => obtain ⟨v, σ', H', I, r, q⟩ := h; exact ⟨v, σ', H', of_cxB ok I, r, q⟩
theorem sp_cxH {ea : Value} {D : Ends} {f : Flow} (ok : X.Ok) (h : SP (cxH X ea (X.pn ++ pins)) [] D f s) : SP X pins D f s := by
  cases f with
  | next => obtain ⟨σ', H', I, q⟩ := h; exact ⟨σ', H', of_cxH ok I, q⟩
  | brk => obtain ⟨σ', H', I, q⟩ := h; exact ⟨σ', H', of_cxH ok I, q⟩
  | cont => obtain ⟨σ', H', I, q⟩ := h; exact ⟨σ', H', of_cxH ok I, q⟩
  | ret u => obtain ⟨v, σ', H', I, r, q⟩ := h; exact ⟨v, σ', H', of_cxH ok I, r, q⟩
theorem flown {ea : Addr} {cls a0 : Value} {B : Heap} {H2 : Hp} {s2 : Shared} {h3 : Heap} (I : Inv X pins σ H s) (os : s2.os = s.os) (bare : AllBare s2.gens) (un : Un (frs X.stack) [] H H2 s.heap s2.heap) (ok : HOk X.prog X.w H2 s2.heap)
    (fl : Heap.FlyingW B X.stack ea cls a0 s2.heap) (hB : ∀ b o, s2.heap.get? b = some o → ((∃ v, s.heap.get? b = some v) ∨ ∃ v, H2 b = some v) → b ∉ frs X.stack → B.get? b = some o)
    (st : B.StaysIn h3) (sm : s2.heap.UpToSlots h3) : Inv X pins σ H2 { s2 with heap := h3 } := by
  have fr : ∀ b ∈ frs X.stack, H2 b = none := fun b hb => by
    obtain ⟨_, o, ho, _⟩ := I.stack.mem hb
    exact un.free b o ho (I.stkFree b hb) (fun z => nomatch z)
  have U := un_step (P := X.prog) (w := X.w) (h2 := h3) un ok fr (fun b o e hb hn => st _ _ (hB b o e hb hn)) fun b o e hb => by
    obtain ⟨_, o', ho', hd⟩ := fl.2.2.1.mem hb
    rw [e] at ho'; cases ho'
    exact sm b o e hd
  exact I.call' (s' := { s2 with heap := h3 }) (ch := []) os U.1 U.2 bare (fun b z => nomatch z)
end
section
variable {X : Cx} {x : Str} {C : Addr} {np pos hpos : Pos} {body suite : List Stmt} {b₀ : Stmt} {Mt : Value → Prop} {tb : (L2.St → XK) → TS} {th : TS}
theorem ps_try (hst : X.stack = X.env :: X.outer ∧ X.env.frame = some X.env.locals) (hg : Gl X x) (hm : X.mg x = some (.ref C)) (hMt : ∀ c, Mt c → PySem.W.exmOne X.K c (.ref C) = some true)
    (hb : ∀ (E : L2.St → XK) (pn : List (Addr × Obj)) (xe : Value → Shared → Prop), PassX (CXe X.prog X.w) (cxB X pn xe) E → PSs (cxB X pn xe) body (tb E))
    (hs : ∀ (ea : Value) (pn : List (Addr × Obj)), PSs (cxH X ea pn) (b₀ :: suite) th) (hd : (x == ("__debug__" : Str)) = false := by decide) :
    PS X (.Try body [.ExceptHandler (some (.Name x np)) none (b₀ :: suite) hpos] [] [] pos) (tTry Mt tb th) := by
  intro pins s σ H D I h
  refine wpAny_Try_except ?_
  have hx : PassX (CXe X.prog X.w) (cxB X (X.pn ++ pins) fun e s' => ∃ σ H s, Inv X pins σ H s ∧ CXe X.prog X.w X.stack H s (fun cls _ H' => Mt cls ∧ th D σ H') e s') (fun σ' cls _ H' => Mt cls ∧ th D σ' H') :=
    fun pl σ H s e s' J z => ⟨σ, H, s, of_cxB I.ok J, z⟩
  refine wpAny_mono (hb _ _ _ hx [] s σ H D (to_cxB I _) h) (fun f s1 q => ?_) fun e s1 q => ?_
  · have q := sp_cxB I.ok q
    cases f with
    | next => exact wpAny_execs_nil q
    | ret v => exact q
    | brk => exact q
    | cont => exact q
  · obtain ⟨σ1, H1, s0, J, ea, cls, a0, B, H2, rfl, os, bare, un, ok, fl, hB, hM, hth⟩ := q
    have fl0 := fl
    rw [hst.1] at fl0
    refine wpAny_looks_onW (hst.1 ▸ J.ok.frames) hst.2 fl0 fun h4 held4 sm4 => ?_
    refine wpAny_landsW held4 fun h5 fl5 sm5 => ?_
    have sm25 : s1.heap.UpToSlots h5 := sm4.trans sm5
    have J5 := flown J os bare un ok fl hB fl5.1 sm25
    refine wpAny_handleBy_cons (codeAny_handlers_test (ld_glob (X := cxH X (.ref ea) (X.pn ++ pins)) (to_cxH J5 (.ref ea)) hg hm ?_ hd)) (by intro z; cases z)
    obtain ⟨ob, hob, hoc⟩ := fl5.there
    have LT : PySem.W.Looks (model X.prog X.w) h5 (typeOf (.ref ea)) cls := hoc ▸ (PySem.W.Looks.ld hob).andThen .now
    refine (PySem.W.exm_one J5.kIn LT (hMt cls hM)).here ?_
    refine codeAny_handlers_suite ?_
    refine lands_againW fl5 fun h6 fl6 sm6 => ?_
    have J6 := flown J os bare un ok fl hB fl6.1 (sm25.trans sm6)
    refine wpAny_mono (hs (.ref ea) (X.pn ++ pins) [] _ σ1 H2 D (to_cxH J6 (.ref ea)) hth) (fun f s2 q => sp_cxH I.ok q) fun _ _ z => z.elim
end
end G
namespace G
open PySem L2 PySem.Spec PyProof.Rows
section
variable {P : Program} {w : World} {K : PySem.W.Frag} {mg : Str → Option Value} {base : Heap} {x qual : Str} {st : Stmt} {f : Addr} {fd : FuncData} {N ps : List Str} {k : Nat} {sp : Sp}
theorem fok (F : Fun K x qual st f fd) (S : FnScope N ps (defScope st)) (len : ∀ vs H Q E, sp vs H Q E → vs.length = ps.length)
    (hbody : ∀ (cdv : Value) (A : Around) (outer : List Env) (s : Shared) (H : Hp) (vs : List V) (Q : VK) (E : XK), Room k (A.deeper (envOfC qual (defScope st) s.heap.objs.size f cdv)) → sp vs H Q E →
      ∃ t, PSs (cxOf (CXe P w) P w K mg base N qual (defScope st) f cdv A outer s H E).nox (defBody st) t ∧ t { nx := fun _ H' => Q .non H', rt := Q } (start N vs) H) : FnOk P w K mg base (CXe P w) (k + 1) f fd ps sp := by
  obtain ⟨oc, od, kV, doc, pm, an, cdv, ct, osl, rfl, lk, hcd⟩ := F.ex
  refine fn_of lk hcd S len fun A outer s H vs Q E hr hsp => ?_
  obtain ⟨t, h, q⟩ := hbody cdv A outer s H vs Q E hr hsp
  exact ⟨t, h.nox, q⟩
theorem fokDX (F : FunD K x qual st f fd) (S : FnScope N ps (defScope st)) (len : ∀ vs H Q E, sp vs H Q E → vs.length = ps.length)
    (hbody : ∀ (cdv : Value) (A : Around) (outer : List Env) (s : Shared) (H : Hp) (vs : List V) (Q : VK) (E : XK), Room k (A.deeper (envOfC qual (defScope st) s.heap.objs.size f cdv)) → sp vs H Q E →
      ∃ t, PSs (cxOf (CXe P w) P w K mg base N qual (defScope st) f cdv A outer s H E) (defBody st) t ∧ t { nx := fun _ H' => Q .non H', rt := Q } (start N vs) H) : FnOk P w K mg base (CXe P w) (k + 1) f fd ps sp := by
  obtain ⟨oc, od, dV, kV, doc, pm, an, cdv, ct, osl, rfl, lk, hcd⟩ := F.ex
  exact fn_of lk hcd S len fun A outer s H vs Q E hr hsp => hbody cdv A outer s H vs Q E hr hsp
end
end G
namespace G
open PySem L2 PySem.Spec PyProof.Rows
structure ExcI (K : PySem.W.Frag) (C : Addr) : Prop where
  ga : PySem.W.findIn K (.ref C) "__getattribute__" = some (some (.builtin "BaseException.__getattribute__"))
  no : PySem.W.findIn K (.ref C) "__getattr__" = some none
  cl : PySem.W.findIn K (.ref C) "__class__" = some (some (.builtin "object.__class__"))
  so : PySem.W.mroIn K C (.type "object") = some true
  sb : PySem.W.mroIn K C (.type "BaseException") = some true
  is : PySem.W.hasDictIn K C = true
section
variable {prog : Program} {w : World} {A : Around} {E : Value → Shared → Prop} {h : Heap} {g : Array GenState} {d : Drawn} {t : Nat} {os : OsState} {a : Addr} {o : Obj} {C : Addr} {K : PySem.W.Frag}
end
section
variable {X : Cx}
theorem call_listL : CallR X (.type "list") (cListL X.K) := by
  intro pins s σ H xs us Q I r h
  obtain ⟨p, ys, rfl, hs, q⟩ := h
  exact call_list_of pins s σ H [.ref p] us Q I r ⟨p, ys, rfl, .inl hs, q⟩
theorem eqL_range {xs ys : List V} {us ws : List Value} (rx : Vals xs us) (ry : Vals ys ws) (fx : xs.all flatV = true) (fy : ys.all flatV = true) (hl : xs.length = ys.length) :
    (∀ (A : Around) (s : Shared) (j : Nat) (h1 : j < us.toArray.size) (h2 : j < ws.toArray.size), SeqAt.EqAt A s us.toArray[j] ws.toArray[j] (match xs[j]?, ys[j]? with | some a, some b => eqV a b | _, _ => false)) ∧
    (List.range us.toArray.size).all (fun j => match xs[j]?, ys[j]? with | some a, some b => eqV a b | _, _ => false) = eqL xs ys := by
  refine ⟨fun A s j h1 h2 => ?_, ?_⟩
  · rw [List.size_toArray] at h1 h2
    have l1 := rx.length
    have l2 := ry.length
    have a1 : xs[j]? = some xs[j] := List.getElem?_eq_getElem (by omega)
    have a2 : ys[j]? = some ys[j] := List.getElem?_eq_getElem (by omega)
    obtain ⟨u, e1, r1⟩ := rx.get a1
    obtain ⟨w', e2, r2⟩ := ry.get a2
    rw [List.getElem?_eq_getElem h1] at e1
    rw [List.getElem?_eq_getElem h2] at e2
    cases e1
    cases e2
    rw [a1, a2]
    exact eqAt_V r1 r2 (List.all_eq_true.mp fx _ (List.getElem_mem (by omega))) (List.all_eq_true.mp fy _ (List.getElem_mem (by omega)))
  · rw [List.size_toArray, ← rx.length]
    unfold eqL
    rw [beq_iff_eq.mpr hl, Bool.true_and, Bool.eq_iff_iff, List.all_eq_true, List.all_eq_true]
    constructor
    · intro h p hp
      obtain ⟨j, hj, e⟩ := List.getElem_of_mem hp
      rw [List.length_zip] at hj
      have := h j (List.mem_range.mpr (by omega))
      rw [List.getElem?_eq_getElem (show j < xs.length by omega), List.getElem?_eq_getElem (show j < ys.length by omega)] at this
      rw [List.getElem_zip] at e
      rw [← e]; exact this
    · intro h j hj
      have hj := List.mem_range.mp hj
      rw [List.getElem?_eq_getElem (show j < xs.length by omega), List.getElem?_eq_getElem (show j < ys.length by omega)]
      have hz : j < (xs.zip ys).length := by rw [List.length_zip]; omega
      have := h _ (List.getElem_mem hz)
      rw [List.getElem_zip] at this
      exact this
theorem eqL_len {xs ys : List V} (h : xs.length ≠ ys.length) : eqL xs ys = false := by
  unfold eqL
  rw [show (xs.length == ys.length) = false by simpa using h, Bool.false_and]
theorem op_eqL (hu : X.A.units + 1 < cLine) : OpR X (compareOp .Eq) (rEqL X.K false) := by
  intro pins s σ H x y v u Q I rx ry h
  obtain ⟨p, q', xs, ys, rfl, rfl, hx, hy, ff, q⟩ := h
  cases rx
  cases ry
  obtain ⟨us, r1, pl1, _⟩ := I.list hx
  obtain ⟨ws, r2, pl2, _⟩ := I.list hy
  have hu' : X.A.units < cLine := by omega
  by_cases hl : xs.length = ys.length
  · obtain ⟨e1, e2⟩ := eqL_range r1 r2 (ff hl).1 (ff hl).2 hl
    refine SeqAt.eq_listAt pl1.isList pl2.isList (by rw [List.size_toArray, List.size_toArray, ← r1.length, ← r2.length]; exact hl) hu' (fun j h1 h2 => e1 _ _ j h1 h2) ?_
    rw [e2]
    exact ⟨.bl _, H, I, rfl, q⟩
  · refine SeqAt.eq_list_lengthsAt pl1.isList pl2.isList ?_ hu' ?_
    · rw [List.size_toArray, List.size_toArray, ← r1.length, ← r2.length]
      simpa using hl
    · refine ⟨.bl _, H, I, rfl, ?_⟩
      have := q
      rw [eqL_len hl] at this
      exact this
end
end G
namespace G
open PySem L2 PySem.Spec PyProof.Rows
theorem none_mro : fastBuiltinMro "NoneType" = some [.type "NoneType", .type "object"] := by decide +kernel
section
variable {K : PySem.W.Frag} {A : Around} {a C : Addr} {o : Obj}
theorem eq_chk {M : Model} {E : Value → Shared → Prop} {s : Shared} {Q : Unit → Shared → Prop} (LI : PySem.W.Looks M s.heap (isInstance (.ref a) (.type "object")) true) (hq : Q () s) : wpAny M A (checkBuiltinCall "object.__eq__" ⟨[.ref a, .none], []⟩) Q E s := by
  have ha := PySem.F.cmpArgs_eq (.ref a) .none
  simp only [checkBuiltinCall, PySem.F.cmpKind_eq, PySem.F.cmpSplit_eq]
  refine wpAny_bind (LI.here ?_)
  simp only [Bool.not_true, Bool.false_eq_true, if_false]
  cases hsig : Manifest.signature? "object.__eq__" with
  | none => exact wpAny_pure hq
  | some sig =>
    simp only [argsOk, hsig] at ha
    have h2 : Bind.checkArgs "object.__eq__" sig ⟨[.ref a, .none], []⟩ = pure () := ha
    show wpAny M A (Bind.checkArgs "object.__eq__" sig ⟨[.ref a, .none], []⟩) Q E _
    rw [h2]
    exact wpAny_pure hq
theorem eq_call {prog : Program} {w : World} {E : Value → Shared → Prop} {s : Shared} {Q : Value → Shared → Prop} (LI : PySem.W.Looks (model prog w) s.heap (isInstance (.ref a) (.type "object")) true) (hq : Q .notImplemented s) :
    wpAny (model prog w) A (call (.builtin "object.__eq__") [.ref a, .none]) Q E s := by
  refine wpAny_call (codeAny_call_builtin PySem.F.cmp_object.eq.plain PySem.F.cmpEntry_eq (eq_chk LI ?_))
  obtain ⟨h, g, d, t, os⟩ := s
  unfold Builtin.«object.__eq__»
  repeat (first | with_reducible refine wpAny_bind (m := isSame (.ref a) .none) (wpAny_pure ?_) | wp_step)
  exact hq
theorem try_eq {prog : Program} {w : World} {E : Value → Shared → Prop} {s : Shared} {Q : Option Value → Shared → Prop} (X : K.In s.heap) (hx : s.heap.get? a = some o) (hc : o.cls = .ref C) (hE : EqD K C) (hq : Q none s) :
    wpAny (model prog w) A (tryCompare (.ref a) "__eq__" .none) Q E s := by
  have LT : PySem.W.Looks (model prog w) s.heap (typeOf (.ref a)) (.ref C) := hc ▸ (PySem.W.Looks.ld hx).andThen .now
  have LI : PySem.W.Looks (model prog w) s.heap (isInstance (.ref a) (.type "object")) true := LT.andThen (PySem.W.looks_mroIn X hE.ob)
  have LS : PySem.W.Looks (model prog w) s.heap (specialOf (.ref a) "__eq__") (some (.builtin "object.__eq__")) := LT.andThen (PySem.W.looks_findIn X hE.eq)
  simp only [tryCompare]
  refine wpAny_bind ?_
  simp only [callSpecialIfBound?, bindSpecialIfBound?]
  refine wpAny_holding (wpAny_bind (wpAny_bind (LS.here ?_)))
  simp only [PySem.F.cmp_object.eq.bind]
  have fin : wpAny (model prog w) A (call (.builtin "object.__eq__") ([.ref a] ++ [.none]) >>= fun v => pure (some v)) (fun r s' => wpAny (model prog w) A (match r with | some .notImplemented | none => pure none | some v => pure (some v)) Q E s') E s :=
    wpAny_bind (eq_call LI (wpAny_pure (wpAny_pure hq)))
  refine wpAny_bind (wpAny_askSetting (wpAny_ite ?_))
  split
  · exact wpAny_bind (wpAny_pure (wpAny_pure fin))
  · exact wpAny_tryCatch (wpAny_bind (wpAny_pure (wpAny_pure fin)))
theorem rc_inst {s : Shared} (X : K.In s.heap) (hx : s.heap.get? a = some o) (hc : o.cls = .ref C) (hE : EqD K C) (hu : A.units < cLine) : SeqAt.RcAt A s (.ref a) .none false := fun prog w E Q h => by
  have LT : PySem.W.Looks (model prog w) s.heap (typeOf (.ref a)) (.ref C) := hc ▸ (PySem.W.Looks.ld hx).andThen .now
  have hi : cmpInfo CmpOp.Eq = ("==", ("__eq__" : Str), ("__eq__" : Str)) := rfl
  have ho : oneThing? .Eq (.ref a) .none = none := rfl
  simp only [richCompare, hi, ho]
  try with_reducible refine wpAny_holding ?_
  refine wpAny_bind (wpAny_cRoomFor_or (.inr hu) ?_)
  refine wpAny_bind (LT.here (wpAny_bind (m := typeOf .none) (wpAny_pure ?_)))
  have hne : (Value.ref C != Value.type "NoneType") = true := by simp
  simp only [hne, if_true]
  have hs : isSubtype (.type "NoneType") (.ref C) = pure false := by
    rw [isSubtype_type, none_mro]
    rfl
  refine wpAny_bind (wpAny_of_eq hs ?_)
  simp only [Bool.false_eq_true, if_false, Bool.not_false, if_true]
  refine wpAny_bind (m := tryCompare (.ref a) _ .none) (try_eq X hx hc hE ?_)
  refine wpAny_bind (m := tryCompare .none _ (.ref a)) (wpAny_tryCompare_declines (T := "NoneType") rfl PySem.F.slot_NoneType_eq_refl (call_gives PySem.F.slot_NoneType_eq_refl rfl PySem.F.entry_NoneType_eq (PySem.F.args_NoneType_eq_2 _ _) (SeqAt.NoneType___eq___none_ref_0 a) ⟨rfl, ?_⟩))
  exact wpAny_bind (wpAny_rule (wpAny_bind (wpAny_of_eq (rfl : isSame (.ref a) .none = pure false) (wpAny_pure h))))
theorem eq_inst {s : Shared} (X : K.In s.heap) (hx : s.heap.get? a = some o) (hc : o.cls = .ref C) (hE : EqD K C) (hu : A.units < cLine) : SeqAt.EqAt A s (.ref a) .none false := fun prog w E Q h => by
  unfold eqBool
  refine wpAny_holding ?_
  refine wpAny_ite_split (fun hab => absurd (eq_of_beq hab) nofun) (fun _ => ?_)
  exact wpAny_bind (rc_inst X hx hc hE hu prog w E _ (wpAny_truthy_bool h))
end
section
variable {X : Cx}
def noneU (u : Value) : Bool := match u with
  | .none => true
  | _ => false
theorem noneU_of {H : Hp} {y : V} {u : Value} (r : RelV y u) (h : y = .non ∨ ∃ a C dx fs, y = .ref a ∧ H a = some (.ins C dx fs) ∧ Cls X.K C ∧ EqD X.K C) : noneU u = decide (y = .non) := by
  rcases h with rfl | ⟨a, _, _, _, rfl, _⟩
  · obtain rfl : u = Value.none := r
    rfl
  · obtain rfl : u = Value.ref a := r
    rfl
theorem noneU_at {pins : List (Addr × Obj)} {σ : L2.St} {H : Hp} {s : Shared} {A : Around} {y : V} {u : Value} (I : Inv X pins σ H s) (hu : A.units < cLine) (r : RelV y u) (h : y = .non ∨ ∃ a C dx fs, y = .ref a ∧ H a = some (.ins C dx fs) ∧ Cls X.K C ∧ EqD X.K C) : SeqAt.EqAt A s u .none (noneU u) := by
  rcases h with rfl | ⟨a, C, dx, fs, rfl, ha, hc, he⟩
  · obtain rfl : u = Value.none := r
    exact SeqAt.EqAt.same .none
  · obtain rfl : u = Value.ref a := r
    obtain ⟨_, _, _, e, _⟩ := (show ObjOk X.prog X.w H s.heap a (.ins C dx fs) from I.hok a _ ha)
    exact eq_inst I.kIn e rfl he hu
theorem none_any {H : Hp} : ∀ {xs : List V} {us : List Value}, Vals xs us → OkN X.K H xs → us.any noneU = decide (V.non ∈ xs)
  | _, _, .nil, _ => rfl
  | y :: xs, u :: us, .cons r t, h => by
    rw [List.any_cons, none_any t fun z hz => h z (List.mem_cons_of_mem _ hz), noneU_of r (h y List.mem_cons_self), Bool.eq_iff_iff]
    simp only [Bool.or_eq_true, decide_eq_true_eq, List.mem_cons]
    constructor
    · rintro (z | z)
      · exact .inl z.symm
      · exact .inr z
    · rintro (z | z)
      · exact .inl z.symm
      · exact .inr z
theorem none_mem {H : Hp} {pins : List (Addr × Obj)} {σ : L2.St} {s : Shared} {A : Around} {xs : List V} {us : List Value} (I : Inv X pins σ H s) (hu : A.units < cLine) (r : Vals xs us) (h : OkN X.K H xs) : ∀ u ∈ us, SeqAt.EqAt A s u .none (noneU u) := by
  intro u hm
  obtain ⟨i, hi, rfl⟩ := List.getElem_of_mem hm
  have hl := r.length
  have hx : xs[i]? = some xs[i] := List.getElem?_eq_getElem (by omega)
  obtain ⟨u', e, ru⟩ := r.get hx
  rw [List.getElem?_eq_getElem hi] at e
  cases e
  exact noneU_at I hu ru (h _ (List.getElem_mem (by omega)))
theorem op_notInN (hu : X.A.units + 1 < cLine) : OpR X (compareOp .NotIn) (rInN X.K true) := by
  intro pins s σ H x y v u Q I rx ry h
  obtain ⟨p, xs, rfl, rfl, hs, hk, q⟩ := h
  obtain rfl : v = Value.none := rx
  cases ry
  obtain ⟨us, r, pl, _⟩ := I.list hs
  refine SeqAt.notIn_listAt noneU pl.isList (fun w hw => none_mem I (by show X.A.units + 1 < cLine; exact hu) r hk w (by simpa using hw)) ⟨.bl _, H, I, rfl, ?_⟩
  rw [show us.toArray.any noneU = us.any noneU by simp, none_any r hk]
  exact q
theorem none_idx {H : Hp} {xs : List V} {us : List Value} (r : Vals xs us) (h : OkN X.K H xs) (j : Nat) (hj : j < us.length) (hj' : j < xs.length) : noneU us[j] = decide (xs[j] = V.non) := by
  obtain ⟨u', e, ru⟩ := r.get (List.getElem?_eq_getElem hj')
  rw [List.getElem?_eq_getElem hj] at e
  cases e
  exact noneU_of ru (h _ (List.getElem_mem hj'))
theorem mt_indexN (hu : X.A.units + 1 < cLine) : MtR X "list.index" (rIndexN X.K) := by
  intro pins s σ H x xs v us Q I rx rs h
  obtain ⟨p, ys, rfl, rfl, hs, hk, hn, q⟩ := h
  obtain rfl : v = Value.ref p := rx
  obtain ⟨u, rfl, ru⟩ := Vals.one rs
  obtain rfl : u = Value.none := ru
  obtain ⟨ws, r, pl, hz⟩ := I.list hs
  obtain ⟨⟨cls, dd, data, sl⟩, ho, hc, n, hd⟩ := pl.isList
  simp only at hc hd
  subst hc hd
  have hl := r.length
  have hj : ys.idxOf V.non < ys.length := List.idxOf_lt_length_iff.mpr hn
  have hz2 : ys.length < 2 ^ 62 := Nat.lt_of_le_of_lt hz (by decide)
  refine call_meets PySem.F.slot_list_index ⟨_, ho, rfl⟩ PySem.F.entry_list_index (PySem.F.args_list_index_2 _ _)
    (SeqAt.list_indexAt p ws.toArray n dd sl .none noneU (ys.idxOf V.non) (by simpa [hl] using hj) (by omega) ?_ ?_) ⟨ho, fun y hy => none_mem I (by show X.A.units + 1 < cLine; exact hu) r hk y (by simpa using hy), ⟨.int _, H, I.tok _, ⟨_, rfl⟩, q⟩⟩
  · show noneU ws[ys.idxOf V.non] = true
    rw [none_idx r hk _ (by omega) hj, decide_eq_true_eq]
    exact List.getElem_idxOf hj
  · intro j hjs hlt
    show noneU ws[j] = false
    rw [none_idx r hk j (by simpa using hjs) (by omega), decide_eq_false_iff_not]
    intro e
    have := List.not_of_lt_findIdx (p := (· == V.non)) (xs := ys) hlt
    simp [e] at this
end
end G
namespace G
open PySem L2
def rIsB : R2 := fun x y H Q => ∃ b, y = .bl b ∧ Q (.bl (decide (x = .bl b))) H
theorem i_isB {x : V} {b : Bool} {H : Hp} {Q : VK} (h : Q (.bl (decide (x = .bl b))) H) : rIsB x (.bl b) H Q := ⟨b, rfl, h⟩
def tMake0 (C : Addr) : TE := fun _ H Q => ∀ x dx, H x = none → H dx = none → dx ≠ x → Q (.ref x) (upd (upd H dx (.own x)) x (.ins C dx []))
theorem i_make0 {C : Addr} {σ : St} {H : Hp} {Q : VK} (h : ∀ x dx, H x = none → H dx = none → dx ≠ x → Q (.ref x) (upd (upd H dx (.own x)) x (.ins C dx []))) : tMake0 C σ H Q := h
def tOrE (t u : TE) : TE := fun σ H Q => t σ H Q ∨ u σ H Q
theorem i_orL {t u : TE} {σ : St} {H : Hp} {Q : VK} (h : t σ H Q) : tOrE t u σ H Q := .inl h
theorem i_orR {t u : TE} {σ : St} {H : Hp} {Q : VK} (h : u σ H Q) : tOrE t u σ H Q := .inr h
end G
namespace G
open PySem L2 PySem.Spec PyProof.Rows
section
variable {X : Cx}
theorem op_isB : OpR X (compareOp .Is) rIsB := by
  intro pins s σ H x y v u Q I rx ry h
  obtain ⟨b, rfl, q⟩ := h
  cases ry
  cases x with
  | bl c =>
    cases rx
    refine wpAny_is_plain rfl (fin_bl I q ?_)
    cases b <;> cases c <;> rfl
  | non => cases rx; exact wpAny_is_plain rfl (fin_bl I q rfl)
  | ref a => cases rx; exact wpAny_is_plain rfl (fin_bl I q rfl)
  | ty a => cases rx; exact wpAny_is_plain rfl (fin_bl I q rfl)
  | _ => obtain ⟨t, rfl⟩ := rx; exact wpAny_is_plain rfl (fin_bl I q rfl)
theorem pe_eith {e : Expr} {t u : TE} (h1 : PE X e t) (h2 : PE X e u) : PE X e (tOrE t u) := by
  intro pins s σ H Q I h
  rcases h with h | h
  · exact h1 pins s σ H Q I h
  · exact h2 pins s σ H Q I h
structure Mk0 (K : PySem.W.Frag) (C : Addr) : Prop where
  makes : PySem.W.makesIn K C = true
  init : PySem.W.findIn K (.ref C) "__init__" = some (some (.builtin "object.__init__"))
  kp : PySem.W.keepIn K (.ref C) = true
theorem run_make00 {C : Addr} {pins : List (Addr × Obj)} {σ : L2.St} {H : Hp} {s : Shared} {Q : VK} (M : Mk0 X.K C) (I : Inv X pins σ H s)
    (h : ∀ x dx, H x = none → H dx = none → dx ≠ x → Q (.ref x) (upd (upd H dx (.own x)) x (.ins C dx []))) : wpAny (model X.prog X.w) X.A (call (.ref C) []) (EP X pins σ Q) X.xe s := by
  have hq := h (s.heap.objs.size + 1) s.heap.objs.size (I.hok.fresh (Nat.le_succ _)) (I.hok.fresh (Nat.le_refl _)) (Nat.ne_of_lt (Nat.lt_succ_self _))
  have I2 := Inv.made (C := C) I
  have Y := PySem.W.makes_of (M := model X.prog X.w) I.kIn M.makes
  refine wpAny_call (make_map0 I.kIn M.makes M.init (fun self => PySem.W.Looks.of_pure (PySem.W.oi_bind self)) ?_)
  have e2 : ((s.heap.push PySem.W.emptyDict).push (PySem.W.instObj C s.heap.objs.size)).get? (s.heap.objs.size + 1) = some (PySem.W.instObj C s.heap.objs.size) := by
    have := Heap.get?_push_size (s.heap.push PySem.W.emptyDict) (o := PySem.W.instObj C s.heap.objs.size) rfl
    rw [Heap.size_push] at this
    exact this
  have t1 : PySem.W.Looks (model X.prog X.w) ((s.heap.push PySem.W.emptyDict).push (PySem.W.instObj C s.heap.objs.size)) (typeOf (.ref (s.heap.objs.size + 1))) (.ref C) := (PySem.W.Looks.ld e2).andThen .now
  have t2 : PySem.W.Looks (model X.prog X.w) ((s.heap.push PySem.W.emptyDict).push (PySem.W.instObj C s.heap.objs.size)) (isInstance (.ref (s.heap.objs.size + 1)) (.type "object")) true := t1.andThen (Y.top.keeps fun b o e => Heap.get?_push_of_some _ (Heap.get?_push_of_some _ e))
  refine codeAny_call_builtin PySem.W.oi_plain PySem.W.entry_oi (@PySem.W.check_slot (model X.prog X.w) _ _ _ "object.__init__" "object" "__init__" (.ref (s.heap.objs.size + 1)) [] [] _ PySem.W.oi_kind PySem.W.oi_split t2 (PySem.W.oi_args (.ref (s.heap.objs.size + 1))) ?_)
  rw [PySem.W.oi_run]
  exact wpAny_pure (And.intro rfl ⟨V.ref (s.heap.objs.size + 1), _, I2, rfl, hq⟩)
theorem pe_make00 {C : Addr} {x : Str} {p pos : Pos} (M : Mk0 X.K C) (hg : Gl X x) (hm : X.mg x = some (.ref C)) (hdb : (x == ("__debug__" : Str)) = false := by decide) : PE X (.Call (.Name x p) [] [] pos) (tMake0 C) := by
  intro pins s σ H Q I h
  refine wpAny_Call_Name_kw (ld_glob I hg hm ?_ hdb)
  exact PySem.W.callWith_K0 I.kIn M.kp (run_make00 M I h)
structure InsI (K : PySem.W.Frag) (C : Addr) : Prop where
  pg : PySem.W.plainGet K C "__class__" = true
  hd : PySem.W.hasDictIn K C = true
  cl : PySem.W.findIn K (.ref C) "__class__" = some (some (.builtin "object.__class__"))
  sp : PySem.W.specialIn K (.builtin "object.__class__") "__get__" = some (some (.builtin "getset_descriptor.__get__"))
  tk : PySem.W.takesIn K (.builtin "object.__class__") = some true
  so : PySem.W.mroIn K C (.type "object") = some true
end
end G
namespace G
open PySem L2
theorem fn_never {P : Program} {w : World} {K : PySem.W.Frag} {mg : Str → Option Value} {base : Heap} {CX : CXT} {k : Nat} {f : Addr} {fd : FuncData} {ps : List Str} {sp : Sp} (h : ∀ vs H Q E, sp vs H Q E → False) : FnOk P w K mg base CX k f fd ps sp :=
  ⟨fun vs H Q E z => (h vs H Q E z).elim, fun _ _ _ H _ _ vs Q E _ _ _ _ z => (h vs H Q E z).elim⟩
end G
namespace G
open PySem L2 PySem.Spec PyProof.Rows
end G
namespace G
open PySem L2 PySem.Spec PyProof.Rows
section
variable {σ : L2.St} {H : Hp} {Q : VK} {td ty tv : TE} {n bk ct : L2.St → Hp → Prop} {r : VK}
end
end G
namespace G
open PySem L2 PySem.Spec PyProof.Rows
def LCg2 (K : PySem.W.Frag) (J : It) (caps : List Nat) (tc : TT) (te : TE) (σ : L2.St) (H1 : Hp) (Q : VK) : Prop := ∃ W : Nat → Nat → List V → Hp → Prop, (∃ m, W 0 m [] H1) ∧ ∀ i m ys H, W i m ys H →
  (J.stop i H ∧ ∀ p, H p = none → Q (.ref p) (upd H p (.lst ys))) ∨
  (J.go i H ∧ ys.length < sizeLine ∧ ∀ x H', J.yld i H x H' → ∃ a u v, x = .ref a ∧ SqT K H' a [u, v] ∧ tc (some u :: some v :: caps.map (pick σ)) H' fun k H2 => if k = true then te (some u :: some v :: caps.map (pick σ)) H2 (fun y H3 => ∃ m', m' < m ∧ W (i + 1) m' (ys ++ [y]) H3) else ∃ m', m' < m ∧ W (i + 1) m' ys H2)
def tLC2 (K : PySem.W.Frag) (wi : TI) (caps : List Nat) (tc : TT) (te : TE) : TE := fun σ H Q => wi σ H fun J H1 => LCg2 K J caps tc te σ H1 Q
theorem i_lcg2 {K : PySem.W.Frag} {wi : TI} {caps : List Nat} {tc : TT} {te : TE} {σ : L2.St} {H : Hp} {Q : VK} (h : wi σ H fun J H1 => LCg2 K J caps tc te σ H1 Q) : tLC2 K wi caps tc te σ H Q := h
def tUnp (K : PySem.W.Frag) (te : TE) : TE := fun σ H Q => ∃ a u v r, σ = some (.ref a) :: r ∧ SqT K H a [u, v] ∧ te (some u :: some v :: r) H Q
theorem lcg2_of {K : PySem.W.Frag} {J : It} {caps : List Nat} {te : TE} {σ : L2.St} {H : Hp} {Q : VK} (h : LCg J caps tTrue (tUnp K te) σ H Q) : LCg2 K J caps tTrue te σ H Q := by
  obtain ⟨W, w0, step⟩ := h
  refine ⟨W, w0, fun i m ys H hw => ?_⟩
  rcases step i m ys H hw with z | ⟨g, l, st⟩
  · exact .inl z
  · refine .inr ⟨g, l, fun x H' y => ?_⟩
    have h1 := st x H' y
    simp only [tTrue, ↓reduceIte] at h1
    obtain ⟨a, u, v, r, e, hs, q⟩ := h1
    cases e
    refine ⟨a, u, v, rfl, hs, ?_⟩
    simp only [tTrue, ↓reduceIte]
    exact q
theorem pe_lc2 {X : Cx} {elt iter : Expr} {x y : Str} {px py pt pos : Pos} {kt : Nat} {ifs : List Expr} {scope : Scope} {cl : List (Str × Addr)} {wi : TI} {tc : TT} {te : TE} {cns : List Str} (caps : List Nat)
    (hi : PI X (.Tuple [.Name x px, .Name y py] kt pt) iter wi)
    (hf : ∀ C s H ex pn, PF (cxLC X scope cl (x :: y :: cns) C s H ex pn) ifs tc) (he : ∀ C s H ex pn, PE (cxLC X scope cl (x :: y :: cns) C s H ex pn) elt te) (hc : X.calm = true)
    (hclos : closureFor scope X.env = pure cl) (hcl : AllIn X.env.cells cl) (hcap : CapOk X cns caps)
    (hkind : scope.kind = .function) (hcell : (scope.names.all fun p => p.2 != .cell) = true) (hfree : (scope.names.all fun p => p.2 != .free || (cl.lookup p.1).isSome) = true)
    (hcf : (cns.all fun y => scope.names.lookup y == some .free) = true) (hnames : ∀ y ∈ scope.names, y.2 = .local → scope.names.lookup y.1 = some .local) (hx : scope.names.lookup x = some .local) (hy : scope.names.lookup y = some .local) (hnd : (x :: y :: cns).Nodup)
    (hs : ∀ v, foldedSetIterable iter X.env v = pure v := by intro _; rfl) :
    PE X (.ListComp elt [⟨.Tuple [.Name x px, .Name y py] kt pt, iter, ifs, 0⟩] scope pos) (tLC2 X.K wi caps tc te) := by
  intro pins s σ H Q I h
  rw [eval_ListComp]
  refine wpAny_comprehension_free (use := none) rfl hs hclos hkind hnames (thn (hi pins s σ H _ I h) fun xv s1 h1 => thn h1 fun itv s2 h2 => ?_)
  obtain ⟨it, fp, tn, J, H2, rfl, I2, T, st2, f2, W, ⟨m0, w0⟩, turn⟩ := h2
  have hne : ∀ y ∈ scope.names, y.2 ≠ .cell := fun y hy e => by
    have := List.all_eq_true.mp hcell y hy
    rw [e] at this; simp at this
  refine wpAny_newObj_type (wpAny_newFunctionEnv hne (by intro y hy; simp at hy) (fun h₁ hns₁ hsb₁ => ?_) hkind)
  dsimp only at hns₁ hsb₁ ⊢
  generalize hacc : s2.heap.objs.size = acc
  generalize hH3 : s2.heap.push { cls := .type "list", dict := none, data := .seq ([] : List Value).toArray } = h3 at hns₁ hsb₁ ⊢
  have hC : h3.objs.size = acc + 1 := by rw [← hH3, Heap.size_push, hacc]
  have k23 : ∀ b o, s2.heap.get? b = some o → h3.get? b = some o := fun b o e => hH3 ▸ Heap.get?_push_of_some _ e
  have k34 : ∀ b o, h3.get? b = some o → h₁.get? b = some o := fun b o e => hsb₁.extBut b o (Nat.ne_of_lt (Heap.lt_size e)) (Heap.get?_push_of_some _ e)
  have oacc : h3.get? acc = some { cls := .type "list", dict := none, data := .seq ([] : List Value).toArray } := by
    rw [← hH3, ← hacc]; exact Heap.get?_push_size _ rfl
  have I3 : Inv X pins σ H2 { s2 with heap := h3 } := I2.kept (t' := s2.toks) k23
  have facc : FpOk X pins H2 acc := I2.fpOk (Nat.le_of_eq hacc) (I2.hok.fresh (Nat.le_of_eq hacc))
  have fpl : ∀ b ∈ fp, b < acc := fun b hb => by
    obtain ⟨o, e, _⟩ := T.obj _ _ st2 b hb
    rw [← hacc]; exact Heap.lt_size e
  have exok : ∀ b ∈ acc :: fp, FpOk X pins H2 b := fun b hb => (List.mem_cons.mp hb).elim (fun e => e ▸ facc) (f2 b)
  have exC : ∀ b ∈ acc :: fp, b ≠ h3.objs.size := fun b hb => by
    rcases List.mem_cons.mp hb with e | hb
    · rw [hC, e]; exact Nat.ne_of_lt (Nat.lt_succ_self _)
    · rw [hC]; exact Nat.ne_of_lt (Nat.lt_succ_of_lt (fpl b hb))
  have stk_no : ∀ b ∈ acc :: fp, b ∉ frs X.stack := fun b hb hm => by
    obtain ⟨_, g1, g2, _⟩ := exok b hb
    exact (List.mem_cons.mp (I2.stkSub b hm)).elim g1 g2
  let Y : Cx := cxLC X scope cl (x :: y :: cns) h3.objs.size { s2 with heap := h3 } H2 (acc :: fp) (X.pn ++ pins)
  have cellsOf : ∀ y c, cl.lookup y = some c → X.env.cells.lookup y = some c := fun y c e => hcl.get e
  have kindY : ∀ y k, Y.env.kindOf y = some k → (k = .cell ∨ k = .free) → ∃ c, cl.lookup y = some c := fun y k e hk => by
    have e0 : (scope.names.lookup y).map (relK X.env y) = some k := lookup_relabel.symm.trans e
    obtain ⟨k0, e1, e2⟩ := Option.map_eq_some_iff.mp e0
    have e3 := lookup_all hfree e1
    have e4 := lookup_all hcell e1
    by_cases hf : k0 = .free
    · subst hf
      rw [Bool.or_eq_true] at e3
      rcases e3 with e3 | e3
      · exact absurd rfl (bne_iff_ne.mp e3)
      · exact Option.isSome_iff_exists.mp e3
    · exfalso
      have e5 : relK X.env y k0 = k0 := by
        unfold relK
        rw [if_neg]
        intro z
        rw [Bool.and_eq_true, Bool.and_eq_true] at z
        exact hf (beq_iff_eq.mp z.1.1)
      rw [e5] at e2
      subst e2
      rcases hk with rfl | rfl
      · simp at e4
      · exact hf rfl
  have okY : Y.Ok := {
    mod := I2.ok.mod
    kind := hkind
    glob := I2.ok.glob
    blt := I2.ok.blt
    above := Nat.le_refl _
    inj := fun a b c e1 e2 => I2.ok.inj a b c (cellsOf _ _ e1) (cellsOf _ _ e2)
    has := fun y hy => hy.elim (fun e => kindY y _ e (.inl rfl)) (fun e => kindY y _ e (.inr rfl))
    cab := fun y c e => nomatch e
    hd := I2.ok.hd
    frames := I2.ok.frames
    stk := .inl rfl
    exf := fun b hb => ⟨exC b hb, fun y c e => (exok b hb).2.2.2.2.1 y c (cellsOf _ _ e)⟩
    bs := fun b o e => ⟨k23 b o (I2.bs b o e).1, (I2.bs b o e).2⟩
    bsz := by
      show X.base.objs.size ≤ h3.objs.size
      rw [hC, ← hacc]
      exact Nat.le_succ_of_le (Nat.le_trans I2.ok.bsz I2.sz)
    noex := fun b o e hb => by
      rcases (exok b hb).2.2.2.1 with z | z
      · exact I2.ok.noex b o e z
      · exact absurd (Nat.lt_of_lt_of_le (Heap.lt_size e) (Nat.le_trans I2.ok.bsz z)) (Nat.lt_irrefl _)
    exfs := stk_no
    funs := I3.stack
    frf := I3.stkFree }
  have lenN : (none :: none :: caps.map (pick σ) : L2.St).length = (x :: y :: cns).length := by rw [List.length_cons, List.length_cons, List.length_cons, List.length_cons, List.length_map, hcap.len]
  have I4 : Inv Y [] (none :: none :: caps.map (pick σ)) H2 { s2 with heap := h₁, toks := s2.toks + ([] : List (Str × Value)).length } := {
    ok := okY
    os := rfl
    bare := I2.bare
    base := Un.kept k34
    loc := by
      refine ⟨_, hns₁, fun i y₁ v e1 e2 e3 => ?_⟩
      match i, e1, e2 with
      | 0, e1, e2 => simp at e2
      | 1, e1, e2 => simp at e2
      | i + 2, e1, e2 =>
        obtain ⟨j, j1, j2, j3⟩ := hcap.get (σ := σ) (i := i) (x := y₁) (v := v) (by have e1' : (x :: y :: cns)[i + 2]? = some y₁ := e1; simpa using e1') (by simpa using e2)
        obtain ⟨m, hn, hl⟩ := I2.loc
        obtain ⟨u, r, l⟩ := hl j y₁ v j1 j3 (.inr (.inl j2))
        rcases l with ⟨l, _⟩ | ⟨_, c, l1, l2⟩
        · rw [j2] at l; cases l
        · refine ⟨u, r, .inr ?_⟩
          rcases e3 with e3 | e3 | e3
          · exfalso
            have hm : y₁ ∈ cns := List.mem_of_getElem? (show cns[i]? = some y₁ by have e1' : (x :: y :: cns)[i + 2]? = some y₁ := e1; simpa using e1')
            have hl : scope.names.lookup y₁ = some .free := beq_iff_eq.mp (List.all_eq_true.mp hcf y₁ hm)
            have e0 : (scope.names.lookup y₁).map (relK X.env y₁) = some .local := lookup_relabel.symm.trans e3
            rw [hl] at e0
            have e5 : relK X.env y₁ .free = .local := Option.some.inj e0
            unfold relK at e5
            split at e5 <;> cases e5
          · obtain ⟨c', hc'⟩ := kindY y₁ _ e3 (.inl rfl)
            have := cellsOf _ _ hc'
            rw [l1] at this; cases this
            exact ⟨.inl e3, c, hc', l2.keeps fun b o e => k34 _ _ (k23 _ _ e)⟩
          · obtain ⟨c', hc'⟩ := kindY y₁ _ e3 (.inr rfl)
            have := cellsOf _ _ hc'
            rw [l1] at this; cases this
            exact ⟨.inr e3, c, hc', l2.keeps fun b o e => k34 _ _ (k23 _ _ e)⟩
    cell := fun y c e => by
      obtain ⟨v, z⟩ := I2.cell y c (cellsOf _ _ e)
      exact ⟨v, z.keeps fun b o e => k34 _ _ (k23 _ _ e)⟩
    free := I2.hok.fresh (by rw [hacc]; show acc ≤ h3.objs.size; rw [hC]; exact Nat.le_succ _)
    freeC := fun y c e => I2.freeC y c (cellsOf _ _ e)
    pin := fun p hp => by
      have hp2 : p ∈ (X.pn ++ pins) ++ [] := hp
      have hp' : p ∈ X.pn ++ pins := by rw [List.append_nil] at hp2; exact hp2
      obtain ⟨p1, p2, p3, p4, p5⟩ := I2.pin p hp'
      refine ⟨k34 _ _ (k23 _ _ p1), p2, ?_, fun hm => (List.mem_cons.mp (I2.stkSub _ hm)).elim p3 p4, p5⟩
      exact Nat.ne_of_lt (by show p.1 < h3.objs.size; exact Heap.lt_size (k23 _ _ p1))
    hok := I2.hok.kept fun b u e => k34 _ _ (k23 _ _ e)
    len := lenN }
  have fpY : ∀ {H' : Hp} {pl : List (Addr × Obj)} {b : Addr}, b ∈ acc :: fp → H' b = none → (∀ p ∈ pl, p.1 ≠ b) → FpOk Y pl H' b := fun {H' pl b} hb hn hp =>
    ⟨hn, exC b hb, stk_no b hb, .inl hb, fun y c e => (exok b hb).2.2.2.2.1 y c (cellsOf _ _ e), fun p hm => (List.mem_append.mp hm).elim (fun z => (exok b hb).2.2.2.2.2 p z) (hp p)⟩
  have fin : ∀ {σ' : L2.St} {H' : Hp} {s' : Shared} {ys : List V} {its : List Value} {kk : Nat} {pl : List (Addr × Obj)}, Inv Y pl σ' H' s' → H' acc = none → Vals ys its → ys.length ≤ sizeLine →
      s'.heap.get? acc = some { cls := .type "list", data := .seq its.toArray kk } → (∀ p, H' p = none → Q (.ref p) (upd H' p (.lst ys))) →
      ∀ h', Heap.SameBut h3.objs.size s'.heap h' → EP X pins σ Q (.ref acc) { s' with heap := h' } := fun {σ' H' s' ys its kk pl} J ha hv hz ho hq h' hs' => by
    have hacC : acc ≠ h3.objs.size := exC acc (List.mem_cons_self)
    have keepC : ∀ b o, b ≠ h3.objs.size → s'.heap.get? b = some o → h'.get? b = some o := fun b o hb e => hs'.extBut b o hb e
    have ltC : ∀ b o, s2.heap.get? b = some o → b ≠ h3.objs.size := fun b o e => Nat.ne_of_lt (Heap.lt_size (k23 b o e))
    have hCfree : H' h3.objs.size = none := J.free
    have un : Un (frs X.stack) (acc :: fp) H2 H' s2.heap h' := {
      keep := fun b o e n hb hx => keepC b o (ltC b o e) (J.base.keep b o (k23 b o e) n hb hx)
      slot := fun b o e n hb hx => by
        obtain ⟨sl, q⟩ := J.base.slot b o (k23 b o e) n hb hx
        exact ⟨sl, keepC b _ (ltC b o e) q⟩
      free := fun b o e n hx => J.base.free b o (k23 b o e) n hx
      there := fun b o e hx => by
        obtain ⟨o', q⟩ := J.base.there b o (k23 b o e) hx
        exact ⟨o', keepC b o' (ltC b o e) q⟩
      tups := J.base.tups
      frzs := J.base.frzs
      tbls := J.base.tbls }
    have hok : HOk X.prog X.w H' h' := fun b u e => by
      refine (J.hok b u e).stay (fun c v hc q => keepC c v ?_ q) (fun _ q => q) fun _ _ q => q
      rintro rfl
      rcases hc with rfl | hc
      · rw [hCfree] at e; cases e
      · rw [hCfree] at hc; cases hc
    have I5 : Inv X pins σ H' { s' with heap := h' } := I2.call' (ch := acc :: fp) J.os un hok J.bare fun b hb => by
      obtain ⟨g0, g1, g2, g3, g4, g5⟩ := exok b hb
      exact ⟨g3, g1, g4, g5⟩
    refine ⟨.ref acc, _, adopt (acc := acc) I5 ?_ (keepC _ _ hacC ho) hv hz, rfl, hq acc ha⟩
    obtain ⟨g0, g1, g2, g3, g4, g5⟩ := facc
    exact ⟨ha, g1, g2, g3, g4, g5⟩
  have loop : codeAny (model X.prog X.w) X.A (.compLoop (.ListComp elt [⟨.Tuple [.Name x px, .Name y py] kt pt, iter, ifs, 0⟩] scope pos) 0 (.ref it) (.ref acc) Y.env) (compPost (model X.prog X.w) X.A X.xe none (EP X pins σ Q) (.ref acc) h3.objs.size)
      { s2 with heap := h₁, toks := s2.toks + ([] : List (Str × Value)).length } := by
    refine compLoop_go (fun n s' => ∃ (i : Nat) (v v' : Option V) (ys : List V) (its : List Value) (kk : Nat) (H' : Hp), Inv Y [] (v :: v' :: caps.map (pick σ)) H' s' ∧ tn i s'.heap ∧ (∀ b ∈ fp, H' b = none) ∧ H' acc = none ∧ Vals ys its ∧ ys.length ≤ sizeLine ∧
      s'.heap.get? acc = some { cls := .type "list", data := .seq its.toArray kk } ∧ W i n ys H') ?_ m0 ⟨0, none, none, [], [], 0, H2, I4, T.keep _ _ _ st2 (fun b _ o e => k34 _ _ (k23 _ _ e)), fun b hb => (f2 b hb).1, facc.1, .nil, Nat.zero_le _, k34 _ _ oacc, w0⟩
    rintro n s5 ⟨i, v, v', ys, its, kk, H5, I5, st5, fr5, ha5, hv5, hz5, ho5, w5⟩
    have pinA : Inv Y [(acc, { cls := .type "list", data := .seq its.toArray kk })] (v :: v' :: caps.map (pick σ)) H5 s5 := I5.pins_of fun p hp => by
      have e : p = (acc, { cls := .type "list", data := .seq its.toArray kk }) := by simpa using hp
      subst e
      exact ⟨ho5, ha5, exC acc List.mem_cons_self, stk_no acc List.mem_cons_self, fun v => by intro z; cases z⟩
    have fpA : ∀ {H' : Hp}, (∀ b ∈ fp, H' b = none) → ∀ b ∈ fp, FpOk Y [(acc, { cls := .type "list", data := .seq its.toArray kk })] H' b := fun hn b hb => fpY (List.mem_cons_of_mem _ hb) (hn b hb) fun p hp => by
      have e : p = (acc, { cls := .type "list", data := .seq its.toArray kk }) := by simpa using hp
      subst e
      exact (Nat.ne_of_lt (fpl b hb)).symm
    rcases turn i n ys H5 w5 with ⟨stop, qn⟩ | ⟨go, hlt, step⟩
    · refine thn (T.done Y rfl rfl rfl hc i _ s5 _ H5 (fun _ _ => False) pinA (fpA fr5) st5 stop) fun r s6 ⟨hr, I6⟩ => ?_
      subst hr
      obtain ⟨m, hm, _⟩ := I6.loc
      have ho6 := (I6.pin (acc, { cls := .type "list", data := .seq its.toArray kk }) (List.mem_append_right _ List.mem_cons_self)).1
      exact ⟨m, hm, fin I6 ha5 hv5 hz5 ho6 qn⟩
    · refine thn (T.item Y rfl rfl rfl hc i _ s5 _ H5 (fun _ _ => False) pinA (fpA fr5) st5 go) fun r s6 ⟨u, hr, h6⟩ => ?_
      subst hr
      refine thn h6 fun _ s7 ⟨z, H7, I7, r7, y7, st7, fr7⟩ => ?_
      have I7' := I7.pinned (fpA fr7) (T.obj _ _ st7)
      obtain ⟨ta, u1, u2, ez, hst, step⟩ := step z H7 y7
      have pg : PG Y (.Tuple [.Name x px, .Name y py] kt pt) (gTup X.K 2 (gCons (gName 0) (gCons (gName 1) gNil))) := pg_tup (X := Y) hc (pgs_cons (pg_name hnd rfl (.inl (lookup_relabel_local hx)) (.inr (lookup_relabel_local hx))) (pgs_cons (pg_name hnd rfl (.inl (lookup_relabel_local hy)) (.inr (lookup_relabel_local hy))) pgs_nil))
      refine thn (pg _ s7 _ H7 z u (fun σ2 H2' => σ2 = some u1 :: some u2 :: caps.map (pick σ) ∧ H2' = H7) I7' r7 ⟨ta, _, ez, hst, rfl, _, _, rfl, _, _, rfl, rfl, rfl, rfl⟩) fun _ s8 ⟨σ8, H8, I8, e8, e8'⟩ => ?_
      subst e8 e8'
      refine thn (hf _ _ _ _ _ _ s8 _ H8 _ I8 step) fun ok s9 ⟨H9, I9, q9⟩ => ?_
      have stat : ∀ {H' : Hp} {s' : Shared} {σ' : L2.St}, Inv Y ([(acc, { cls := .type "list", data := .seq its.toArray kk })] ++ pinsAt fp s7.heap) σ' H' s' → tn (i + 1) s'.heap ∧ (∀ b ∈ fp, H' b = none) ∧ H' acc = none ∧ s'.heap.get? acc = some { cls := .type "list", data := .seq its.toArray kk } := fun {H' s' σ'} J => by
        have pa := J.pin (acc, { cls := .type "list", data := .seq its.toArray kk }) (List.mem_append_right _ (List.mem_append_left _ List.mem_cons_self))
        refine ⟨T.keep _ _ _ st7 fun b hb o e => (J.pin (b, o) (List.mem_append_right _ (List.mem_append_right _ (mem_pinsAt hb e)))).1, fun b hb => ?_, pa.2.1, pa.1⟩
        obtain ⟨o, e, d⟩ := T.obj _ _ st7 b hb
        exact (J.pin (b, o) (List.mem_append_right _ (List.mem_append_right _ (mem_pinsAt hb e)))).2.1
      have nopin : ∀ {H' : Hp} {s' : Shared} {σ' : L2.St} {pl : List (Addr × Obj)}, Inv Y pl σ' H' s' → Inv Y [] σ' H' s' := fun J => J.pins_of fun p hp => nomatch hp
      cases ok with
      | false =>
        obtain ⟨m', hm, w9⟩ := q9
        obtain ⟨t1, t2, t3, t4⟩ := stat I9
        exact ⟨m', hm, i + 1, some u1, some u2, ys, its, kk, H9, nopin I9, t1, t2, t3, hv5, hz5, t4, w9⟩
      | true =>
        show wpAny _ _ (eval elt Y.env) _ _ s9
        refine thn (he _ _ _ _ _ _ s9 _ H9 _ I9 q9) fun y s10 ⟨yv, H10, I10, r10, m', hm, w10⟩ => ?_
        obtain ⟨t1, t2, t3, t4⟩ := stat I10
        have I10' : Inv Y (pinsAt fp s7.heap) (some u1 :: some u2 :: caps.map (pick σ)) H10 s10 := I10.pins_of fun p hp => I10.pin p (List.mem_append_right _ (List.mem_append_right _ hp))
        have fA : FpOk Y (pinsAt fp s7.heap) H10 acc := fpY List.mem_cons_self t3 fun p hp => Nat.ne_of_lt (fpl _ (of_pinsAt hp).1)
        have Ja := adopt I10' fA t4 hv5 hz5
        refine thn (mt_append (X := Y) _ s10 _ _ (.ref acc) [yv] (.ref acc) [y] (fun _ H' => H' = upd (upd H10 acc (.lst ys)) acc (.lst (ys ++ [yv]))) Ja rfl (.cons r10 .nil) ⟨acc, ys, yv, rfl, rfl, upd_same, hlt, rfl⟩) fun _ s11 ⟨_, H11, I11, _, e11⟩ => ?_
        rw [upd_upd] at e11
        subst e11
        obtain ⟨hz11, its', kk', hv11, ho11⟩ := I11.hok acc _ upd_same
        have Jd := disown I11 fA
        have st11 : tn (i + 1) s11.heap := T.keep _ _ _ st7 fun b hb o e => (Jd.pin (b, o) (List.mem_append_right _ (mem_pinsAt hb e))).1
        exact ⟨m', hm, i + 1, some u1, some u2, ys ++ [yv], its', kk', H10, nopin Jd, st11, t2, t3, hv11, hz11, ho11, w10⟩
  exact codeAny_compStart_list loop (T.self X.A 0 _ _ _ (T.keep _ _ _ st2 (fun b _ o e => k34 _ _ (k23 _ _ e))) loop)
end G
namespace G
open PySem L2 PySem.Spec PyProof.Rows
theorem ps_lcset {X : Cx} {iz : Nat} {z : Str} {pz posA : Pos} {elt iter : Expr} {x : Str} {px pos : Pos} {ifs : List Expr} {scope : Scope} {cl : List (Str × Addr)} {wi : TI} {tc : TT} {te : TE} {cns : List Str} (caps : List Nat)
    (hi : PI X (.Name x px) iter wi)
    (hf : ∀ C s H ex pn, PF (cxLC X scope cl (x :: cns) C s H ex pn) ifs tc) (he : ∀ C s H ex pn, PE (cxLC X scope cl (x :: cns) C s H ex pn) elt te) (hc : X.calm = true)
    (hclos : closureFor scope X.env = pure cl) (hcl : AllIn X.env.cells cl) (hcap : CapOk X cns caps)
    (hkind : scope.kind = .function) (hcell : (scope.names.all fun p => p.2 != .cell) = true) (hfree : (scope.names.all fun p => p.2 != .free || (cl.lookup p.1).isSome) = true)
    (hcf : (cns.all fun y => scope.names.lookup y == some .free) = true) (hnames : ∀ y ∈ scope.names, y.2 = .local → scope.names.lookup y.1 = some .local) (hx : scope.names.lookup x = some .local) (hnd : (x :: cns).Nodup)
    (hN : X.N.Nodup) (hiz : X.N[iz]? = some z) (hz : Loc X.env.scope z) (hfz : X.fn z = true ∨ X.env.scope.names.lookup z = some .local)
    (hsw : swapsWithSole [.Name z pz] (.ListComp elt [⟨.Name x px, iter, ifs, 0⟩] scope pos) posA.line X.env = pure true) (hs : ∀ v, foldedSetIterable iter X.env v = pure v := by intro _; rfl) :
    PS X (.Assign [.Name z pz] (.ListComp elt [⟨.Name x px, iter, ifs, 0⟩] scope pos) posA) (tAsg (tLC wi caps tc te) (gName iz)) := by
  intro pins s σ H D I h
  generalize hQ : (fun v H1 => gName iz v σ H1 D.nx) = Q
  have h : tLC wi caps tc te σ H Q := hQ ▸ h
  rw [exec_Assign_arm]
  refine wpAny_bind (wpAny_standAt ?_)
  rw [hsw]
  refine wpAny_bind (wpAny_pure ?_)
  rw [if_pos rfl]
  refine wpAny_bind ?_
  rw [evalThenUse]
  suffices key : wpAny (model X.prog X.w) X.A (comprehension (.ListComp elt [⟨.Name x px, iter, ifs, 0⟩] scope pos) scope X.env (firstIterPos [⟨.Name x px, iter, ifs, 0⟩] pos) (newList []) (firstAsync [⟨.Name x px, iter, ifs, 0⟩]) (firstIter [⟨.Name x px, iter, ifs, 0⟩] X.env) (some fun v => assignAll v ((assignEach [.Name z pz] X.env).map (·.2)))) (fun _ s' => SP X pins D .next s') X.xe s from
    wpAny_bind (wpAny_mono key (fun _ s' h => wpAny_pure (wpAny_pure h)) fun _ _ h => h)
  refine wpAny_comprehension_free rfl hs hclos hkind hnames (thn (hi pins s σ H _ I h) fun xv s1 h1 => thn h1 fun itv s2 h2 => ?_)
  obtain ⟨it, fp, tn, J, H2, rfl, I2, T, st2, f2, W, ⟨m0, w0⟩, turn⟩ := h2
  have hne : ∀ y ∈ scope.names, y.2 ≠ .cell := fun y hy e => by
    have := List.all_eq_true.mp hcell y hy
    rw [e] at this; simp at this
  refine wpAny_newObj_type (wpAny_newFunctionEnv hne (by intro y hy; simp at hy) (fun h₁ hns₁ hsb₁ => ?_) hkind)
  dsimp only at hns₁ hsb₁ ⊢
  generalize hacc : s2.heap.objs.size = acc
  generalize hH3 : s2.heap.push { cls := .type "list", dict := none, data := .seq ([] : List Value).toArray } = h3 at hns₁ hsb₁ ⊢
  have hC : h3.objs.size = acc + 1 := by rw [← hH3, Heap.size_push, hacc]
  have k23 : ∀ b o, s2.heap.get? b = some o → h3.get? b = some o := fun b o e => hH3 ▸ Heap.get?_push_of_some _ e
  have k34 : ∀ b o, h3.get? b = some o → h₁.get? b = some o := fun b o e => hsb₁.extBut b o (Nat.ne_of_lt (Heap.lt_size e)) (Heap.get?_push_of_some _ e)
  have oacc : h3.get? acc = some { cls := .type "list", dict := none, data := .seq ([] : List Value).toArray } := by
    rw [← hH3, ← hacc]; exact Heap.get?_push_size _ rfl
  have I3 : Inv X pins σ H2 { s2 with heap := h3 } := I2.kept (t' := s2.toks) k23
  have facc : FpOk X pins H2 acc := I2.fpOk (Nat.le_of_eq hacc) (I2.hok.fresh (Nat.le_of_eq hacc))
  have fpl : ∀ b ∈ fp, b < acc := fun b hb => by
    obtain ⟨o, e, _⟩ := T.obj _ _ st2 b hb
    rw [← hacc]; exact Heap.lt_size e
  have exok : ∀ b ∈ acc :: fp, FpOk X pins H2 b := fun b hb => (List.mem_cons.mp hb).elim (fun e => e ▸ facc) (f2 b)
  have exC : ∀ b ∈ acc :: fp, b ≠ h3.objs.size := fun b hb => by
    rcases List.mem_cons.mp hb with e | hb
    · rw [hC, e]; exact Nat.ne_of_lt (Nat.lt_succ_self _)
    · rw [hC]; exact Nat.ne_of_lt (Nat.lt_succ_of_lt (fpl b hb))
  have stk_no : ∀ b ∈ acc :: fp, b ∉ frs X.stack := fun b hb hm => by
    obtain ⟨_, g1, g2, _⟩ := exok b hb
    exact (List.mem_cons.mp (I2.stkSub b hm)).elim g1 g2
  let Y : Cx := cxLC X scope cl (x :: cns) h3.objs.size { s2 with heap := h3 } H2 (acc :: fp) (X.pn ++ pins)
  have cellsOf : ∀ y c, cl.lookup y = some c → X.env.cells.lookup y = some c := fun y c e => hcl.get e
  have kindY : ∀ y k, Y.env.kindOf y = some k → (k = .cell ∨ k = .free) → ∃ c, cl.lookup y = some c := fun y k e hk => by
    have e0 : (scope.names.lookup y).map (relK X.env y) = some k := lookup_relabel.symm.trans e
    obtain ⟨k0, e1, e2⟩ := Option.map_eq_some_iff.mp e0
    have e3 := lookup_all hfree e1
    have e4 := lookup_all hcell e1
    by_cases hf : k0 = .free
    · subst hf
      rw [Bool.or_eq_true] at e3
      rcases e3 with e3 | e3
      · exact absurd rfl (bne_iff_ne.mp e3)
      · exact Option.isSome_iff_exists.mp e3
    · exfalso
      have e5 : relK X.env y k0 = k0 := by
        unfold relK
        rw [if_neg]
        intro z
        rw [Bool.and_eq_true, Bool.and_eq_true] at z
        exact hf (beq_iff_eq.mp z.1.1)
      rw [e5] at e2
      subst e2
      rcases hk with rfl | rfl
      · simp at e4
      · exact hf rfl
  have okY : Y.Ok := {
    mod := I2.ok.mod
    kind := hkind
    glob := I2.ok.glob
    blt := I2.ok.blt
    above := Nat.le_refl _
    inj := fun a b c e1 e2 => I2.ok.inj a b c (cellsOf _ _ e1) (cellsOf _ _ e2)
    has := fun y hy => hy.elim (fun e => kindY y _ e (.inl rfl)) (fun e => kindY y _ e (.inr rfl))
    cab := fun y c e => nomatch e
    hd := I2.ok.hd
    frames := I2.ok.frames
    stk := .inl rfl
    exf := fun b hb => ⟨exC b hb, fun y c e => (exok b hb).2.2.2.2.1 y c (cellsOf _ _ e)⟩
    bs := fun b o e => ⟨k23 b o (I2.bs b o e).1, (I2.bs b o e).2⟩
    bsz := by
      show X.base.objs.size ≤ h3.objs.size
      rw [hC, ← hacc]
      exact Nat.le_succ_of_le (Nat.le_trans I2.ok.bsz I2.sz)
    noex := fun b o e hb => by
      rcases (exok b hb).2.2.2.1 with z | z
      · exact I2.ok.noex b o e z
      · exact absurd (Nat.lt_of_lt_of_le (Heap.lt_size e) (Nat.le_trans I2.ok.bsz z)) (Nat.lt_irrefl _)
    exfs := stk_no
    funs := I3.stack
    frf := I3.stkFree }
  have lenN : (none :: caps.map (pick σ) : L2.St).length = (x :: cns).length := by rw [List.length_cons, List.length_cons, List.length_map, hcap.len]
  have I4 : Inv Y [] (none :: caps.map (pick σ)) H2 { s2 with heap := h₁, toks := s2.toks + ([] : List (Str × Value)).length } := {
    ok := okY
    os := rfl
    bare := I2.bare
    base := Un.kept k34
    loc := by
      refine ⟨_, hns₁, fun i y v e1 e2 e3 => ?_⟩
      cases i with
      | zero => simp at e2
      | succ i =>
        obtain ⟨j, j1, j2, j3⟩ := hcap.get (σ := σ) (i := i) (x := y) (v := v) (by have e1' : (x :: cns)[i + 1]? = some y := e1; simpa using e1') (by simpa using e2)
        obtain ⟨m, hn, hl⟩ := I2.loc
        obtain ⟨u, r, l⟩ := hl j y v j1 j3 (.inr (.inl j2))
        rcases l with ⟨l, _⟩ | ⟨_, c, l1, l2⟩
        · rw [j2] at l; cases l
        · refine ⟨u, r, .inr ?_⟩
          rcases e3 with e3 | e3 | e3
          · exfalso
            have hm : y ∈ cns := List.mem_of_getElem? (show cns[i]? = some y by have e1' : (x :: cns)[i + 1]? = some y := e1; simpa using e1')
            have hl : scope.names.lookup y = some .free := beq_iff_eq.mp (List.all_eq_true.mp hcf y hm)
            have e0 : (scope.names.lookup y).map (relK X.env y) = some .local := lookup_relabel.symm.trans e3
            rw [hl] at e0
            have e5 : relK X.env y .free = .local := Option.some.inj e0
            unfold relK at e5
            split at e5 <;> cases e5
          · obtain ⟨c', hc'⟩ := kindY y _ e3 (.inl rfl)
            have := cellsOf _ _ hc'
            rw [l1] at this; cases this
            exact ⟨.inl e3, c, hc', l2.keeps fun b o e => k34 _ _ (k23 _ _ e)⟩
          · obtain ⟨c', hc'⟩ := kindY y _ e3 (.inr rfl)
            have := cellsOf _ _ hc'
            rw [l1] at this; cases this
            exact ⟨.inr e3, c, hc', l2.keeps fun b o e => k34 _ _ (k23 _ _ e)⟩
    cell := fun y c e => by
      obtain ⟨v, z⟩ := I2.cell y c (cellsOf _ _ e)
      exact ⟨v, z.keeps fun b o e => k34 _ _ (k23 _ _ e)⟩
    free := I2.hok.fresh (by rw [hacc]; show acc ≤ h3.objs.size; rw [hC]; exact Nat.le_succ _)
    freeC := fun y c e => I2.freeC y c (cellsOf _ _ e)
    pin := fun p hp => by
      have hp2 : p ∈ (X.pn ++ pins) ++ [] := hp
      have hp' : p ∈ X.pn ++ pins := by rw [List.append_nil] at hp2; exact hp2
      obtain ⟨p1, p2, p3, p4, p5⟩ := I2.pin p hp'
      refine ⟨k34 _ _ (k23 _ _ p1), p2, ?_, fun hm => (List.mem_cons.mp (I2.stkSub _ hm)).elim p3 p4, p5⟩
      exact Nat.ne_of_lt (by show p.1 < h3.objs.size; exact Heap.lt_size (k23 _ _ p1))
    hok := I2.hok.kept fun b u e => k34 _ _ (k23 _ _ e)
    len := lenN }
  have fpY : ∀ {H' : Hp} {pl : List (Addr × Obj)} {b : Addr}, b ∈ acc :: fp → H' b = none → (∀ p ∈ pl, p.1 ≠ b) → FpOk Y pl H' b := fun {H' pl b} hb hn hp =>
    ⟨hn, exC b hb, stk_no b hb, .inl hb, fun y c e => (exok b hb).2.2.2.2.1 y c (cellsOf _ _ e), fun p hm => (List.mem_append.mp hm).elim (fun z => (exok b hb).2.2.2.2.2 p z) (hp p)⟩
  have fin : ∀ {σ' : L2.St} {H' : Hp} {s' : Shared} {ys : List V} {its : List Value} {kk : Nat} {pl : List (Addr × Obj)}, Inv Y pl σ' H' s' → H' acc = none → Vals ys its → ys.length ≤ sizeLine →
      s'.heap.get? acc = some { cls := .type "list", data := .seq its.toArray kk } → (∀ p, H' p = none → Q (.ref p) (upd H' p (.lst ys))) →
      ∀ h', Heap.SameBut h3.objs.size s'.heap h' → EP X pins σ (fun v Hf => Q v Hf ∧ Hf h3.objs.size = none) (.ref acc) { s' with heap := h' } := fun {σ' H' s' ys its kk pl} J ha hv hz ho hq h' hs' => by
    have hacC : acc ≠ h3.objs.size := exC acc (List.mem_cons_self)
    have keepC : ∀ b o, b ≠ h3.objs.size → s'.heap.get? b = some o → h'.get? b = some o := fun b o hb e => hs'.extBut b o hb e
    have ltC : ∀ b o, s2.heap.get? b = some o → b ≠ h3.objs.size := fun b o e => Nat.ne_of_lt (Heap.lt_size (k23 b o e))
    have hCfree : H' h3.objs.size = none := J.free
    have un : Un (frs X.stack) (acc :: fp) H2 H' s2.heap h' := {
      keep := fun b o e n hb hx => keepC b o (ltC b o e) (J.base.keep b o (k23 b o e) n hb hx)
      slot := fun b o e n hb hx => by
        obtain ⟨sl, q⟩ := J.base.slot b o (k23 b o e) n hb hx
        exact ⟨sl, keepC b _ (ltC b o e) q⟩
      free := fun b o e n hx => J.base.free b o (k23 b o e) n hx
      there := fun b o e hx => by
        obtain ⟨o', q⟩ := J.base.there b o (k23 b o e) hx
        exact ⟨o', keepC b o' (ltC b o e) q⟩
      tups := J.base.tups
      frzs := J.base.frzs
      tbls := J.base.tbls }
    have hok : HOk X.prog X.w H' h' := fun b u e => by
      refine (J.hok b u e).stay (fun c v hc q => keepC c v ?_ q) (fun _ q => q) fun _ _ q => q
      rintro rfl
      rcases hc with rfl | hc
      · rw [hCfree] at e; cases e
      · rw [hCfree] at hc; cases hc
    have I5 : Inv X pins σ H' { s' with heap := h' } := I2.call' (ch := acc :: fp) J.os un hok J.bare fun b hb => by
      obtain ⟨g0, g1, g2, g3, g4, g5⟩ := exok b hb
      exact ⟨g3, g1, g4, g5⟩
    refine ⟨.ref acc, _, adopt (acc := acc) I5 ?_ (keepC _ _ hacC ho) hv hz, rfl, hq acc ha, by rw [upd_ne hacC.symm]; exact hCfree⟩
    obtain ⟨g0, g1, g2, g3, g4, g5⟩ := facc
    exact ⟨ha, g1, g2, g3, g4, g5⟩
  have loop : codeAny (model X.prog X.w) X.A (.compLoop (.ListComp elt [⟨.Name x px, iter, ifs, 0⟩] scope pos) 0 (.ref it) (.ref acc) Y.env) (compPost (model X.prog X.w) X.A X.xe (some fun v => assignAll v ((assignEach [.Name z pz] X.env).map (·.2))) (fun _ s' => SP X pins D .next s') (.ref acc) h3.objs.size)
      { s2 with heap := h₁, toks := s2.toks + ([] : List (Str × Value)).length } := by
    refine compLoop_go (fun n s' => ∃ (i : Nat) (v : Option V) (ys : List V) (its : List Value) (kk : Nat) (H' : Hp), Inv Y [] (v :: caps.map (pick σ)) H' s' ∧ tn i s'.heap ∧ (∀ b ∈ fp, H' b = none) ∧ H' acc = none ∧ Vals ys its ∧ ys.length ≤ sizeLine ∧
      s'.heap.get? acc = some { cls := .type "list", data := .seq its.toArray kk } ∧ W i n ys H') ?_ m0 ⟨0, none, [], [], 0, H2, I4, T.keep _ _ _ st2 (fun b _ o e => k34 _ _ (k23 _ _ e)), fun b hb => (f2 b hb).1, facc.1, .nil, Nat.zero_le _, k34 _ _ oacc, w0⟩
    rintro n s5 ⟨i, v, ys, its, kk, H5, I5, st5, fr5, ha5, hv5, hz5, ho5, w5⟩
    have pinA : Inv Y [(acc, { cls := .type "list", data := .seq its.toArray kk })] (v :: caps.map (pick σ)) H5 s5 := I5.pins_of fun p hp => by
      have e : p = (acc, { cls := .type "list", data := .seq its.toArray kk }) := by simpa using hp
      subst e
      exact ⟨ho5, ha5, exC acc List.mem_cons_self, stk_no acc List.mem_cons_self, fun v => by intro z; cases z⟩
    have fpA : ∀ {H' : Hp}, (∀ b ∈ fp, H' b = none) → ∀ b ∈ fp, FpOk Y [(acc, { cls := .type "list", data := .seq its.toArray kk })] H' b := fun hn b hb => fpY (List.mem_cons_of_mem _ hb) (hn b hb) fun p hp => by
      have e : p = (acc, { cls := .type "list", data := .seq its.toArray kk }) := by simpa using hp
      subst e
      exact (Nat.ne_of_lt (fpl b hb)).symm
    rcases turn i n ys H5 w5 with ⟨stop, qn⟩ | ⟨go, hlt, step⟩
    · refine thn (T.done Y rfl rfl rfl hc i _ s5 _ H5 (fun _ _ => False) pinA (fpA fr5) st5 stop) fun r s6 ⟨hr, I6⟩ => ?_
      subst hr
      obtain ⟨m, hm, _⟩ := I6.loc
      have ho6 := (I6.pin (acc, { cls := .type "list", data := .seq its.toArray kk }) (List.mem_append_right _ List.mem_cons_self)).1
      obtain ⟨v, Hf, If, rf, qf, hfC⟩ := fin I6 ha5 hv5 hz5 ho6 qn s6.heap (Heap.SameBut.refl _ _)
      have fC : FpOk X pins Hf h3.objs.size := I2.fpOk (by rw [hC, hacc]; exact Nat.le_succ _) hfC
      obtain ⟨oC, esC, epC, gC, dC, kC, nC⟩ := hm
      have Ip : Inv X (pins ++ [(h3.objs.size, oC)]) σ Hf s6 := Inv.pins_of If fun p hp => by
        rcases List.mem_append.mp hp with hp | hp
        · exact If.pin p (List.mem_append_right _ hp)
        · rw [List.mem_singleton.mp hp]
          exact ⟨gC, fC.1, fC.2.1, fC.2.2.1, fun v z => by rw [dC] at z; cases z⟩
      show wpAny _ _ (assign (.Name z pz) X.env (.ref acc)) _ _ _
      refine wpAny_assign_Name (store_ok Ip hN hiz hz rf (fun s7 I7 => ?_) hfz)
      have g7 := (I7.pin (h3.objs.size, oC) (List.mem_append_right _ (List.mem_append_right _ List.mem_cons_self))).1
      refine ⟨m, ⟨oC, esC, epC, g7, dC, kC, nC⟩, fun h' hs' => ?_⟩
      have I8 := I7.unpinned
      have qf : D.nx (σ.set iz (some v)) Hf := by rw [← hQ] at qf; exact qf
      have kb : ∀ b o, b ≠ h3.objs.size → s7.heap.get? b = some o → h'.get? b = some o := fun b o hb e => hs'.extBut b o hb e
      refine ⟨_, Hf, I8.step (ch := [h3.objs.size]) (fun b hb => ?_) (fun b o _ _ hb e _ => kb b o (fun z => hb (by rw [z]; exact List.mem_cons_self)) e) (fun b o _ _ hb e _ => ⟨o.slots, kb b o (fun z => hb (by rw [z]; exact List.mem_cons_self)) e⟩) (fun _ _ _ _ h => h) (fun b o hb e => ⟨o, kb b o (fun z => hb (by rw [z]; exact List.mem_cons_self)) e⟩) (fun _ _ h => h) (fun _ _ _ h => h) (fun _ ps h => ⟨#[], by simpa using h⟩) (fun m' hm' => ?_) (fun b u e => ?_) I8.bare, qf⟩
      · rw [List.mem_singleton.mp hb]
        exact ⟨fC.2.2.2.1, fC.2.1, fC.2.2.2.2.1, fC.2.2.2.2.2⟩
      · obtain ⟨o', e1, e2, e3, e4, e5⟩ := hm'
        exact ⟨o', e1, e2, kb _ _ fC.2.1.symm e3, e4, e5⟩
      · refine (I8.hok b u e).stay (fun c w' hc q => kb c w' ?_ q) (fun _ q => q) fun _ _ q => q
        rintro rfl
        rcases hc with rfl | hc
        · rw [hfC] at e; cases e
        · rw [hfC] at hc; cases hc
    · refine thn (T.item Y rfl rfl rfl hc i _ s5 _ H5 (fun _ _ => False) pinA (fpA fr5) st5 go) fun r s6 ⟨u, hr, h6⟩ => ?_
      subst hr
      refine thn h6 fun _ s7 ⟨z, H7, I7, r7, y7, st7, fr7⟩ => ?_
      have I7' := I7.pinned (fpA fr7) (T.obj _ _ st7)
      have pg : PG Y (.Name x px) (gName 0) := pg_name hnd rfl (.inl (lookup_relabel_local hx)) (.inr (lookup_relabel_local hx))
      refine thn (pg _ s7 _ H7 z u (fun σ2 H2' => σ2 = some z :: caps.map (pick σ) ∧ H2' = H7) I7' r7 ⟨rfl, rfl⟩) fun _ s8 ⟨σ8, H8, I8, e8, e8'⟩ => ?_
      subst e8 e8'
      refine thn (hf _ _ _ _ _ _ s8 _ H8 _ I8 (step z H8 y7)) fun ok s9 ⟨H9, I9, q9⟩ => ?_
      have stat : ∀ {H' : Hp} {s' : Shared} {σ' : L2.St}, Inv Y ([(acc, { cls := .type "list", data := .seq its.toArray kk })] ++ pinsAt fp s7.heap) σ' H' s' → tn (i + 1) s'.heap ∧ (∀ b ∈ fp, H' b = none) ∧ H' acc = none ∧ s'.heap.get? acc = some { cls := .type "list", data := .seq its.toArray kk } := fun {H' s' σ'} J => by
        have pa := J.pin (acc, { cls := .type "list", data := .seq its.toArray kk }) (List.mem_append_right _ (List.mem_append_left _ List.mem_cons_self))
        refine ⟨T.keep _ _ _ st7 fun b hb o e => (J.pin (b, o) (List.mem_append_right _ (List.mem_append_right _ (mem_pinsAt hb e)))).1, fun b hb => ?_, pa.2.1, pa.1⟩
        obtain ⟨o, e, d⟩ := T.obj _ _ st7 b hb
        exact (J.pin (b, o) (List.mem_append_right _ (List.mem_append_right _ (mem_pinsAt hb e)))).2.1
      have nopin : ∀ {H' : Hp} {s' : Shared} {σ' : L2.St} {pl : List (Addr × Obj)}, Inv Y pl σ' H' s' → Inv Y [] σ' H' s' := fun J => J.pins_of fun p hp => nomatch hp
      cases ok with
      | false =>
        obtain ⟨m', hm, w9⟩ := q9
        obtain ⟨t1, t2, t3, t4⟩ := stat I9
        exact ⟨m', hm, i + 1, some z, ys, its, kk, H9, nopin I9, t1, t2, t3, hv5, hz5, t4, w9⟩
      | true =>
        show wpAny _ _ (eval elt Y.env) _ _ s9
        refine thn (he _ _ _ _ _ _ s9 _ H9 _ I9 q9) fun y s10 ⟨yv, H10, I10, r10, m', hm, w10⟩ => ?_
        obtain ⟨t1, t2, t3, t4⟩ := stat I10
        have I10' : Inv Y (pinsAt fp s7.heap) (some z :: caps.map (pick σ)) H10 s10 := I10.pins_of fun p hp => I10.pin p (List.mem_append_right _ (List.mem_append_right _ hp))
        have fA : FpOk Y (pinsAt fp s7.heap) H10 acc := fpY List.mem_cons_self t3 fun p hp => Nat.ne_of_lt (fpl _ (of_pinsAt hp).1)
        have Ja := adopt I10' fA t4 hv5 hz5
        refine thn (mt_append (X := Y) _ s10 _ _ (.ref acc) [yv] (.ref acc) [y] (fun _ H' => H' = upd (upd H10 acc (.lst ys)) acc (.lst (ys ++ [yv]))) Ja rfl (.cons r10 .nil) ⟨acc, ys, yv, rfl, rfl, upd_same, hlt, rfl⟩) fun _ s11 ⟨_, H11, I11, _, e11⟩ => ?_
        rw [upd_upd] at e11
        subst e11
        obtain ⟨hz11, its', kk', hv11, ho11⟩ := I11.hok acc _ upd_same
        have Jd := disown I11 fA
        have st11 : tn (i + 1) s11.heap := T.keep _ _ _ st7 fun b hb o e => (Jd.pin (b, o) (List.mem_append_right _ (mem_pinsAt hb e))).1
        exact ⟨m', hm, i + 1, some z, ys ++ [yv], its', kk', H10, nopin Jd, st11, t2, t3, hv11, hz11, ho11, w10⟩
  exact codeAny_compStart_list loop (T.self X.A 0 _ _ _ (T.keep _ _ _ st2 (fun b _ o e => k34 _ _ (k23 _ _ e))) loop)
end G
namespace G
open PySem L2 PySem.Spec PyProof.Rows
def BitsOk (ns : List Int) : Prop := ∀ i ∈ ns, Builtin.Int.intBits i ≤ 2 ^ 20
theorem bits_int {i : Int} (h : (PySem.W.WData.int i).layable = true) : Builtin.Int.intBits i ≤ 2 ^ 20 := by
  unfold PySem.W.WData.layable at h
  simp only [Bool.and_eq_true, decide_eq_true_eq] at h
  have := h.2
  simp [PySem.W.WData.weight] at this
  unfold Builtin.Int.intBits
  simpa using this
theorem walk_ofB {l : PySem.W.OpenLaw} {n k : Nat} {q : Program} {loose : List Str} {XP : (Str → Option Value) → Heap → Prop} {YP : World → Heap → Prop} {d : DefRec} {K : Params → PySem.W.Frag} {CX : World → CXT} {sp : World → Sp} {x : Str}
    (hn : l.most = some n) (hn2 : n ≤ sizeLine) (hdf : d.params.defaults = []) (hr : Room k callerA)
    (hY : ∀ (w : World) (h : Heap), YP w h → (K w.params).In h)
    (F : ∀ (w : World) (mg : Str → Option Value) (fa : Addr) (h : Heap), (K w.params).In h → h.Ns mainGlobals mg → mg d.name = some (.ref fa) →
      ∃ fd : FuncData, (∀ (s : Shared) (u : Value), BindsTo s fd ⟨[u], []⟩ [(x, u)]) ∧
        ∀ base : Heap, (K w.params).In base → base.Ns mainGlobals mg → FnOk l.prog w (K w.params) mg base (CX w) k fa fd [x] (sp w))
    (hsp : ∀ (w : World) (H : Hp) (a : Addr) (ns : List Int), ns.length ≤ n → Only H → SqL (K w.params) H a (ns.map V.int) → BitsOk ns → sp w [.ref a] H (fun v _ => v = .bl true) fun _ _ _ => False)
    (hCX : ∀ (w : World) (H : Hp) (s : Shared) (e : Value) (s' : Shared), CX w [] H s (fun _ _ _ => False) e s' → False) :
    PySem.W.WalkO q loose XP YP l.row.toRowW d [] (fun f vs => PySem.call f vs) := by
  intro w s₀ s₁ mg mb G Y fa o pm cd doc dV kV ho hd hcd hD hmg hg args vals as hpre hlay hrd hwl hlo
  obtain rfl : dV = .none := PySem.W.Dflts.none hD hdf
  obtain rfl : kV = .none := PySem.W.Dflts.noKw hD
  obtain ⟨a, vs, ns, rfl, rfl, hobj, hints, hlen⟩ := Att.script_of hn hpre hwl
  have hb : BitsOk ns := fun i hi => by
    unfold PySem.W.WData.layableAll at hlay
    rw [List.all_cons, Bool.and_eq_true] at hlay
    exact bits_int (PySem.W.layableW_item hlay.1 _ (List.mem_map.mpr ⟨i, hi, rfl⟩))
  have KX := hY w _ Y
  obtain ⟨fd, hbd, hF⟩ := F w mg fa _ KX G.T.g hmg
  refine PySem.W.enter_call (codeAny_mono (law_call KX G.T.g G.T.b G.T.builtins G.T.nolimit hg hobj hints (Nat.le_trans hlen hn2) hr hF hbd (fun H hO hS => hsp w H a ns hlen hO hS hb) fun H e s' => hCX w H s₁ e s') fun r s' hq => ?_)
  obtain ⟨rfl, h2, h3, h4⟩ := hq
  exact ⟨.inl ⟨.bool true, .bool true, [], rfl, fun _ => rfl, .bool true, Att.post_true l _, fun _ => ⟨List.Pairwise.nil, fun _ hm => (nomatch hm)⟩⟩, h2, h3, h4⟩
theorem op_mulW {X : Cx} : OpR X (binaryOp .Mult) (rI IntMulOk fun i j => .int (i * j)) := opI fun _ _ _ _ _ _ _ hc q => mul_int q hc
theorem mulW {c : Int} (k : Int) (h : Builtin.Int.intBits c ≤ 2 ^ 20) (hk : Builtin.Int.intBits k ≤ 2 ^ 20) : IntMulOk c k := IntMulOk.of_bits h hk
end G
namespace G
open PySem L2 PySem.Spec PyProof.Rows
section
variable {X : Cx} {x y : Str} {C D' : Addr} {np nq pos hpos kpos : Pos} {body suite suite' : List Stmt} {b₀ b₁ : Stmt} {M1 M2 : Value → Prop} {tb : (L2.St → XK) → TS} {t1 t2 : TS}
end
end G
namespace G
open PySem L2 PySem.Spec PyProof.Rows
end G
namespace G
open PySem L2 PySem.Spec PyProof.Rows
def rEqD0 (neg : Bool) : R2 := fun x y H Q => ∃ (a b : Addr) (kvs : List (Key × V)), x = .ref a ∧ y = .ref b ∧ Rd H a (.dK kvs) ∧ Rd H b (.dK []) ∧ Q (.bl (if neg then !(kvs.length == 0) else kvs.length == 0)) H
theorem i_eqD0 {neg : Bool} {H : Hp} {Q : VK} {a b : Addr} {kvs : List (Key × V)} (h1 : H a = some (.dK kvs)) (h2 : H b = some (.dK [])) (h : Q (.bl (if neg then !(kvs.length == 0) else kvs.length == 0)) H) : rEqD0 neg (.ref a) (.ref b) H Q := ⟨a, b, kvs, rfl, rfl, .inl h1, .inl h2, h⟩
section
variable {X : Cx}
theorem hits0 {P : Program} {w : World} {A : Around} {s : Shared} {ka kb : List (Key × Value)} (h : kb = []) : ka.length = kb.length → PySem.W.KeqHits A s kb ka true := fun e => by
  subst h
  have : ka = [] := by simpa using e
  subst this
  exact .nil
theorem op_neD0 (hu : X.A.units + 1 < cLine) : OpR X (compareOp .NotEq) (rEqD0 true) := by
  intro pins s σ H x y v u Q I rx ry h
  obtain ⟨p, q', kvs, rfl, rfl, hx, hy, q⟩ := h
  cases rx
  cases ry
  obtain ⟨_, h1, vs, r1, d1⟩ := dk_rd I.hok hx
  obtain ⟨_, h2, ws, r2, d2⟩ := dk_rd I.hok hy
  have e2 : ws = [] := by cases r2; rfl
  have l1 := r1.length
  refine PySem.W.keq_ne (r := true) h1 h2 d1 d2 (by omega) (hits0 (P := X.prog) (w := X.w) e2) ?_
  refine ⟨.bl (!(kvs.length == 0)), H, I, ?_, q⟩
  show Value.bool _ = Value.bool _
  rw [e2, Bool.and_true, l1]; rfl
end
end G
local macro_rules | `(tactic| walk_at "g2") => `(tactic| with_reducible first | refine G.i_next ?_ | refine G.i_drop ?_ | refine G.i_ret ?_ | refine G.i_if ?_ | refine G.i_asg ?_ | refine G.i_C ?_ | refine G.i_op ?_ | refine G.i_B ?_ | refine G.i_test ?_ | refine G.i_tB ?_ | refine G.i_and ?_ | refine G.i_or ?_ | refine G.i_not ?_ | refine G.i_andV ?_ | refine G.i_notV ?_ | refine G.i_ifx ?_ | refine G.i_I0 ?_ | refine G.i_eqI ?_ | refine G.i_eqS ?_ | refine G.i_neI ?_ | refine G.i_isN0 ?_ | refine G.i_isN1 ?_ | refine G.i_isN2 ?_ | refine G.i_isN3 ?_ | refine G.i_isN4 ?_ | refine G.i_notN0 ?_ | refine G.i_notN1 ?_ | refine G.i_notN3 ?_ | refine G.i_iteT ?_ | refine G.i_iteF ?_ | refine G.i_iteNT ?_ | refine G.i_iteNF ?_ | refine G.i_nil ?_ | refine G.i_cons ?_ | refine G.i_lst ?_ | refine G.i_tup ?_ | refine G.i_call ?_ | refine G.i_CB ?_ | refine G.i_make ?_ | refine G.i_fld ?_ | refine G.i_sfld ?_ | refine G.i_meth ?_ | refine G.i_noPart ?_ | refine G.i_part ?_ | refine G.i_kI ?_ | refine G.i_sl ?_ | refine G.i_bm ?_ | refine G.i_for ?_ | refine G.i_iL ?_ | refine G.i_iR ?_ | refine G.i_v0 ?_ | refine G.i_v1 ?_ | refine G.i_v2 ?_ | refine G.i_v3 ?_ | refine G.i_v4 ?_ | refine G.i_v5 ?_ | refine G.i_v6 ?_ | refine G.i_v7 ?_ | refine G.i_v8 ?_ | refine G.i_v9 ?_ | refine G.i_v10 ?_ | refine G.i_v11 ?_ | refine G.i_v12 ?_ | refine G.i_v13 ?_ | refine G.i_v14 ?_ | refine G.i_v15 ?_ | refine G.i_v16 ?_ | refine G.i_v17 ?_ | refine G.i_g1 ?_ | refine G.i_g2 ?_ | refine G.i_g3 ?_ | refine G.i_g4 ?_ | refine G.i_g5 ?_ | refine G.i_g6 ?_ | refine G.i_g7 ?_ | refine G.i_g8 ?_ | refine G.i_g9 ?_ | refine G.i_g10 ?_ | refine G.i_g11 ?_ | refine G.i_g12 ?_ | refine G.i_g13 ?_ | refine G.i_g14 ?_ | refine G.i_g15 ?_ | refine G.i_g16 ?_ | refine G.i_g17 ?_ | refine G.i_true ?_ | refine G.i_raise ?_ | refine G.i_methX ?_ | refine G.i_try ?_ | refine G.i_gsub ?_ | refine G.i_isB ?_ | refine G.i_make0 ?_ | refine G.i_lcg2 ?_ | refine G.i_isiI_int ?_ | refine G.i_isiI_bool ?_ | refine G.i_isiS_int ?_ | refine G.i_isiS_str ?_)
local macro_rules | `(tactic| walk_at "g1") => `(tactic| first | (with_reducible refine G.i_seq ?_) | walk_at "g2")
local macro_rules | `(tactic| walk_at "ne") => `(tactic| first | assumption | (exact Ne.symm (by assumption)) | exact L2.ne_of_none (by assumption) (by assumption) | exact Ne.symm (L2.ne_of_none (by assumption) (by assumption)) | exact Nat.ne_of_lt (by assumption))
local macro_rules | `(tactic| walk_at "hp") => `(tactic| first | assumption | exact L2.upd_same | (refine Eq.trans (L2.upd_ne ?hne) ?_; (case hne => walk_at "ne"); walk_at "hp"))
local macro_rules | `(tactic| walk_at "side") => `(tactic| first | omega | decide | (show (_ : Int) < _; decide) | exact ⟨by decide, by decide⟩ | exact ⟨by decide, by decide, by decide⟩ | (unfold L2.CMul; omega) | exact .inl (by unfold L2.CMul; omega))
local macro_rules | `(tactic| walk_at "ev") => `(tactic| repeat (first | walk_at "g1" | ((with_reducible refine G.i_I ?hc ?_); (case hc => walk_at "side"))))
local macro_rules | `(tactic| walk_at "es") => `(tactic| repeat (first | walk_at "g2" | ((with_reducible refine G.i_I ?hc ?_); (case hc => walk_at "side"))))
local macro_rules | `(tactic| walk_at "caps") => `(tactic| simp only [List.map_cons, List.map_nil, G.pick, List.getElem?_cons_zero, List.getElem?_cons_succ])
namespace K13
open PySem L2 G
def cellF (birth : Int) (bulk : Int) (tone : Int) (load : Int) (fa : Addr) : List (Str × V) := [("birth", .int birth), ("bulk", .int bulk), ("tone", .int tone), ("load", .int load), ("fields", .ref fa)]
theorem cellF_s_bulk_birth : (("bulk" : Str) == ("birth" : Str)) = false := by decide +kernel
theorem cellF_s_tone_birth : (("tone" : Str) == ("birth" : Str)) = false := by decide +kernel
theorem cellF_s_tone_bulk : (("tone" : Str) == ("bulk" : Str)) = false := by decide +kernel
theorem cellF_s_load_birth : (("load" : Str) == ("birth" : Str)) = false := by decide +kernel
theorem cellF_s_load_bulk : (("load" : Str) == ("bulk" : Str)) = false := by decide +kernel
theorem cellF_s_load_tone : (("load" : Str) == ("tone" : Str)) = false := by decide +kernel
theorem cellF_s_fields_birth : (("fields" : Str) == ("birth" : Str)) = false := by decide +kernel
theorem cellF_s_fields_bulk : (("fields" : Str) == ("bulk" : Str)) = false := by decide +kernel
theorem cellF_s_fields_tone : (("fields" : Str) == ("tone" : Str)) = false := by decide +kernel
theorem cellF_s_fields_load : (("fields" : Str) == ("load" : Str)) = false := by decide +kernel
theorem cellF_lk_birth {birth : Int} {bulk : Int} {tone : Int} {load : Int} {fa : Addr} : List.lookup ("birth" : Str) (cellF birth bulk tone load fa) = some (.int birth : V) := by
  unfold cellF
  simp only [List.lookup, beq_self_eq_true]
theorem cellF_lk_bulk {birth : Int} {bulk : Int} {tone : Int} {load : Int} {fa : Addr} : List.lookup ("bulk" : Str) (cellF birth bulk tone load fa) = some (.int bulk : V) := by
  unfold cellF
  simp only [List.lookup, beq_self_eq_true, cellF_s_bulk_birth]
theorem cellF_lk_tone {birth : Int} {bulk : Int} {tone : Int} {load : Int} {fa : Addr} : List.lookup ("tone" : Str) (cellF birth bulk tone load fa) = some (.int tone : V) := by
  unfold cellF
  simp only [List.lookup, beq_self_eq_true, cellF_s_tone_birth, cellF_s_tone_bulk]
theorem cellF_lk_load {birth : Int} {bulk : Int} {tone : Int} {load : Int} {fa : Addr} : List.lookup ("load" : Str) (cellF birth bulk tone load fa) = some (.int load : V) := by
  unfold cellF
  simp only [List.lookup, beq_self_eq_true, cellF_s_load_birth, cellF_s_load_bulk, cellF_s_load_tone]
theorem cellF_lk_fields {birth : Int} {bulk : Int} {tone : Int} {load : Int} {fa : Addr} : List.lookup ("fields" : Str) (cellF birth bulk tone load fa) = some (.ref fa : V) := by
  unfold cellF
  simp only [List.lookup, beq_self_eq_true, cellF_s_fields_birth, cellF_s_fields_bulk, cellF_s_fields_tone, cellF_s_fields_load]
theorem cellF_ne {a b : Str} (h : (a == b) = false) : ¬ b = a := fun e => by rw [e, beq_self_eq_true] at h; cases h
theorem cellF_mk {birth : Int} {bulk : Int} {tone : Int} {load : Int} {fa : Addr} : (putF "fields" (.ref fa) (putF "load" (.int load) (putF "tone" (.int tone) (putF "bulk" (.int bulk) (putF "birth" (.int birth) []))))) = cellF birth bulk tone load fa := by
  unfold cellF
  simp only [putF, if_neg (cellF_ne cellF_s_bulk_birth), if_neg (cellF_ne cellF_s_tone_birth), if_neg (cellF_ne cellF_s_tone_bulk), if_neg (cellF_ne cellF_s_load_birth), if_neg (cellF_ne cellF_s_load_bulk), if_neg (cellF_ne cellF_s_load_tone), if_neg (cellF_ne cellF_s_fields_birth), if_neg (cellF_ne cellF_s_fields_bulk), if_neg (cellF_ne cellF_s_fields_tone), if_neg (cellF_ne cellF_s_fields_load)]
theorem cellF_s_units_birth : (("units" : Str) == ("birth" : Str)) = false := by decide +kernel
theorem cellF_s_units_bulk : (("units" : Str) == ("bulk" : Str)) = false := by decide +kernel
theorem cellF_s_units_tone : (("units" : Str) == ("tone" : Str)) = false := by decide +kernel
theorem cellF_s_units_load : (("units" : Str) == ("load" : Str)) = false := by decide +kernel
theorem cellF_s_units_fields : (("units" : Str) == ("fields" : Str)) = false := by decide +kernel
theorem cellF_no_units {birth : Int} {bulk : Int} {tone : Int} {load : Int} {fa : Addr} : List.lookup ("units" : Str) (cellF birth bulk tone load fa) = none := by
  unfold cellF
  simp only [List.lookup, cellF_s_units_birth, cellF_s_units_bulk, cellF_s_units_tone, cellF_s_units_load, cellF_s_units_fields]
def heapF (room : Int) (ca : Addr) (used : Int) (born : Int) : List (Str × V) := [("room", .int room), ("cells", .ref ca), ("used", .int used), ("born", .int born)]
theorem heapF_s_cells_room : (("cells" : Str) == ("room" : Str)) = false := by decide +kernel
theorem heapF_s_used_room : (("used" : Str) == ("room" : Str)) = false := by decide +kernel
theorem heapF_s_used_cells : (("used" : Str) == ("cells" : Str)) = false := by decide +kernel
theorem heapF_s_born_room : (("born" : Str) == ("room" : Str)) = false := by decide +kernel
theorem heapF_s_born_cells : (("born" : Str) == ("cells" : Str)) = false := by decide +kernel
theorem heapF_s_born_used : (("born" : Str) == ("used" : Str)) = false := by decide +kernel
theorem heapF_lk_room {room : Int} {ca : Addr} {used : Int} {born : Int} : List.lookup ("room" : Str) (heapF room ca used born) = some (.int room : V) := by
  unfold heapF
  simp only [List.lookup, beq_self_eq_true]
theorem heapF_lk_cells {room : Int} {ca : Addr} {used : Int} {born : Int} : List.lookup ("cells" : Str) (heapF room ca used born) = some (.ref ca : V) := by
  unfold heapF
  simp only [List.lookup, beq_self_eq_true, heapF_s_cells_room]
theorem heapF_lk_used {room : Int} {ca : Addr} {used : Int} {born : Int} : List.lookup ("used" : Str) (heapF room ca used born) = some (.int used : V) := by
  unfold heapF
  simp only [List.lookup, beq_self_eq_true, heapF_s_used_room, heapF_s_used_cells]
theorem heapF_lk_born {room : Int} {ca : Addr} {used : Int} {born : Int} : List.lookup ("born" : Str) (heapF room ca used born) = some (.int born : V) := by
  unfold heapF
  simp only [List.lookup, beq_self_eq_true, heapF_s_born_room, heapF_s_born_cells, heapF_s_born_used]
theorem heapF_ne {a b : Str} (h : (a == b) = false) : ¬ b = a := fun e => by rw [e, beq_self_eq_true] at h; cases h
theorem heapF_put_used {room : Int} {ca : Addr} {used : Int} {born : Int} (y : Int) : putF "used" (.int y) (heapF room ca used born) = heapF room ca y born := by
  unfold heapF
  simp only [putF, if_true, if_neg (heapF_ne heapF_s_used_room), if_neg (heapF_ne heapF_s_used_cells)]
theorem heapF_put_born {room : Int} {ca : Addr} {used : Int} {born : Int} (y : Int) : putF "born" (.int y) (heapF room ca used born) = heapF room ca used y := by
  unfold heapF
  simp only [putF, if_true, if_neg (heapF_ne heapF_s_born_room), if_neg (heapF_ne heapF_s_born_cells), if_neg (heapF_ne heapF_s_born_used)]
theorem heapF_mk {room : Int} {ca : Addr} {used : Int} {born : Int} : (putF "born" (.int born) (putF "used" (.int used) (putF "cells" (.ref ca) (putF "room" (.int room) [])))) = heapF room ca used born := by
  unfold heapF
  simp only [putF, if_neg (heapF_ne heapF_s_cells_room), if_neg (heapF_ne heapF_s_used_room), if_neg (heapF_ne heapF_s_used_cells), if_neg (heapF_ne heapF_s_born_room), if_neg (heapF_ne heapF_s_born_cells), if_neg (heapF_ne heapF_s_born_used)]
theorem heapF_s_make_room : (("make" : Str) == ("room" : Str)) = false := by decide +kernel
theorem heapF_s_make_cells : (("make" : Str) == ("cells" : Str)) = false := by decide +kernel
theorem heapF_s_make_used : (("make" : Str) == ("used" : Str)) = false := by decide +kernel
theorem heapF_s_make_born : (("make" : Str) == ("born" : Str)) = false := by decide +kernel
theorem heapF_no_make {room : Int} {ca : Addr} {used : Int} {born : Int} : List.lookup ("make" : Str) (heapF room ca used born) = none := by
  unfold heapF
  simp only [List.lookup, heapF_s_make_room, heapF_s_make_cells, heapF_s_make_used, heapF_s_make_born]
theorem heapF_s_lay_room : (("lay" : Str) == ("room" : Str)) = false := by decide +kernel
theorem heapF_s_lay_cells : (("lay" : Str) == ("cells" : Str)) = false := by decide +kernel
theorem heapF_s_lay_used : (("lay" : Str) == ("used" : Str)) = false := by decide +kernel
theorem heapF_s_lay_born : (("lay" : Str) == ("born" : Str)) = false := by decide +kernel
theorem heapF_no_lay {room : Int} {ca : Addr} {used : Int} {born : Int} : List.lookup ("lay" : Str) (heapF room ca used born) = none := by
  unfold heapF
  simp only [List.lookup, heapF_s_lay_room, heapF_s_lay_cells, heapF_s_lay_used, heapF_s_lay_born]
theorem heapF_s_free_room : (("free" : Str) == ("room" : Str)) = false := by decide +kernel
theorem heapF_s_free_cells : (("free" : Str) == ("cells" : Str)) = false := by decide +kernel
theorem heapF_s_free_used : (("free" : Str) == ("used" : Str)) = false := by decide +kernel
theorem heapF_s_free_born : (("free" : Str) == ("born" : Str)) = false := by decide +kernel
theorem heapF_no_free {room : Int} {ca : Addr} {used : Int} {born : Int} : List.lookup ("free" : Str) (heapF room ca used born) = none := by
  unfold heapF
  simp only [List.lookup, heapF_s_free_room, heapF_s_free_cells, heapF_s_free_used, heapF_s_free_born]
theorem heapF_s_there_room : (("there" : Str) == ("room" : Str)) = false := by decide +kernel
theorem heapF_s_there_cells : (("there" : Str) == ("cells" : Str)) = false := by decide +kernel
theorem heapF_s_there_used : (("there" : Str) == ("used" : Str)) = false := by decide +kernel
theorem heapF_s_there_born : (("there" : Str) == ("born" : Str)) = false := by decide +kernel
theorem heapF_no_there {room : Int} {ca : Addr} {used : Int} {born : Int} : List.lookup ("there" : Str) (heapF room ca used born) = none := by
  unfold heapF
  simp only [List.lookup, heapF_s_there_room, heapF_s_there_cells, heapF_s_there_used, heapF_s_there_born]
def kindF (lk : Addr) (tl : Int) : List (Str × V) := [("looking", .ref lk), ("tells", .int tl)]
theorem kindF_s_tells_looking : (("tells" : Str) == ("looking" : Str)) = false := by decide +kernel
theorem kindF_lk_looking {lk : Addr} {tl : Int} : List.lookup ("looking" : Str) (kindF lk tl) = some (.ref lk : V) := by
  unfold kindF
  simp only [List.lookup, beq_self_eq_true]
theorem kindF_lk_tells {lk : Addr} {tl : Int} : List.lookup ("tells" : Str) (kindF lk tl) = some (.int tl : V) := by
  unfold kindF
  simp only [List.lookup, beq_self_eq_true, kindF_s_tells_looking]
theorem kindF_ne {a b : Str} (h : (a == b) = false) : ¬ b = a := fun e => by rw [e, beq_self_eq_true] at h; cases h
theorem kindF_mk {lk : Addr} {tl : Int} : (putF "tells" (.int tl) (putF "looking" (.ref lk) [])) = kindF lk tl := by
  unfold kindF
  simp only [putF, if_neg (kindF_ne kindF_s_tells_looking)]
theorem kindF_s_words_looking : (("words" : Str) == ("looking" : Str)) = false := by decide +kernel
theorem kindF_s_words_tells : (("words" : Str) == ("tells" : Str)) = false := by decide +kernel
theorem kindF_no_words {lk : Addr} {tl : Int} : List.lookup ("words" : Str) (kindF lk tl) = none := by
  unfold kindF
  simp only [List.lookup, kindF_s_words_looking, kindF_s_words_tells]
def handF (nm : Str) (sa : Addr) : List (Str × V) := [("name", .str nm), ("slots", .ref sa)]
theorem handF_s_slots_name : (("slots" : Str) == ("name" : Str)) = false := by decide +kernel
theorem handF_lk_name {nm : Str} {sa : Addr} : List.lookup ("name" : Str) (handF nm sa) = some (.str nm : V) := by
  unfold handF
  simp only [List.lookup, beq_self_eq_true]
theorem handF_lk_slots {nm : Str} {sa : Addr} : List.lookup ("slots" : Str) (handF nm sa) = some (.ref sa : V) := by
  unfold handF
  simp only [List.lookup, beq_self_eq_true, handF_s_slots_name]
theorem handF_ne {a b : Str} (h : (a == b) = false) : ¬ b = a := fun e => by rw [e, beq_self_eq_true] at h; cases h
theorem handF_mk {nm : Str} {sa : Addr} : (putF "slots" (.ref sa) (putF "name" (.str nm) [])) = handF nm sa := by
  unfold handF
  simp only [putF, if_neg (handF_ne handF_s_slots_name)]
def worldF (hp : Addr) (ki : Addr) (hl : Addr) (nm : Addr) (sw : Addr) : List (Str × V) := [("heap", .ref hp), ("kind", .ref ki), ("hands", .ref hl), ("names", .ref nm), ("sweeper", .ref sw)]
theorem worldF_s_kind_heap : (("kind" : Str) == ("heap" : Str)) = false := by decide +kernel
theorem worldF_s_hands_heap : (("hands" : Str) == ("heap" : Str)) = false := by decide +kernel
theorem worldF_s_hands_kind : (("hands" : Str) == ("kind" : Str)) = false := by decide +kernel
theorem worldF_s_names_heap : (("names" : Str) == ("heap" : Str)) = false := by decide +kernel
theorem worldF_s_names_kind : (("names" : Str) == ("kind" : Str)) = false := by decide +kernel
theorem worldF_s_names_hands : (("names" : Str) == ("hands" : Str)) = false := by decide +kernel
theorem worldF_s_sweeper_heap : (("sweeper" : Str) == ("heap" : Str)) = false := by decide +kernel
theorem worldF_s_sweeper_kind : (("sweeper" : Str) == ("kind" : Str)) = false := by decide +kernel
theorem worldF_s_sweeper_hands : (("sweeper" : Str) == ("hands" : Str)) = false := by decide +kernel
theorem worldF_s_sweeper_names : (("sweeper" : Str) == ("names" : Str)) = false := by decide +kernel
theorem worldF_lk_heap {hp : Addr} {ki : Addr} {hl : Addr} {nm : Addr} {sw : Addr} : List.lookup ("heap" : Str) (worldF hp ki hl nm sw) = some (.ref hp : V) := by
  unfold worldF
  simp only [List.lookup, beq_self_eq_true]
theorem worldF_lk_hands {hp : Addr} {ki : Addr} {hl : Addr} {nm : Addr} {sw : Addr} : List.lookup ("hands" : Str) (worldF hp ki hl nm sw) = some (.ref hl : V) := by
  unfold worldF
  simp only [List.lookup, beq_self_eq_true, worldF_s_hands_heap, worldF_s_hands_kind]
theorem worldF_lk_names {hp : Addr} {ki : Addr} {hl : Addr} {nm : Addr} {sw : Addr} : List.lookup ("names" : Str) (worldF hp ki hl nm sw) = some (.ref nm : V) := by
  unfold worldF
  simp only [List.lookup, beq_self_eq_true, worldF_s_names_heap, worldF_s_names_kind, worldF_s_names_hands]
theorem worldF_lk_sweeper {hp : Addr} {ki : Addr} {hl : Addr} {nm : Addr} {sw : Addr} : List.lookup ("sweeper" : Str) (worldF hp ki hl nm sw) = some (.ref sw : V) := by
  unfold worldF
  simp only [List.lookup, beq_self_eq_true, worldF_s_sweeper_heap, worldF_s_sweeper_kind, worldF_s_sweeper_hands, worldF_s_sweeper_names]
theorem worldF_ne {a b : Str} (h : (a == b) = false) : ¬ b = a := fun e => by rw [e, beq_self_eq_true] at h; cases h
theorem worldF_mk {hp : Addr} {ki : Addr} {hl : Addr} {nm : Addr} {sw : Addr} : (putF "sweeper" (.ref sw) (putF "names" (.ref nm) (putF "hands" (.ref hl) (putF "kind" (.ref ki) (putF "heap" (.ref hp) []))))) = worldF hp ki hl nm sw := by
  unfold worldF
  simp only [putF, if_neg (worldF_ne worldF_s_kind_heap), if_neg (worldF_ne worldF_s_hands_heap), if_neg (worldF_ne worldF_s_hands_kind), if_neg (worldF_ne worldF_s_names_heap), if_neg (worldF_ne worldF_s_names_kind), if_neg (worldF_ne worldF_s_names_hands), if_neg (worldF_ne worldF_s_sweeper_heap), if_neg (worldF_ne worldF_s_sweeper_kind), if_neg (worldF_ne worldF_s_sweeper_hands), if_neg (worldF_ne worldF_s_sweeper_names)]
def sweepF (se : Int) (ph : Str) (gr : Addr) (lo : Int) (tu : Int) (at_ : Int) (st : Int) (wa : Int) (ls : Int) (pa : Int) (lx : V) : List (Str × V) := [("sense", .int se), ("phase", .str ph), ("grey", .ref gr), ("looked", .int lo), ("turn", .int tu), ("at", .int at_), ("stop", .int st), ("walks", .int wa), ("looks", .int ls), ("passes", .int pa), ("loss", lx)]
theorem sweepF_s_phase_sense : (("phase" : Str) == ("sense" : Str)) = false := by decide +kernel
theorem sweepF_s_grey_sense : (("grey" : Str) == ("sense" : Str)) = false := by decide +kernel
theorem sweepF_s_grey_phase : (("grey" : Str) == ("phase" : Str)) = false := by decide +kernel
theorem sweepF_s_looked_sense : (("looked" : Str) == ("sense" : Str)) = false := by decide +kernel
theorem sweepF_s_looked_phase : (("looked" : Str) == ("phase" : Str)) = false := by decide +kernel
theorem sweepF_s_looked_grey : (("looked" : Str) == ("grey" : Str)) = false := by decide +kernel
theorem sweepF_s_turn_sense : (("turn" : Str) == ("sense" : Str)) = false := by decide +kernel
theorem sweepF_s_turn_phase : (("turn" : Str) == ("phase" : Str)) = false := by decide +kernel
theorem sweepF_s_turn_grey : (("turn" : Str) == ("grey" : Str)) = false := by decide +kernel
theorem sweepF_s_turn_looked : (("turn" : Str) == ("looked" : Str)) = false := by decide +kernel
theorem sweepF_s_at_sense : (("at" : Str) == ("sense" : Str)) = false := by decide +kernel
theorem sweepF_s_at_phase : (("at" : Str) == ("phase" : Str)) = false := by decide +kernel
theorem sweepF_s_at_grey : (("at" : Str) == ("grey" : Str)) = false := by decide +kernel
theorem sweepF_s_at_looked : (("at" : Str) == ("looked" : Str)) = false := by decide +kernel
theorem sweepF_s_at_turn : (("at" : Str) == ("turn" : Str)) = false := by decide +kernel
theorem sweepF_s_stop_sense : (("stop" : Str) == ("sense" : Str)) = false := by decide +kernel
theorem sweepF_s_stop_phase : (("stop" : Str) == ("phase" : Str)) = false := by decide +kernel
theorem sweepF_s_stop_grey : (("stop" : Str) == ("grey" : Str)) = false := by decide +kernel
theorem sweepF_s_stop_looked : (("stop" : Str) == ("looked" : Str)) = false := by decide +kernel
theorem sweepF_s_stop_turn : (("stop" : Str) == ("turn" : Str)) = false := by decide +kernel
theorem sweepF_s_stop_at : (("stop" : Str) == ("at" : Str)) = false := by decide +kernel
theorem sweepF_s_walks_sense : (("walks" : Str) == ("sense" : Str)) = false := by decide +kernel
theorem sweepF_s_walks_phase : (("walks" : Str) == ("phase" : Str)) = false := by decide +kernel
theorem sweepF_s_walks_grey : (("walks" : Str) == ("grey" : Str)) = false := by decide +kernel
theorem sweepF_s_walks_looked : (("walks" : Str) == ("looked" : Str)) = false := by decide +kernel
theorem sweepF_s_walks_turn : (("walks" : Str) == ("turn" : Str)) = false := by decide +kernel
theorem sweepF_s_walks_at : (("walks" : Str) == ("at" : Str)) = false := by decide +kernel
theorem sweepF_s_walks_stop : (("walks" : Str) == ("stop" : Str)) = false := by decide +kernel
theorem sweepF_s_looks_sense : (("looks" : Str) == ("sense" : Str)) = false := by decide +kernel
theorem sweepF_s_looks_phase : (("looks" : Str) == ("phase" : Str)) = false := by decide +kernel
theorem sweepF_s_looks_grey : (("looks" : Str) == ("grey" : Str)) = false := by decide +kernel
theorem sweepF_s_looks_looked : (("looks" : Str) == ("looked" : Str)) = false := by decide +kernel
theorem sweepF_s_looks_turn : (("looks" : Str) == ("turn" : Str)) = false := by decide +kernel
theorem sweepF_s_looks_at : (("looks" : Str) == ("at" : Str)) = false := by decide +kernel
theorem sweepF_s_looks_stop : (("looks" : Str) == ("stop" : Str)) = false := by decide +kernel
theorem sweepF_s_looks_walks : (("looks" : Str) == ("walks" : Str)) = false := by decide +kernel
theorem sweepF_s_passes_sense : (("passes" : Str) == ("sense" : Str)) = false := by decide +kernel
theorem sweepF_s_passes_phase : (("passes" : Str) == ("phase" : Str)) = false := by decide +kernel
theorem sweepF_s_passes_grey : (("passes" : Str) == ("grey" : Str)) = false := by decide +kernel
theorem sweepF_s_passes_looked : (("passes" : Str) == ("looked" : Str)) = false := by decide +kernel
theorem sweepF_s_passes_turn : (("passes" : Str) == ("turn" : Str)) = false := by decide +kernel
theorem sweepF_s_passes_at : (("passes" : Str) == ("at" : Str)) = false := by decide +kernel
theorem sweepF_s_passes_stop : (("passes" : Str) == ("stop" : Str)) = false := by decide +kernel
theorem sweepF_s_passes_walks : (("passes" : Str) == ("walks" : Str)) = false := by decide +kernel
theorem sweepF_s_passes_looks : (("passes" : Str) == ("looks" : Str)) = false := by decide +kernel
theorem sweepF_s_loss_sense : (("loss" : Str) == ("sense" : Str)) = false := by decide +kernel
theorem sweepF_s_loss_phase : (("loss" : Str) == ("phase" : Str)) = false := by decide +kernel
theorem sweepF_s_loss_grey : (("loss" : Str) == ("grey" : Str)) = false := by decide +kernel
theorem sweepF_s_loss_looked : (("loss" : Str) == ("looked" : Str)) = false := by decide +kernel
theorem sweepF_s_loss_turn : (("loss" : Str) == ("turn" : Str)) = false := by decide +kernel
theorem sweepF_s_loss_at : (("loss" : Str) == ("at" : Str)) = false := by decide +kernel
theorem sweepF_s_loss_stop : (("loss" : Str) == ("stop" : Str)) = false := by decide +kernel
theorem sweepF_s_loss_walks : (("loss" : Str) == ("walks" : Str)) = false := by decide +kernel
theorem sweepF_s_loss_looks : (("loss" : Str) == ("looks" : Str)) = false := by decide +kernel
theorem sweepF_s_loss_passes : (("loss" : Str) == ("passes" : Str)) = false := by decide +kernel
theorem sweepF_lk_sense {se : Int} {ph : Str} {gr : Addr} {lo : Int} {tu : Int} {at_ : Int} {st : Int} {wa : Int} {ls : Int} {pa : Int} {lx : V} : List.lookup ("sense" : Str) (sweepF se ph gr lo tu at_ st wa ls pa lx) = some (.int se : V) := by
  unfold sweepF
  simp only [List.lookup, beq_self_eq_true]
theorem sweepF_lk_phase {se : Int} {ph : Str} {gr : Addr} {lo : Int} {tu : Int} {at_ : Int} {st : Int} {wa : Int} {ls : Int} {pa : Int} {lx : V} : List.lookup ("phase" : Str) (sweepF se ph gr lo tu at_ st wa ls pa lx) = some (.str ph : V) := by
  unfold sweepF
  simp only [List.lookup, beq_self_eq_true, sweepF_s_phase_sense]
theorem sweepF_lk_grey {se : Int} {ph : Str} {gr : Addr} {lo : Int} {tu : Int} {at_ : Int} {st : Int} {wa : Int} {ls : Int} {pa : Int} {lx : V} : List.lookup ("grey" : Str) (sweepF se ph gr lo tu at_ st wa ls pa lx) = some (.ref gr : V) := by
  unfold sweepF
  simp only [List.lookup, beq_self_eq_true, sweepF_s_grey_sense, sweepF_s_grey_phase]
theorem sweepF_lk_looked {se : Int} {ph : Str} {gr : Addr} {lo : Int} {tu : Int} {at_ : Int} {st : Int} {wa : Int} {ls : Int} {pa : Int} {lx : V} : List.lookup ("looked" : Str) (sweepF se ph gr lo tu at_ st wa ls pa lx) = some (.int lo : V) := by
  unfold sweepF
  simp only [List.lookup, beq_self_eq_true, sweepF_s_looked_sense, sweepF_s_looked_phase, sweepF_s_looked_grey]
theorem sweepF_lk_turn {se : Int} {ph : Str} {gr : Addr} {lo : Int} {tu : Int} {at_ : Int} {st : Int} {wa : Int} {ls : Int} {pa : Int} {lx : V} : List.lookup ("turn" : Str) (sweepF se ph gr lo tu at_ st wa ls pa lx) = some (.int tu : V) := by
  unfold sweepF
  simp only [List.lookup, beq_self_eq_true, sweepF_s_turn_sense, sweepF_s_turn_phase, sweepF_s_turn_grey, sweepF_s_turn_looked]
theorem sweepF_lk_at {se : Int} {ph : Str} {gr : Addr} {lo : Int} {tu : Int} {at_ : Int} {st : Int} {wa : Int} {ls : Int} {pa : Int} {lx : V} : List.lookup ("at" : Str) (sweepF se ph gr lo tu at_ st wa ls pa lx) = some (.int at_ : V) := by
  unfold sweepF
  simp only [List.lookup, beq_self_eq_true, sweepF_s_at_sense, sweepF_s_at_phase, sweepF_s_at_grey, sweepF_s_at_looked, sweepF_s_at_turn]
theorem sweepF_lk_stop {se : Int} {ph : Str} {gr : Addr} {lo : Int} {tu : Int} {at_ : Int} {st : Int} {wa : Int} {ls : Int} {pa : Int} {lx : V} : List.lookup ("stop" : Str) (sweepF se ph gr lo tu at_ st wa ls pa lx) = some (.int st : V) := by
  unfold sweepF
  simp only [List.lookup, beq_self_eq_true, sweepF_s_stop_sense, sweepF_s_stop_phase, sweepF_s_stop_grey, sweepF_s_stop_looked, sweepF_s_stop_turn, sweepF_s_stop_at]
theorem sweepF_lk_walks {se : Int} {ph : Str} {gr : Addr} {lo : Int} {tu : Int} {at_ : Int} {st : Int} {wa : Int} {ls : Int} {pa : Int} {lx : V} : List.lookup ("walks" : Str) (sweepF se ph gr lo tu at_ st wa ls pa lx) = some (.int wa : V) := by
  unfold sweepF
  simp only [List.lookup, beq_self_eq_true, sweepF_s_walks_sense, sweepF_s_walks_phase, sweepF_s_walks_grey, sweepF_s_walks_looked, sweepF_s_walks_turn, sweepF_s_walks_at, sweepF_s_walks_stop]
theorem sweepF_lk_looks {se : Int} {ph : Str} {gr : Addr} {lo : Int} {tu : Int} {at_ : Int} {st : Int} {wa : Int} {ls : Int} {pa : Int} {lx : V} : List.lookup ("looks" : Str) (sweepF se ph gr lo tu at_ st wa ls pa lx) = some (.int ls : V) := by
  unfold sweepF
  simp only [List.lookup, beq_self_eq_true, sweepF_s_looks_sense, sweepF_s_looks_phase, sweepF_s_looks_grey, sweepF_s_looks_looked, sweepF_s_looks_turn, sweepF_s_looks_at, sweepF_s_looks_stop, sweepF_s_looks_walks]
theorem sweepF_lk_passes {se : Int} {ph : Str} {gr : Addr} {lo : Int} {tu : Int} {at_ : Int} {st : Int} {wa : Int} {ls : Int} {pa : Int} {lx : V} : List.lookup ("passes" : Str) (sweepF se ph gr lo tu at_ st wa ls pa lx) = some (.int pa : V) := by
  unfold sweepF
  simp only [List.lookup, beq_self_eq_true, sweepF_s_passes_sense, sweepF_s_passes_phase, sweepF_s_passes_grey, sweepF_s_passes_looked, sweepF_s_passes_turn, sweepF_s_passes_at, sweepF_s_passes_stop, sweepF_s_passes_walks, sweepF_s_passes_looks]
theorem sweepF_lk_loss {se : Int} {ph : Str} {gr : Addr} {lo : Int} {tu : Int} {at_ : Int} {st : Int} {wa : Int} {ls : Int} {pa : Int} {lx : V} : List.lookup ("loss" : Str) (sweepF se ph gr lo tu at_ st wa ls pa lx) = some (lx : V) := by
  unfold sweepF
  simp only [List.lookup, beq_self_eq_true, sweepF_s_loss_sense, sweepF_s_loss_phase, sweepF_s_loss_grey, sweepF_s_loss_looked, sweepF_s_loss_turn, sweepF_s_loss_at, sweepF_s_loss_stop, sweepF_s_loss_walks, sweepF_s_loss_looks, sweepF_s_loss_passes]
theorem sweepF_ne {a b : Str} (h : (a == b) = false) : ¬ b = a := fun e => by rw [e, beq_self_eq_true] at h; cases h
theorem sweepF_mk {se : Int} {ph : Str} {gr : Addr} {lo : Int} {tu : Int} {at_ : Int} {st : Int} {wa : Int} {ls : Int} {pa : Int} {lx : V} : (putF "loss" (lx) (putF "passes" (.int pa) (putF "looks" (.int ls) (putF "walks" (.int wa) (putF "stop" (.int st) (putF "at" (.int at_) (putF "turn" (.int tu) (putF "looked" (.int lo) (putF "grey" (.ref gr) (putF "phase" (.str ph) (putF "sense" (.int se) []))))))))))) = sweepF se ph gr lo tu at_ st wa ls pa lx := by
  unfold sweepF
  simp only [putF, if_neg (sweepF_ne sweepF_s_phase_sense), if_neg (sweepF_ne sweepF_s_grey_sense), if_neg (sweepF_ne sweepF_s_grey_phase), if_neg (sweepF_ne sweepF_s_looked_sense), if_neg (sweepF_ne sweepF_s_looked_phase), if_neg (sweepF_ne sweepF_s_looked_grey), if_neg (sweepF_ne sweepF_s_turn_sense), if_neg (sweepF_ne sweepF_s_turn_phase), if_neg (sweepF_ne sweepF_s_turn_grey), if_neg (sweepF_ne sweepF_s_turn_looked), if_neg (sweepF_ne sweepF_s_at_sense), if_neg (sweepF_ne sweepF_s_at_phase), if_neg (sweepF_ne sweepF_s_at_grey), if_neg (sweepF_ne sweepF_s_at_looked), if_neg (sweepF_ne sweepF_s_at_turn), if_neg (sweepF_ne sweepF_s_stop_sense), if_neg (sweepF_ne sweepF_s_stop_phase), if_neg (sweepF_ne sweepF_s_stop_grey), if_neg (sweepF_ne sweepF_s_stop_looked), if_neg (sweepF_ne sweepF_s_stop_turn), if_neg (sweepF_ne sweepF_s_stop_at), if_neg (sweepF_ne sweepF_s_walks_sense), if_neg (sweepF_ne sweepF_s_walks_phase), if_neg (sweepF_ne sweepF_s_walks_grey), if_neg (sweepF_ne sweepF_s_walks_looked), if_neg (sweepF_ne sweepF_s_walks_turn), if_neg (sweepF_ne sweepF_s_walks_at), if_neg (sweepF_ne sweepF_s_walks_stop), if_neg (sweepF_ne sweepF_s_looks_sense), if_neg (sweepF_ne sweepF_s_looks_phase), if_neg (sweepF_ne sweepF_s_looks_grey), if_neg (sweepF_ne sweepF_s_looks_looked), if_neg (sweepF_ne sweepF_s_looks_turn), if_neg (sweepF_ne sweepF_s_looks_at), if_neg (sweepF_ne sweepF_s_looks_stop), if_neg (sweepF_ne sweepF_s_looks_walks), if_neg (sweepF_ne sweepF_s_passes_sense), if_neg (sweepF_ne sweepF_s_passes_phase), if_neg (sweepF_ne sweepF_s_passes_grey), if_neg (sweepF_ne sweepF_s_passes_looked), if_neg (sweepF_ne sweepF_s_passes_turn), if_neg (sweepF_ne sweepF_s_passes_at), if_neg (sweepF_ne sweepF_s_passes_stop), if_neg (sweepF_ne sweepF_s_passes_walks), if_neg (sweepF_ne sweepF_s_passes_looks), if_neg (sweepF_ne sweepF_s_loss_sense), if_neg (sweepF_ne sweepF_s_loss_phase), if_neg (sweepF_ne sweepF_s_loss_grey), if_neg (sweepF_ne sweepF_s_loss_looked), if_neg (sweepF_ne sweepF_s_loss_turn), if_neg (sweepF_ne sweepF_s_loss_at), if_neg (sweepF_ne sweepF_s_loss_stop), if_neg (sweepF_ne sweepF_s_loss_walks), if_neg (sweepF_ne sweepF_s_loss_looks), if_neg (sweepF_ne sweepF_s_loss_passes)]
def rd_Cell___init__ (K : PySem.W.Frag) : TS :=
  (tSeq (sFld K (tVar 0) (tVar 1) "birth")
      (tSeq (sFld K (tVar 0) (tVar 3) "bulk")
      (tSeq (sFld K (tVar 0) (tVar 4) "tone")
      (tSeq (sFld K (tVar 0) (tC (.int 0)) "load")
      (sFld K (tVar 0) (tOp (rRep) (tLst (tCons (tC .non) tNil)) (tVar 2)) "fields")))))
def rd_Cell_units (K : PySem.W.Frag) : TS :=
  (tRet (tOp (rI0 fun i j => .int (i + j)) (tOp (rI0 fun i j => .int (i + j)) (tC (.int 1)) (tCB (G.cLenL K) (tCons (tFld K (tVar 0) "fields") tNil))) (tFld K (tVar 0) "bulk")))
def rd_Heap___init__ (K : PySem.W.Frag) : TS :=
  (tSeq (sFld K (tVar 0) (tVar 1) "room")
      (tSeq (sFld K (tVar 0) (tLst tNil) "cells")
      (tSeq (sFld K (tVar 0) (tC (.int 0)) "used")
      (sFld K (tVar 0) (tC (.int 0)) "born"))))
def rd_Heap_make (K : PySem.W.Frag) (C_Cell C_Full C_Heap : Addr) (sp_Cell___init__ sp_Cell_units sp_Heap_free sp_Heap_lay : Sp) (E : XK) : TS :=
  (tSeq (tAsg (tMake C_Cell sp_Cell___init__ [] E0 (tCons (tOp (rI0 fun i j => .int (i + j)) (tFld K (tVar 0) "born") (tC (.int 1))) (tCons (tVar 1) (tCons (tVar 2) (tCons (tVar 3) tNil))))) (gName 4))
      (tSeq (tIfS (tTest (tOp (rI0 fun i j => .bl (decide (j < i))) (tMeth C_Cell "units" sp_Cell_units [] E0 (tVar 4) tNil) (tMeth C_Heap "free" sp_Heap_free [] E0 (tVar 0) tNil))) (G.tRaise C_Full E (tCons (tC (.str "the room does not suffice")) tNil)) tNext)
      (tSeq (sFld K (tVar 0) (tFld K (tVar 4) "birth") "born")
      (tSeq (sFld K (tVar 0) (tOp (rI0 fun i j => .int (i + j)) (tFld K (tVar 0) "used") (tMeth C_Cell "units" sp_Cell_units [] E0 (tVar 4) tNil)) "used")
      (tRet (tMeth C_Heap "lay" sp_Heap_lay [] E0 (tVar 0) (tCons (tVar 4) tNil)))))))
def rd_Heap_lay (K : PySem.W.Frag) : TS :=
  (tSeq (tIfS (tTest (tOp (G.rInN K true) (tC .non) (tFld K (tVar 0) "cells"))) (tSeq (tDrop (tBM K "list" rAppend (tFld K (tVar 0) "cells") (tCons (tVar 1) tNil)))
      (tRet (tOp (rI0 fun i j => .int (i - j)) (tCB (G.cLenL K) (tCons (tFld K (tVar 0) "cells") tNil)) (tC (.int 1))))) tNext)
      (tSeq (tAsg (tBM K "list" (G.rIndexN K) (tFld K (tVar 0) "cells") (tCons (tC .non) tNil)) (gName 2))
      (tSeq (tAsg (tVar 1) (gSub (tFld K (tVar 0) "cells") (tVar 2) rSetL))
      (tRet (tVar 2)))))
def rd_Heap_back (K : PySem.W.Frag) (C_Cell : Addr) (sp_Cell_units : Sp) : TS :=
  (tSeq (tAsg (tOp (rIxL K) (tFld K (tVar 0) "cells") (tVar 1)) (gName 2))
      (tSeq (sFld K (tVar 0) (tOp (rI0 fun i j => .int (i - j)) (tFld K (tVar 0) "used") (tMeth C_Cell "units" sp_Cell_units [] E0 (tVar 2) tNil)) "used")
      (tSeq (tAsg (tC .non) (gSub (tFld K (tVar 0) "cells") (tVar 1) rSetL))
      (tRet (tFld K (tVar 2) "birth")))))
def rd_Heap_free (K : PySem.W.Frag) : TS :=
  (tRet (tOp (rI0 fun i j => .int (i - j)) (tFld K (tVar 0) "room") (tFld K (tVar 0) "used")))
def rd_Heap_there (K : PySem.W.Frag) : TS :=
  (tRet (G.tLC (iRng1 (tCons (tCB (G.cLenL K) (tCons (tFld K (tVar 0) "cells") tNil)) tNil)) [0] (tTest (tOp (G.rNotN) (tOp (rIxL K) (tFld K (tVar 1) "cells") (tVar 0)) (tC .non))) (tVar 0)))
def rd_cell_at (K : PySem.W.Frag) : TS :=
  (tSeq (tIfS ((tOr (tTest (tOp (G.rIsN) (tVar 1) (tC .non))) (tOr (tTest (tOp (rI0 fun i j => .bl (decide (i < j))) (tVar 1) (tC (.int 0)))) (tTest (tOp (rI0 fun i j => .bl (decide (j ≤ i))) (tVar 1) (tCB (G.cLenL K) (tCons (tFld K (tVar 0) "cells") tNil))))))) (tRet (tC .non)) tNext)
      (tRet (tOp (rIxL K) (tFld K (tVar 0) "cells") (tVar 1))))
def rd_birth_at (K : PySem.W.Frag) (sp_cell_at : Sp) : TS :=
  (tSeq (tAsg (tCall sp_cell_at [] E0 (tCons (tVar 0) (tCons (tVar 1) tNil))) (gName 2))
      (tSeq (tIfS (tTest (tOp (G.rIsN) (tVar 2) (tC .non))) (tRet (tC .non)) tNext)
      (tRet (tFld K (tVar 2) "birth"))))
def rd_Hand___init__ (K : PySem.W.Frag) : TS :=
  (tSeq (sFld K (tVar 0) (tVar 1) "name")
      (sFld K (tVar 0) (tOp (rRep) (tLst (tCons (tC .non) tNil)) (tVar 2)) "slots"))
def rd_Sweeper___init__ (K : PySem.W.Frag) : TS :=
  (tSeq (sFld K (tVar 0) (tC (.int 0)) "sense")
      (tSeq (sFld K (tVar 0) (tC (.str "rest")) "phase")
      (tSeq (sFld K (tVar 0) (tLst tNil) "grey")
      (tSeq (sFld K (tVar 0) (tC (.int 0)) "looked")
      (tSeq (sFld K (tVar 0) (tC (.int 0)) "turn")
      (tSeq (sFld K (tVar 0) (tC (.int 0)) "at")
      (tSeq (sFld K (tVar 0) (tC (.int 0)) "stop")
      (tSeq (sFld K (tVar 0) (tC (.int 0)) "walks")
      (tSeq (sFld K (tVar 0) (tC (.int 0)) "looks")
      (tSeq (sFld K (tVar 0) (tC (.int 0)) "passes")
      (sFld K (tVar 0) (tC .non) "loss")))))))))))
def rd_World___init__ (K : PySem.W.Frag) (C_Hand C_Heap C_Sweeper : Addr) (sp_Hand___init__ sp_Heap___init__ sp_Sweeper___init__ : Sp) : TS :=
  (tSeq (sFld K (tVar 0) (tMake C_Heap sp_Heap___init__ [] E0 (tCons (tVar 1) tNil)) "heap")
      (tSeq (sFld K (tVar 0) (tVar 2) "kind")
      (tSeq (sFld K (tVar 0) (G.tLC2 K (iList K (tVar 3)) [] G.tTrue (tMake C_Hand sp_Hand___init__ [] E0 (tCons (tVar 0) (tCons (tVar 1) tNil)))) "hands")
      (tSeq (sFld K (tVar 0) (tDNewK) "names")
      (sFld K (tVar 0) (tMake C_Sweeper sp_Sweeper___init__ [] E0 tNil) "sweeper")))))
def rd_held (K : PySem.W.Frag) : TS :=
  (tRet (G.tLC (iList K (tFld K (tVar 0) "hands")) [] G.tTrue (tCB (G.cListL K) (tCons (tFld K (tVar 0) "slots") tNil))))
def rd_births_held (K : PySem.W.Frag) (sp_births_at : Sp) : TS :=
  (tRet (G.tLC (iList K (tFld K (tVar 0) "hands")) [0] G.tTrue (tCall sp_births_at [] E0 (tCons (tFld K (tVar 1) "heap") (tCons (tFld K (tVar 0) "slots") tNil)))))
def rd_births_at (K : PySem.W.Frag) (sp_birth_at : Sp) : TS :=
  (tRet (G.tLC (iList K (tVar 1)) [0] G.tTrue (tCall sp_birth_at [] E0 (tCons (tVar 1) (tCons (tVar 0) tNil)))))
def rd_has_sense (K : PySem.W.Frag) : TS :=
  (tRet (tOp (rEq) (tFld K (tVar 1) "tone") (tFld K (tFld K (tVar 0) "sweeper") "sense")))
def rd_mark_of (K : PySem.W.Frag) (sp_has_sense : Sp) : TS :=
  (tSeq (tAsg (tFld K (tVar 0) "sweeper") (gName 2))
      (tSeq (tAsg (tCall sp_has_sense [] E0 (tCons (tVar 0) (tCons (tOp (rIxL K) (tFld K (tFld K (tVar 0) "heap") "cells") (tVar 1)) tNil))) (gName 3))
      (tSeq (tIfS (tTest (tOp (rEq) (tFld K (tVar 2) "phase") (tC (.str "rest")))) (tRet (tC (.str "kept"))) tNext)
      (tSeq (tIfS (tTest (tOp (rEq) (tFld K (tVar 2) "phase") (tC (.str "give")))) (tRet (tIf (tB (tVar 3)) (tC (.str "kept")) (tC (.str "doomed")))) tNext)
      (tSeq (tIfS (tNot (tB (tVar 3))) (tRet (tC (.str "pale"))) tNext)
      (tRet (tIf (tTest (tOp (rIn K false) (tVar 1) (tFld K (tVar 2) "grey"))) (tC (.str "grey")) (tC (.str "dark")))))))))
def rd_told_cells (K : PySem.W.Frag) (C_Heap : Addr) (sp_Heap_there sp_told_cell : Sp) : TS :=
  (tRet (G.tLC (iList K (tMeth C_Heap "there" sp_Heap_there [] E0 (tFld K (tVar 0) "heap") tNil)) [0] G.tTrue (tCall sp_told_cell [] E0 (tCons (tVar 1) (tCons (tVar 0) tNil)))))
def rd_told_cell (K : PySem.W.Frag) (sp_births_at sp_mark_of : Sp) : TS :=
  (tSeq (tAsg (tOp (rIxL K) (tFld K (tFld K (tVar 0) "heap") "cells") (tVar 1)) (gName 2))
      (tSeq (tAsg (tCall sp_births_at [] E0 (tCons (tFld K (tVar 0) "heap") (tCons (tFld K (tVar 2) "fields") tNil))) (gName 3))
      (tRet (tTup (tCons (tVar 1) (tCons (tFld K (tVar 2) "birth") (tCons (tFld K (tVar 2) "bulk") (tCons (tFld K (tVar 2) "load") (tCons (tVar 3) (tCons (tCall sp_mark_of [] E0 (tCons (tVar 0) (tCons (tVar 1) tNil))) tNil))))))))))
def rd_First_word  : TS :=
  (tRet (tC (.str "first")))
def rd_Each_word  : TS :=
  (tRet (tC (.str "each")))
def rd_Last_word  : TS :=
  (tRet (tC (.str "last")))
def rd_Kind___init__ (K : PySem.W.Frag) : TS :=
  (tSeq (sFld K (tVar 0) (tVar 1) "looking")
      (sFld K (tVar 0) (tVar 2) "tells"))
def rd_Kind_words (K : PySem.W.Frag) (C_Each C_First C_Last : Addr) (sp_Each_word sp_First_word sp_Last_word : Sp) : TS :=
  (tSeq (tAsg (G.tOrE (tMeth C_First "word" sp_First_word [] E0 (tFld K (tVar 0) "looking") tNil) (G.tOrE (tMeth C_Each "word" sp_Each_word [] E0 (tFld K (tVar 0) "looking") tNil) (tMeth C_Last "word" sp_Last_word [] E0 (tFld K (tVar 0) "looking") tNil))) (gName 1))
      (tSeq (tIfS (tTest (tOp (rNe) (tOp (rI0 fun i j => .int (Builtin.bitAnd i j)) (tFld K (tVar 0) "tells") (tC (.int 1))) (tC (.int 0)))) (tAsg (tOp (G.rCatS) (tVar 1) (tC (.str " old"))) (gName 1)) tNext)
      (tSeq (tIfS (tTest (tOp (rNe) (tOp (rI0 fun i j => .int (Builtin.bitAnd i j)) (tFld K (tVar 0) "tells") (tC (.int 2))) (tC (.int 0)))) (tAsg (tOp (G.rCatS) (tVar 1) (tC (.str " new"))) (gName 1)) tNext)
      (tRet (tVar 1)))))
def rd_kind_of (K : PySem.W.Frag) (C_Each C_First C_Kind C_Last : Addr) (sp_Kind___init__ sp_Kind_words : Sp) : TS :=
  (tSeq (tFor (iList K (tLst (tCons (G.tMake0 C_First) (tCons (G.tMake0 C_Each) (tCons (G.tMake0 C_Last) tNil))))) (gName 1)
      (tFor (iRng1 (tCons (tC (.int 4)) tNil)) (gName 2)
      (tSeq (tAsg (tMake C_Kind sp_Kind___init__ [] E0 (tCons (tVar 1) (tCons (tVar 2) tNil))) (gName 3))
      (tIfS (tTest (tOp (rEq) (tMeth C_Kind "words" sp_Kind_words [] E0 (tVar 3) tNil) (tVar 0))) (tRet (tVar 3)) tNext))))
      (tRet (tC .non)))
def rd__law_mix  : TS :=
  (tSeq (tAsg (tOp (rI (fun _ j => 0 < j) fun i j => .int (i % j)) (tOp (rI0 fun i j => .int (i + j)) (tOp (rI CMul fun i j => .int (i * j)) (tVar 0) (tVar 1)) (tC (.int 12345))) (tC (.int 2147483647))) (gName 2))
      (tRet (tOp (rI CDiv fun i j => .int (i / j)) (tOp (rI (fun _ j => 0 < j) fun i j => .int (i % j)) (tOp (rI CMul fun i j => .int (i * j)) (tVar 2) (tVar 2)) (tC (.int 2147483629))) (tC (.int 3)))))
def rd__law_cell_at (K : PySem.W.Frag) : TS :=
  (tSeq (tIfS (tTest (tOp (rI0 fun i j => .bl (decide (i < j))) (tVar 1) (tCB (G.cLenL K) (tCons (tVar 0) tNil)))) (tRet (tOp (rIxL K) (tVar 0) (tVar 1))) tNext)
      (tRet (tC (.int 0))))
def rd__law_names (K : PySem.W.Frag) (sp__law_mix : Sp) : TS :=
  (tSeq (tAsg (tC (.str "abcdefghijklmnopqrstuvwxyz")) (gName 2))
      (tSeq (tAsg (tOp (rI0 fun i j => .int (i + j)) (tC (.int 1)) (tOp (rI (fun _ j => 0 < j) fun i j => .int (i % j)) (tCall sp__law_mix [] E0 (tCons (tVar 0) (tCons (tC (.int 48271)) tNil))) (tC (.int 12)))) (gName 3))
      (tSeq (tAsg (tC (.str "")) (gName 4))
      (tSeq (tFor (iRng1 (tCons (tVar 3) tNil)) (gName 5)
      (tAsg (tOp (G.rCatS) (tVar 4) (tOp (rIxS) (tVar 2) (tOp (rI (fun _ j => 0 < j) fun i j => .int (i % j)) (tCall sp__law_mix [] E0 (tCons (tVar 0) (tCons (tOp (rI0 fun i j => .int (i + j)) (tOp (rI CMul fun i j => .int (i * j)) (tVar 5) (tVar 5)) (tC (.int 69621))) tNil))) (tC (.int 26))))) (gName 4)))
      (tSeq (tAsg (tOp (rI (fun _ j => 0 < j) fun i j => .int (i % j)) (tCall sp__law_mix [] E0 (tCons (tVar 0) (tCons (tC (.int 16807)) tNil))) (tVar 3)) (gName 6))
      (tSeq (tAsg (tOp (rI (fun _ j => 0 < j) fun i j => .int (i % j)) (tCall sp__law_mix [] E0 (tCons (tVar 0) (tCons (tC (.int 39373)) tNil))) (tC (.int 26))) (gName 7))
      (tSeq (tAsg (tLst tNil) (gName 8))
      (tSeq (tFor (iRng1 (tCons (tVar 1) tNil)) (gName 5)
      (tSeq (tAsg (tOp (G.rCatS) (tOp (G.rCatS) (tSl (G.rSlS) (tVar 4) tNoPart (tPart (tVar 6))) (tOp (rIxS) (tVar 2) (tOp (rI (fun _ j => 0 < j) fun i j => .int (i % j)) (tOp (rI0 fun i j => .int (i + j)) (tVar 7) (tVar 5)) (tC (.int 26))))) (tSl (G.rSlS) (tVar 4) (tPart (tOp (rI0 fun i j => .int (i + j)) (tVar 6) (tC (.int 1)))) tNoPart)) (gName 9))
      (tSeq (tIfS (tTest (tOp (rEq) (tVar 9) (tC (.str "sweep")))) (tAsg (tC (.str "sweeps")) (gName 9)) tNext)
      (tDrop (tBM K "list" rAppend (tVar 8) (tCons (tVar 9) tNil))))))
      (tRet (tVar 8))))))))))
def rd__law_same (K : PySem.W.Frag) (sp__law_same : Sp) : TS :=
  (tSeq (tIfS (tTest (tOp (G.rIsN) (tVar 1) (tC .non))) (tRet (tOp (G.rIsN) (tVar 0) (tC .non))) tNext)
      (tSeq (tIfS (tTest (tOp (G.rIsB) (tVar 1) (tC (.bl true)))) (tRet (tOp (G.rIsB) (tVar 0) (tC (.bl true)))) tNext)
      (tSeq (tIfS (tTest (tOp (G.rIsB) (tVar 1) (tC (.bl false)))) (tRet (tOp (G.rIsB) (tVar 0) (tC (.bl false)))) tNext)
      (tSeq (tIfS (tB (tCB (G.cIsi) (tCons (tVar 1) (tCons (tC (.ty "int")) tNil)))) (tRet ((tAndV (tCB (G.cIsi) (tCons (tVar 0) (tCons (tC (.ty "int")) tNil))) (tAndV (tNotV (tCB (G.cIsi) (tCons (tVar 0) (tCons (tC (.ty "bool")) tNil)))) (tOp (rEq) (tVar 0) (tVar 1)))))) tNext)
      (tSeq (tIfS (tB (tCB (G.cIsi) (tCons (tVar 1) (tCons (tC (.ty "str")) tNil)))) (tRet ((tAndV (tCB (G.cIsi) (tCons (tVar 0) (tCons (tC (.ty "str")) tNil))) (tOp (rEq) (tVar 0) (tVar 1))))) tNext)
      (tSeq (tIfS ((tAnd (tB (tCB (G.cIsi) (tCons (tVar 1) (tCons (tC (.ty "list")) tNil)))) (tNot (tB (tCB (G.cIsi) (tCons (tVar 0) (tCons (tC (.ty "list")) tNil))))))) (tRet (tC (.bl false))) tNext)
      (tSeq (tIfS ((tAnd (tB (tCB (G.cIsi) (tCons (tVar 1) (tCons (tC (.ty "tuple")) tNil)))) (tNot (tB (tCB (G.cIsi) (tCons (tVar 0) (tCons (tC (.ty "tuple")) tNil))))))) (tRet (tC (.bl false))) tNext)
      (tSeq (tIfS (tTest (tOp (rNe) (tCB (G.cLenL K) (tCons (tVar 0) tNil)) (tCB (G.cLenL K) (tCons (tVar 1) tNil)))) (tRet (tC (.bl false))) tNext)
      (tSeq (tFor (iRng1 (tCons (tCB (G.cLenL K) (tCons (tVar 1) tNil)) tNil)) (gName 2)
      (tIfS (tNot (tB (tCall sp__law_same [] E0 (tCons (tOp (rIx K) (tVar 0) (tVar 2)) (tCons (tOp (rIx K) (tVar 1) (tVar 2)) tNil))))) (tRet (tC (.bl false))) tNext))
      (tRet (tC (.bl true))))))))))))
def rd__law_new (K : PySem.W.Frag) (sp__law_same sp_held : Sp) : TS :=
  (tSeq (tAsg (tFld K (tVar 0) "sweeper") (gName 3))
      (tSeq (tAsg (tLst (tCons (tFld K (tVar 3) "sense") (tCons (tFld K (tVar 3) "phase") (tCons (tFld K (tVar 3) "grey") (tCons (tFld K (tVar 3) "looked") (tCons (tFld K (tVar 3) "turn") (tCons (tFld K (tVar 3) "at") (tCons (tFld K (tVar 3) "stop") tNil)))))))) (gName 4))
      (tSeq (tIfS ((tOr (tNot (tB (tCall sp__law_same [] E0 (tCons (tVar 4) (tCons (tLst (tCons (tC (.int 0)) (tCons (tC (.str "rest")) (tCons (tLst tNil) (tCons (tC (.int 0)) (tCons (tC (.int 0)) (tCons (tC (.int 0)) (tCons (tC (.int 0)) tNil)))))))) tNil))))) (tTest (tOp (G.rNotN) (tFld K (tVar 3) "loss") (tC .non))))) (tRet (tC (.bl false))) tNext)
      (tSeq (tIfS (tNot (tB (tCall sp__law_same [] E0 (tCons (tLst (tCons (tFld K (tVar 3) "walks") (tCons (tFld K (tVar 3) "looks") (tCons (tFld K (tVar 3) "passes") tNil)))) (tCons (tLst (tCons (tC (.int 0)) (tCons (tC (.int 0)) (tCons (tC (.int 0)) tNil)))) tNil))))) (tRet (tC (.bl false))) tNext)
      (tSeq (tIfS ((tOr (tNot (tB (tCall sp__law_same [] E0 (tCons (tLst (tCons (tFld K (tFld K (tVar 0) "heap") "room") (tCons (tFld K (tFld K (tVar 0) "heap") "used") (tCons (tFld K (tFld K (tVar 0) "heap") "born") tNil)))) (tCons (tLst (tCons (tVar 2) (tCons (tC (.int 0)) (tCons (tC (.int 0)) tNil)))) tNil))))) (tTest (tOp (G.rEqD0 true) (tFld K (tVar 0) "names") (tDNewK))))) (tRet (tC (.bl false))) tNext)
      (tSeq (tIfS (tNot (tB (tCall sp__law_same [] E0 (tCons (G.tLC (iList K (tFld K (tVar 0) "hands")) [] G.tTrue (tTup (tCons (tFld K (tVar 0) "name") (tCons (tCB (G.cLenL K) (tCons (tFld K (tVar 0) "slots") tNil)) tNil)))) (tCons (tVar 1) tNil))))) (tRet (tC (.bl false))) tNext)
      (tRet (tCall sp__law_same [] E0 (tCons (tCall sp_held [] E0 (tCons (tVar 0) tNil)) (tCons (G.tLC2 K (iList K (tVar 1)) [] G.tTrue (tOp (rRep) (tLst (tCons (tC .non) tNil)) (tVar 1))) tNil))))))))))
def rd__law_birth (K : PySem.W.Frag) : TS :=
  (tSeq (tIfS ((tOr (tTest (tOp (G.rIsN) (tVar 1) (tC .non))) (tTest (tOp (G.rIsN) (tOp (rIxL K) (tVar 0) (tVar 1)) (tC .non))))) (tRet (tC .non)) tNext)
      (tRet (tOp (rIxL K) (tOp (rIxL K) (tVar 0) (tVar 1)) (tC (.int 0)))))
def rd__law_births (K : PySem.W.Frag) (sp__law_birth : Sp) : TS :=
  (tRet (G.tLC (iList K (tVar 1)) [0] G.tTrue (tCall sp__law_birth [] E0 (tCons (tVar 1) (tCons (tVar 0) tNil)))))
def rd__law_due (K : PySem.W.Frag) (sp__law_births : Sp) : TS :=
  (tSeq (tIfS (tTest (tOp (rEq) (tVar 2) (tC (.int 0)))) (tRet (G.tLC (iList K (tVar 1)) [] G.tTrue (tCB (G.cListL K) (tCons (tVar 0) tNil)))) tNext)
      (tSeq (tIfS (tTest (tOp (rEq) (tVar 2) (tC (.int 1)))) (tRet (G.tLC (iList K (tVar 1)) [0] G.tTrue (tCall sp__law_births [] E0 (tCons (tVar 1) (tCons (tVar 0) tNil))))) tNext)
      (tSeq (tAsg (tLst tNil) (gName 3))
      (tSeq (tFor (iRng1 (tCons (tCB (G.cLenL K) (tCons (tVar 0) tNil)) tNil)) (gName 4)
      (tIfS (tTest (tOp (G.rNotN) (tOp (rIxL K) (tVar 0) (tVar 4)) (tC .non))) (tSeq (tAsg (tOp (rIxL K) (tVar 0) (tVar 4)) (gName 5))
      (tDrop (tBM K "list" rAppend (tVar 3) (tCons (tTup (tCons (tVar 4) (tCons (tOp (rIxL K) (tVar 5) (tC (.int 0))) (tCons (tOp (rIxL K) (tVar 5) (tC (.int 1))) (tCons (tC (.int 0)) (tCons (tCall sp__law_births [] E0 (tCons (tVar 0) (tCons (tOp (rIxL K) (tVar 5) (tC (.int 2))) tNil))) (tCons (tC (.str "kept")) tNil))))))) tNil)))) tNext))
      (tRet (tVar 3))))))
def rd__law_found (sp_births_held sp_held sp_told_cells : Sp) : TS :=
  (tSeq (tIfS (tTest (tOp (rEq) (tVar 1) (tC (.int 0)))) (tRet (tCall sp_held [] E0 (tCons (tVar 0) tNil))) tNext)
      (tSeq (tIfS (tTest (tOp (rEq) (tVar 1) (tC (.int 1)))) (tRet (tCall sp_births_held [] E0 (tCons (tVar 0) tNil))) tNext)
      (tRet (tCall sp_told_cells [] E0 (tCons (tVar 0) tNil)))))
def rd__law_lies (K : PySem.W.Frag) : TS :=
  (tSeq (tAsg (G.tLC (iRng1 (tCons (tCB (G.cLenL K) (tCons (tVar 0) tNil)) tNil)) [0] (tTest (tOp (G.rNotN) (tOp (rIxL K) (tVar 1) (tVar 0)) (tC .non))) (tVar 0)) (gName 2))
      (tSeq (tIfS (tTest (tOp (G.rEqL K false) (tVar 2) (tLst tNil))) (tRet (tC .non)) tNext)
      (tRet (tOp (rIxL K) (tVar 2) (tOp (rI (fun _ j => 0 < j) fun i j => .int (i % j)) (tVar 1) (tCB (G.cLenL K) (tCons (tVar 2) tNil)))))))
def rd__law_least (K : PySem.W.Frag) : TS :=
  (tSeq (tFor (iRng1 (tCons (tCB (G.cLenL K) (tCons (tVar 0) tNil)) tNil)) (gName 1)
      (tIfS (tTest (tOp (G.rIsN) (tOp (rIxL K) (tVar 0) (tVar 1)) (tC .non))) (tRet (tVar 1)) tNext))
      (tSeq (tDrop (tBM K "list" rAppend (tVar 0) (tCons (tC .non) tNil)))
      (tRet (tOp (rI0 fun i j => .int (i - j)) (tCB (G.cLenL K) (tCons (tVar 0) tNil)) (tC (.int 1))))))
def rd__law_made (K : PySem.W.Frag) (C_Full C_Heap : Addr) (sp_Heap_make sp__law_least sp__law_same : Sp) : TS :=
  (tSeq (tAsg (tC (.bl false)) (gName 5))
      (tSeq (tAsg (tC .non) (gName 6))
      (tSeq (G.tTry (fun cls => cls = Value.ref C_Full) (fun Ex => (tAsg (G.tMethX C_Heap "make" sp_Heap_make [(.int 0)] Ex (tFld K (tVar 0) "heap") (tCons (tVar 3) (tCons (tVar 4) tNil))) (gName 6))) (tAsg (tC (.bl true)) (gName 5)))
      (tSeq (tIfS (tTest (tOp (rI0 fun i j => .bl (decide (j < i))) (tOp (rI0 fun i j => .int (i + j)) (tOp (rI0 fun i j => .int (i + j)) (tOp (rI0 fun i j => .int (i + j)) (tOp (rIxL K) (tVar 2) (tC (.int 0))) (tC (.int 1))) (tVar 3)) (tVar 4)) (tOp (rIxL K) (tVar 2) (tC (.int 1))))) (tRet (tVar 5)) tNext)
      (tSeq (tAsg (tCall sp__law_least [] E0 (tCons (tVar 1) tNil)) (gName 7))
      (tSeq (tAsg (tOp (rI0 fun i j => .int (i + j)) (tOp (rI0 fun i j => .int (i + j)) (tOp (rI0 fun i j => .int (i + j)) (tOp (rIxL K) (tVar 2) (tC (.int 0))) (tC (.int 1))) (tVar 3)) (tVar 4)) (gSub (tVar 2) (tC (.int 0)) rSetL))
      (tSeq (tAsg (tOp (rI0 fun i j => .int (i + j)) (tOp (rIxL K) (tVar 2) (tC (.int 2))) (tC (.int 1))) (gSub (tVar 2) (tC (.int 2)) rSetL))
      (tSeq (tAsg (tLst (tCons (tOp (rIxL K) (tVar 2) (tC (.int 2))) (tCons (tVar 4) (tCons (tOp (rRep) (tLst (tCons (tC .non) tNil)) (tVar 3)) tNil)))) (gSub (tVar 1) (tVar 7) rSetL))
      (tRet ((tAndV (tNotV (tVar 5)) (tCall sp__law_same [] E0 (tCons (tVar 6) (tCons (tVar 7) tNil))))))))))))))
def rd__law_back (K : PySem.W.Frag) (C_Heap : Addr) (sp_Heap_back sp__law_same : Sp) : TS :=
  (tSeq (tAsg (tOp (rIxL K) (tVar 1) (tVar 3)) (gName 4))
      (tSeq (tAsg (tOp (rI0 fun i j => .int (i - j)) (tOp (rI0 fun i j => .int (i - j)) (tOp (rI0 fun i j => .int (i - j)) (tOp (rIxL K) (tVar 2) (tC (.int 0))) (tC (.int 1))) (tCB (G.cLenL K) (tCons (tOp (rIxL K) (tVar 4) (tC (.int 2))) tNil))) (tOp (rIxL K) (tVar 4) (tC (.int 1)))) (gSub (tVar 2) (tC (.int 0)) rSetL))
      (tSeq (tAsg (tC .non) (gSub (tVar 1) (tVar 3) rSetL))
      (tRet (tCall sp__law_same [] E0 (tCons (tMeth C_Heap "back" sp_Heap_back [] E0 (tFld K (tVar 0) "heap") (tCons (tVar 3) tNil)) (tCons (tOp (rIxL K) (tVar 4) (tC (.int 0))) tNil)))))))
def rd__law_turn (K : PySem.W.Frag) (sp__law_back sp__law_lies sp__law_made sp__law_mix : Sp) : TS :=
  (tSeq (tAsg (tCall sp__law_mix [] E0 (tCons (tVar 4) (tCons (tC (.int 48271)) tNil))) (gName 5))
      (tSeq (tAsg (tCall sp__law_mix [] E0 (tCons (tVar 4) (tCons (tC (.int 69621)) tNil))) (gName 6))
      (tSeq (tIfS (tTest (tOp (rI0 fun i j => .bl (decide (i < j))) (tOp (rI (fun _ j => 0 < j) fun i j => .int (i % j)) (tVar 5) (tC (.int 5))) (tC (.int 2)))) (tSeq (tAsg (tOp (rI (fun _ j => 0 < j) fun i j => .int (i % j)) (tOp (rI CDiv fun i j => .int (i / j)) (tVar 6) (tC (.int 9))) (tC (.int 10))) (gName 7))
      (tSeq (tIfS (tTest (tOp (rEq) (tOp (rI (fun _ j => 0 < j) fun i j => .int (i % j)) (tVar 6) (tC (.int 4))) (tC (.int 3)))) (tAsg (tOp (rI (fun _ j => 0 < j) fun i j => .int (i % j)) (tOp (rI (fun _ j => 0 < j) fun i j => .int (i % j)) (tOp (rI PySem.IntMulOk fun i j => .int (i * j)) (tVar 4) (tC (.int 16807))) (tC (.int 1000000000039))) (tOp (rI0 fun i j => .int (i + j)) (tOp (rI CPow fun i j => .int (i ^ j.toNat)) (tC (.int 10)) (tC (.int 12))) (tC (.int 1)))) (gName 7)) tNext)
      (tRet (tCall sp__law_made [] E0 (tCons (tVar 0) (tCons (tVar 1) (tCons (tVar 3) (tCons (tOp (rI (fun _ j => 0 < j) fun i j => .int (i % j)) (tVar 6) (tC (.int 9))) (tCons (tVar 7) tNil))))))))) tNext)
      (tSeq (tAsg (tC .non) (gName 8))
      (tSeq (tIfS ((tAnd (tTest (tOp (rI0 fun i j => .bl (decide (j < i))) (tCB (G.cLenL K) (tCons (tVar 1) tNil)) (tC (.int 0)))) (tTest (tOp (rI0 fun i j => .bl (decide (j < i))) (tOp (rI (fun _ j => 0 < j) fun i j => .int (i % j)) (tVar 6) (tC (.int 7))) (tC (.int 0)))))) (tAsg (tOp (rI (fun _ j => 0 < j) fun i j => .int (i % j)) (tOp (rI CDiv fun i j => .int (i / j)) (tVar 6) (tC (.int 7))) (tCB (G.cLenL K) (tCons (tVar 1) tNil))) (gName 8)) tNext)
      (tSeq (tAsg (tCall sp__law_lies [] E0 (tCons (tVar 1) (tCons (tOp (rI CDiv fun i j => .int (i / j)) (tVar 6) (tC (.int 300))) tNil))) (gName 9))
      (tSeq (tIfS (tTest (tOp (rEq) (tOp (rI (fun _ j => 0 < j) fun i j => .int (i % j)) (tVar 5) (tC (.int 5))) (tC (.int 2)))) (tSeq (tAsg (tOp (rI (fun _ j => 0 < j) fun i j => .int (i % j)) (tOp (rI CDiv fun i j => .int (i / j)) (tVar 5) (tC (.int 5))) (tCB (G.cLenL K) (tCons (tVar 2) tNil))) (gName 10))
      (tSeq (tAsg (tOp (rI (fun _ j => 0 < j) fun i j => .int (i % j)) (tOp (rI CDiv fun i j => .int (i / j)) (tVar 5) (tC (.int 25))) (tCB (G.cLenL K) (tCons (tOp (rIxL K) (tVar 2) (tVar 10)) tNil))) (gName 11))
      (tSeq (tAsg (tVar 8) (gSub (tOp (rIxL K) (tVar 2) (tVar 10)) (tVar 11) rSetL))
      (tAsg (tVar 8) (gSub (tFld K (tOp (rIxL K) (tFld K (tVar 0) "hands") (tVar 10)) "slots") (tVar 11) rSetL))))) tNext)
      (tSeq (tIfS ((tAnd (tTest (tOp (rEq) (tOp (rI (fun _ j => 0 < j) fun i j => .int (i % j)) (tVar 5) (tC (.int 5))) (tC (.int 3)))) (tAnd (tTest (tOp (G.rNotN) (tVar 9) (tC .non))) (tTest (tOp (rI0 fun i j => .bl (decide (j < i))) (tCB (G.cLenL K) (tCons (tOp (rIxL K) (tOp (rIxL K) (tVar 1) (tVar 9)) (tC (.int 2))) tNil)) (tC (.int 0))))))) (tSeq (tAsg (tOp (rI (fun _ j => 0 < j) fun i j => .int (i % j)) (tOp (rI CDiv fun i j => .int (i / j)) (tVar 5) (tC (.int 5))) (tCB (G.cLenL K) (tCons (tOp (rIxL K) (tOp (rIxL K) (tVar 1) (tVar 9)) (tC (.int 2))) tNil))) (gName 12))
      (tSeq (tAsg (tVar 8) (gSub (tOp (rIxL K) (tOp (rIxL K) (tVar 1) (tVar 9)) (tC (.int 2))) (tVar 12) rSetL))
      (tAsg (tVar 8) (gSub (tFld K (tOp (rIxL K) (tFld K (tFld K (tVar 0) "heap") "cells") (tVar 9)) "fields") (tVar 12) rSetL)))) tNext)
      (tSeq (tIfS ((tAnd (tTest (tOp (rEq) (tOp (rI (fun _ j => 0 < j) fun i j => .int (i % j)) (tVar 5) (tC (.int 5))) (tC (.int 4)))) (tTest (tOp (G.rNotN) (tVar 9) (tC .non))))) (tRet (tCall sp__law_back [] E0 (tCons (tVar 0) (tCons (tVar 1) (tCons (tVar 3) (tCons (tVar 9) tNil)))))) tNext)
      (tRet (tC (.bl true))))))))))))
def rd_law (K : PySem.W.Frag) (C_World : Addr) (sp_World___init__ sp__law_cell_at sp__law_due sp__law_found sp__law_mix sp__law_names sp__law_new sp__law_same sp__law_turn sp_kind_of sp_told_cells : Sp) : TS :=
  (tSeq (tAsg (tOp (rI0 fun i j => .int (i + j)) (tC (.int 4)) (tOp (rI (fun _ j => 0 < j) fun i j => .int (i % j)) (tCall sp__law_mix [] E0 (tCons (tCall sp__law_cell_at [] E0 (tCons (tVar 0) (tCons (tC (.int 0)) tNil))) (tCons (tC (.int 48271)) tNil))) (tC (.int 60)))) (gName 1))
      (tSeq (tIfS (tTest (tOp (rEq) (tOp (rI (fun _ j => 0 < j) fun i j => .int (i % j)) (tCall sp__law_cell_at [] E0 (tCons (tVar 0) (tCons (tC (.int 0)) tNil))) (tC (.int 3))) (tC (.int 1)))) (tAsg (tOp (rI0 fun i j => .int (i + j)) (tC (.int 4)) (tOp (rI (fun _ j => 0 < j) fun i j => .int (i % j)) (tOp (rI CDiv fun i j => .int (i / j)) (tCall sp__law_cell_at [] E0 (tCons (tVar 0) (tCons (tC (.int 0)) tNil))) (tC (.int 3))) (tOp (rI0 fun i j => .int (i - j)) (tOp (rI CPow fun i j => .int (i ^ j.toNat)) (tC (.int 10)) (tC (.int 15))) (tC (.int 3))))) (gName 1)) tNext)
      (tSeq (tAsg (tOp (rI0 fun i j => .int (i + j)) (tC (.int 1)) (tOp (rI (fun _ j => 0 < j) fun i j => .int (i % j)) (tCall sp__law_cell_at [] E0 (tCons (tVar 0) (tCons (tC (.int 1)) tNil))) (tC (.int 5)))) (gName 2))
      (tSeq (tAsg (tCall sp__law_names [] E0 (tCons (tCall sp__law_cell_at [] E0 (tCons (tVar 0) (tCons (tC (.int 2)) tNil))) (tCons (tVar 2) tNil))) (gName 3))
      (tSeq (tAsg (G.tLC (iRng1 (tCons (tVar 2) tNil)) [0] G.tTrue (tOp (rI0 fun i j => .int (i + j)) (tC (.int 3)) (tOp (rI (fun _ j => 0 < j) fun i j => .int (i % j)) (tCall sp__law_mix [] E0 (tCons (tCall sp__law_cell_at [] E0 (tCons (tVar 1) (tCons (tC (.int 1)) tNil))) (tCons (tOp (rI0 fun i j => .int (i + j)) (tC (.int 48271)) (tOp (rI CMul fun i j => .int (i * j)) (tVar 0) (tVar 0))) tNil))) (tC (.int 7))))) (gName 4))
      (tSeq (tAsg (G.tLC (iRng1 (tCons (tVar 2) tNil)) [3, 4] G.tTrue (tTup (tCons (tOp (rIxL K) (tVar 1) (tVar 0)) (tCons (tOp (rIxL K) (tVar 2) (tVar 0)) tNil)))) (gName 5))
      (tSeq (tAsg (tCB (G.cListL K) (tCons (tVar 5) tNil)) (gName 6))
      (tSeq (tAsg (tMake C_World sp_World___init__ [] E0 (tCons (tVar 1) (tCons (tCall sp_kind_of [] E0 (tCons (tC (.str "each old")) tNil)) (tCons (tVar 6) tNil)))) (gName 7))
      (tSeq (tAsg (tMake C_World sp_World___init__ [] E0 (tCons (tVar 1) (tCons (tCall sp_kind_of [] E0 (tCons (tC (.str "first")) tNil)) (tCons (tVar 6) tNil)))) (gName 8))
      (tSeq (tIfS ((tOr (tNot (tB (tCall sp__law_new [] E0 (tCons (tVar 7) (tCons (tVar 5) (tCons (tVar 1) tNil)))))) (tNot (tB (tCall sp__law_same [] E0 (tCons (tVar 6) (tCons (tVar 5) tNil))))))) (tRet (tC (.bl false))) tNext)
      (tSeq (tAsg (tLst tNil) (gName 9))
      (tSeq (tAsg (G.tLC (iList K (tVar 4)) [] G.tTrue (tOp (rRep) (tLst (tCons (tC .non) tNil)) (tVar 0))) (gName 10))
      (tSeq (tAsg (tLst (tCons (tC (.int 0)) (tCons (tVar 1) (tCons (tC (.int 0)) tNil)))) (gName 11))
      (tSeq (tAsg (tLst tNil) (gName 12))
      (tSeq (tFor (iList K (tSl (rSlL K) (tVar 0) (tPart (tC (.int 3))) (tPart (tC (.int 40))))) (gName 13)
      (tSeq (tIfS (tNot (tB (tCall sp__law_turn [] E0 (tCons (tVar 7) (tCons (tVar 9) (tCons (tVar 10) (tCons (tVar 11) (tCons (tVar 13) tNil)))))))) (tRet (tC (.bl false))) tNext)
      (tSeq (tAsg (tOp (rI (fun _ j => 0 < j) fun i j => .int (i % j)) (tCall sp__law_mix [] E0 (tCons (tVar 13) (tCons (tC (.int 39373)) tNil))) (tC (.int 3))) (gName 14))
      (tSeq (tAsg (tCall sp__law_found [] E0 (tCons (tVar 7) (tCons (tVar 14) tNil))) (gName 15))
      (tSeq (tAsg (tCall sp__law_due [] E0 (tCons (tVar 9) (tCons (tVar 10) (tCons (tVar 14) tNil)))) (gName 16))
      (tSeq (tIfS (tNot (tB (tCall sp__law_same [] E0 (tCons (tVar 15) (tCons (tVar 16) tNil))))) (tRet (tC (.bl false))) tNext)
      (tSeq (tDrop (tBM K "list" rAppend (tVar 12) (tCons (tTup (tCons (tVar 15) (tCons (tVar 16) tNil))) tNil)))
      (tSeq (tAsg (tCall sp__law_found [] E0 (tCons (tVar 7) (tCons (tVar 14) tNil))) (gName 17))
      (tSeq (tDrop (tBM K "list" rAppend (tVar 17) (tCons (tC .non) tNil)))
      (tIfS (tTest (tOp (rI0 fun i j => .bl (decide (i < j))) (tVar 14) (tC (.int 2)))) (tDrop (tBM K "list" rAppend (tOp (rIxL K) (tVar 17) (tC (.int 0))) (tCons (tC (.int 5)) tNil))) tNext))))))))))
      (tSeq (tFor (iRng1 (tCons (tC (.int 3)) tNil)) (gName 14)
      (tIfS (tNot (tB (tCall sp__law_same [] E0 (tCons (tCall sp__law_found [] E0 (tCons (tVar 7) (tCons (tVar 14) tNil))) (tCons (tCall sp__law_due [] E0 (tCons (tVar 9) (tCons (tVar 10) (tCons (tVar 14) tNil)))) tNil))))) (tRet (tC (.bl false))) tNext))
      (tSeq (tFor (iList K (tVar 12)) (gTup K 2 (gCons (gName 15) (gCons (gName 16) gNil)))
      (tIfS (tNot (tB (tCall sp__law_same [] E0 (tCons (tVar 15) (tCons (tVar 16) tNil))))) (tRet (tC (.bl false))) tNext))
      (tRet ((tAndV (tCall sp__law_new [] E0 (tCons (tVar 8) (tCons (tVar 5) (tCons (tVar 1) tNil)))) (tCall sp__law_same [] E0 (tCons (tCall sp_told_cells [] E0 (tCons (tVar 8) tNil)) (tCons (tLst tNil) tNil)))))))))))))))))))))))
structure TxC (K : PySem.W.Frag) (C_Cell C_Heap : Addr) : Prop where
  cl_Cell : Cls K C_Cell
  n_Cell_birth : NoAttr K C_Cell "birth"
  n_Cell_bulk : NoAttr K C_Cell "bulk"
  n_Cell_tone : NoAttr K C_Cell "tone"
  n_Cell_load : NoAttr K C_Cell "load"
  n_Cell_fields : NoAttr K C_Cell "fields"
  cl_Heap : Cls K C_Heap
  n_Heap_room : NoAttr K C_Heap "room"
  n_Heap_cells : NoAttr K C_Heap "cells"
  n_Heap_used : NoAttr K C_Heap "used"
  n_Heap_born : NoAttr K C_Heap "born"
  eq_Cell : EqD K C_Cell
structure CellO (CC : Addr) (H : Hp) (p fa : Addr) (birth bulk tone load : Int) (fl : List V) : Prop where
  o : ∃ dx, H p = some (.ins CC dx (cellF birth bulk tone load fa))
  f : H fa = some (.lst fl)
structure HpO (CH : Addr) (H : Hp) (hp ca : Addr) (room used born : Int) (cs : List V) : Prop where
  o : ∃ dx, H hp = some (.ins CH dx (heapF room ca used born))
  c : H ca = some (.lst cs)
theorem cellF_ne_heapF {a b c d e f g : Int} {x y : Addr} : cellF a b c d x ≠ heapF e y f g := fun z => by
  have := congrArg List.length z
  cases this
def S_Cell_init (CC : Addr) : Sp := fun vs H Q E => ∃ p birth many bulk tone, vs = [.ref p, .int birth, .int many, .int bulk, .int tone] ∧ ∃ dx, H p = some (.ins CC dx []) ∧ 0 ≤ many ∧ many ≤ 1000 ∧
  ∀ fa H', H fa = none → H' p = some (.ins CC dx (cellF birth bulk tone 0 fa)) → H' fa = some (.lst (List.replicate many.toNat V.non)) → (∀ b o, H b = some o → b ≠ p → H' b = some o) → Q .non H'
def S_Cell_units (CC : Addr) : Sp := fun vs H Q E => ∃ p, vs = [.ref p] ∧ ∃ fa birth bulk tone load fl, CellO CC H p fa birth bulk tone load fl ∧ Q (.int (1 + fl.length + bulk)) H
def S_Heap_init (CH : Addr) : Sp := fun vs H Q E => ∃ p room, vs = [.ref p, .int room] ∧ ∃ dx, H p = some (.ins CH dx []) ∧
  ∀ ca H', H ca = none → H' p = some (.ins CH dx (heapF room ca 0 0)) → H' ca = some (.lst []) → (∀ b o, H b = some o → b ≠ p → H' b = some o) → Q .non H'
def S_Heap_free (CH : Addr) : Sp := fun vs H Q E => ∃ hp, vs = [.ref hp] ∧ ∃ ca room used born cs, HpO CH H hp ca room used born cs ∧ Q (.int (room - used)) H
def plc (cs : List V) : List Int := ((List.range cs.length).filter fun i => !decide (cs[i]? = some V.non)).map fun (i : Nat) => (i : Int)
def S_Heap_there (CH : Addr) : Sp := fun vs H Q E => ∃ hp, vs = [.ref hp] ∧ ∃ ca room used born cs, HpO CH H hp ca room used born cs ∧ cs.length ≤ 1000 ∧ ∀ l, H l = none → Q (.ref l) (upd H l (.lst ((plc cs).map V.int)))
def putN (cs : List V) (v : V) : List V := if V.non ∈ cs then cs.set (cs.idxOf V.non) v else cs ++ [v]
def S_Heap_lay (K : PySem.W.Frag) (CH : Addr) : Sp := fun vs H Q E => ∃ hp v, vs = [.ref hp, v] ∧ ∃ ca room used born cs, HpO CH H hp ca room used born cs ∧ OkN K H cs ∧ cs.length ≤ 1000 ∧ Q (.int (cs.idxOf V.non)) (upd H ca (.lst (putN cs v)))
def S_Heap_back (CC CH : Addr) : Sp := fun vs H Q E => ∃ hp i, vs = [.ref hp, .int i] ∧ ∃ ca dx room used born cs p fa birth bulk tone load fl, 0 ≤ i ∧ H hp = some (.ins CH dx (heapF room ca used born)) ∧ H ca = some (.lst cs) ∧ cs[i.toNat]? = some (.ref p) ∧ CellO CC H p fa birth bulk tone load fl ∧
  Q (.int birth) (upd (upd H hp (.ins CH dx (heapF room ca (used - (1 + fl.length + bulk)) born))) ca (.lst (cs.set i.toNat V.non)))
def S_Heap_make (K : PySem.W.Frag) (CC CH CF : Addr) : Sp := fun vs H Q E => ∃ hp many bulk tone, vs = [.ref hp, .int many, .int bulk, .int tone] ∧ ∃ ca dx room used born cs, H hp = some (.ins CH dx (heapF room ca used born)) ∧ H ca = some (.lst cs) ∧ OkN K H cs ∧ cs.length ≤ 1000 ∧ 0 ≤ many ∧ many ≤ 1000 ∧
  (room - used < 1 + many + bulk → ∀ H', Same H H' → E (.ref CF) none H') ∧
  (1 + many + bulk ≤ room - used → ∀ p fa H', H p = none → H fa = none → Fm [hp, ca] H H' → H' hp = some (.ins CH dx (heapF room ca (used + (1 + many + bulk)) (born + 1))) → H' ca = some (.lst (putN cs (.ref p))) →
    CellO CC H' p fa (born + 1) bulk tone 0 (List.replicate many.toNat V.non) → Q (.int (cs.idxOf V.non)) H')
section
variable {K : PySem.W.Frag} {C_Cell C_Heap C_Full : Addr} {H : Hp} {Q : VK} {E : XK} {n : St → Hp → Prop} {bk ct : St → Hp → Prop}
theorem Cell_units_rd {p : Addr} (T : TxC K C_Cell C_Heap) (q : ∃ fa birth bulk tone load fl, CellO C_Cell H p fa birth bulk tone load fl ∧ Q (.int (1 + fl.length + bulk)) H) : rd_Cell_units K ⟨n, Q, bk, ct⟩ [some (.ref p)] H := by
  obtain ⟨fa, birth, bulk, tone, load, fl, ⟨⟨dx, h1⟩, h2⟩, h⟩ := q
  unfold rd_Cell_units
  walk_at "ev"
  refine i_fldK h1 T.cl_Cell T.n_Cell_fields cellF_lk_fields ?_
  walk_at "ev"
  refine i_lenL (SqL.of h2) ?_
  walk_at "ev"
  refine i_fldK h1 T.cl_Cell T.n_Cell_bulk cellF_lk_bulk ?_
  walk_at "ev"
  exact h
theorem Cell___init___rd {p : Addr} {birth many bulk tone : Int} (T : TxC K C_Cell C_Heap) (q : ∃ dx, H p = some (.ins C_Cell dx []) ∧ 0 ≤ many ∧ many ≤ 1000 ∧
  ∀ fa H', H fa = none → H' p = some (.ins C_Cell dx (cellF birth bulk tone 0 fa)) → H' fa = some (.lst (List.replicate many.toNat V.non)) → (∀ b o, H b = some o → b ≠ p → H' b = some o) → Q .non H') :
    rd_Cell___init__ K ⟨fun _ H' => Q .non H', Q, bk, ct⟩ [some (.ref p), some (.int birth), some (.int many), some (.int bulk), some (.int tone)] H := by
  obtain ⟨dx, hp, h0, h1, h⟩ := q
  unfold rd_Cell___init__
  walk_at "ev"
  refine ⟨p, C_Cell, dx, [], rfl, hp, T.cl_Cell, T.n_Cell_birth, by decide, ?_⟩
  walk_at "ev"
  refine ⟨p, C_Cell, dx, _, rfl, upd_same, T.cl_Cell, T.n_Cell_bulk, by show 1 < 1000; decide, ?_⟩
  rw [upd_upd]
  walk_at "ev"
  refine ⟨p, C_Cell, dx, _, rfl, upd_same, T.cl_Cell, T.n_Cell_tone, by show 2 < 1000; decide, ?_⟩
  rw [upd_upd]
  walk_at "ev"
  refine ⟨p, C_Cell, dx, _, rfl, upd_same, T.cl_Cell, T.n_Cell_load, by show 3 < 1000; decide, ?_⟩
  rw [upd_upd]
  walk_at "ev"
  refine ⟨by decide, fun l0 hl0 => ?_⟩
  walk_at "ev"
  refine ⟨l0, many, _, rfl, rfl, upd_same, by omega, by omega, ?_, fun fa hfa => ?_⟩
  · show 1 * many.toNat ≤ sizeLine
    exact len_ok (by omega)
  have npl : p ≠ l0 := ne_of_none upd_same hl0
  have npf : p ≠ fa := ne_of_none ((upd_ne npl).trans upd_same) hfa
  walk_at "ev"
  refine ⟨p, C_Cell, dx, _, rfl, (upd_ne npf).trans ((upd_ne npl).trans upd_same), T.cl_Cell, T.n_Cell_fields, by show 4 < 1000; decide, ?_⟩
  have nfa : H fa = none := by
    have e := hfa
    have n1 : fa ≠ l0 := fun z => by rw [z, upd_same] at e; cases e
    rw [upd_ne n1, upd_ne npf.symm] at e
    exact e
  refine h fa _ nfa (upd_same.trans (congrArg (fun l => some (HO.ins C_Cell dx l)) cellF_mk)) ?_ fun b o hb hne => ?_
  · rw [upd_ne npf.symm, upd_same]
    have e : (List.replicate many.toNat [V.non]).flatten = List.replicate many.toNat V.non := by
      generalize many.toNat = k
      induction k with
      | zero => rfl
      | succ k ih => rw [List.replicate_succ, List.replicate_succ, List.flatten_cons, ih]; rfl
    rw [e]
  · have e1 : upd H p (HO.ins C_Cell dx (putF "load" (V.int 0) (putF "tone" (V.int tone) (putF "bulk" (V.int bulk) (putF "birth" (V.int birth) []))))) b = some o := (upd_ne hne).trans hb
    have n1 : b ≠ l0 := ne_of_none e1 hl0
    have n2 : b ≠ fa := ne_of_none ((upd_ne n1).trans e1) hfa
    rw [upd_ne hne, upd_ne n2, upd_ne n1]
    exact e1
theorem Heap___init___rd {p : Addr} {room : Int} (T : TxC K C_Cell C_Heap) (q : ∃ dx, H p = some (.ins C_Heap dx []) ∧
  ∀ ca H', H ca = none → H' p = some (.ins C_Heap dx (heapF room ca 0 0)) → H' ca = some (.lst []) → (∀ b o, H b = some o → b ≠ p → H' b = some o) → Q .non H') :
    rd_Heap___init__ K ⟨fun _ H' => Q .non H', Q, bk, ct⟩ [some (.ref p), some (.int room)] H := by
  obtain ⟨dx, hp, h⟩ := q
  unfold rd_Heap___init__
  walk_at "ev"
  refine ⟨p, C_Heap, dx, [], rfl, hp, T.cl_Heap, T.n_Heap_room, by decide, ?_⟩
  walk_at "ev"
  refine ⟨by decide, fun ca hca => ?_⟩
  walk_at "ev"
  have npc : p ≠ ca := ne_of_none upd_same hca
  refine ⟨p, C_Heap, dx, _, rfl, (upd_ne npc).trans upd_same, T.cl_Heap, T.n_Heap_cells, by show 1 < 1000; decide, ?_⟩
  walk_at "ev"
  refine ⟨p, C_Heap, dx, _, rfl, upd_same, T.cl_Heap, T.n_Heap_used, by show 2 < 1000; decide, ?_⟩
  rw [upd_upd]
  walk_at "ev"
  refine ⟨p, C_Heap, dx, _, rfl, upd_same, T.cl_Heap, T.n_Heap_born, by show 3 < 1000; decide, ?_⟩
  rw [upd_upd]
  have nca : H ca = none := by
    have e := hca
    rw [upd_ne npc.symm] at e
    exact e
  refine h ca _ nca (upd_same.trans (congrArg (fun l => some (HO.ins C_Heap dx l)) heapF_mk)) ?_ fun b o hb hne => ?_
  · rw [upd_ne npc.symm, upd_same]
  · rw [upd_ne hne, upd_ne (ne_of_none ((upd_ne hne).trans hb) hca), upd_ne hne]; exact hb
theorem Heap_free_rd {hp : Addr} (T : TxC K C_Cell C_Heap) (q : ∃ ca room used born cs, HpO C_Heap H hp ca room used born cs ∧ Q (.int (room - used)) H) : rd_Heap_free K ⟨n, Q, bk, ct⟩ [some (.ref hp)] H := by
  obtain ⟨ca, room, used, born, cs, ⟨⟨dx, h1⟩, h2⟩, h⟩ := q
  unfold rd_Heap_free
  walk_at "ev"
  refine i_fldK h1 T.cl_Heap T.n_Heap_room heapF_lk_room ?_
  walk_at "ev"
  refine i_fldK h1 T.cl_Heap T.n_Heap_used heapF_lk_used ?_
  walk_at "ev"
  exact h
theorem Heap_there_rd {hp : Addr} (T : TxC K C_Cell C_Heap) (q : ∃ ca room used born cs, HpO C_Heap H hp ca room used born cs ∧ cs.length ≤ 1000 ∧ ∀ l, H l = none → Q (.ref l) (upd H l (.lst ((plc cs).map V.int)))) : rd_Heap_there K ⟨n, Q, bk, ct⟩ [some (.ref hp)] H := by
  obtain ⟨ca, room, used, born, cs, ⟨⟨dx, h1⟩, h2⟩, hl, h⟩ := q
  unfold rd_Heap_there
  walk_at "ev"
  refine i_lcg ?_
  walk_at "ev"
  refine i_fldK h1 T.cl_Heap T.n_Heap_cells heapF_lk_cells ?_
  walk_at "ev"
  refine i_lenL (SqL.of h2) ?_
  walk_at "ev"
  refine ⟨_, rfl, by omega, by omega, ?_⟩
  refine lc_range (n := cs.length) (by omega) (p := fun i => !decide (cs[i]? = some V.non)) (f := fun i => .int i) (by omega) ?_ ?_ ?_
  · intro i hi k hk
    walk_at "caps"
    walk_at "ev"
    refine i_fldK h1 T.cl_Heap T.n_Heap_cells heapF_lk_cells ?_
    walk_at "ev"
    refine i_ixL (SqL.of h2) (atI_nat (List.getElem?_eq_getElem hi)) ?_
    walk_at "ev"
    refine i_notN ?_
    rw [List.getElem?_eq_getElem hi] at hk
    walk_at "ev"
    simpa using hk
  · intro i hi _ k hk
    walk_at "caps"
    walk_at "ev"
    exact hk
  · have e : ((plc cs).map V.int) = ((List.range cs.length).filter fun i => !decide (cs[i]? = some V.non)).map fun (i : Nat) => V.int i := by
      unfold plc
      rw [List.map_map]; rfl
    rw [← e]
    exact h
theorem Heap_lay_rd {hp : Addr} {v : V} (T : TxC K C_Cell C_Heap) (q : ∃ ca room used born cs, HpO C_Heap H hp ca room used born cs ∧ OkN K H cs ∧ cs.length ≤ 1000 ∧ Q (.int (cs.idxOf V.non)) (upd H ca (.lst (putN cs v)))) : rd_Heap_lay K ⟨n, Q, bk, ct⟩ [some (.ref hp), some v, none] H := by
  obtain ⟨ca, room, used, born, cs, ⟨⟨dx, h1⟩, h2⟩, ho, hl, h⟩ := q
  unfold rd_Heap_lay
  walk_at "ev"
  refine i_fldK h1 T.cl_Heap T.n_Heap_cells heapF_lk_cells ?_
  walk_at "ev"
  refine i_notInN (SqL.of h2) ho ?_
  walk_at "ev"
  refine ifnd (fun hn => ?_) (fun hn => ?_)
  · walk_at "ev"
    refine i_fldK h1 T.cl_Heap T.n_Heap_cells heapF_lk_cells ?_
    refine ⟨.inl ⟨rfl, _, SqL.of h2⟩, ?_⟩
    walk_at "ev"
    refine ⟨ca, cs, v, rfl, rfl, h2, Nat.lt_of_le_of_lt hl (by decide), ?_⟩
    walk_at "ev"
    have hne : hp ≠ ca := ne_of h1 h2 (fun z => by cases z)
    refine i_fldK ((upd_ne hne).trans h1) T.cl_Heap T.n_Heap_cells heapF_lk_cells ?_
    walk_at "ev"
    refine i_lenL (SqL.of upd_same) ?_
    walk_at "ev"
    have e1 : (((cs ++ [v]).length : Int) - 1) = (cs.idxOf V.non : Nat) := by
      rw [List.length_append, List.idxOf_eq_length hn]
      simp
    have e2 : putN cs v = cs ++ [v] := by unfold putN; rw [if_neg hn]
    rw [e1, ← e2]
    exact h
  · walk_at "ev"
    refine i_fldK h1 T.cl_Heap T.n_Heap_cells heapF_lk_cells ?_
    refine ⟨.inl ⟨rfl, _, SqL.of h2⟩, ?_⟩
    walk_at "ev"
    refine ⟨ca, cs, rfl, rfl, SqL.of h2, ho, hn, ?_⟩
    walk_at "ev"
    refine i_fldK h1 T.cl_Heap T.n_Heap_cells heapF_lk_cells ?_
    walk_at "ev"
    have hi : cs.idxOf V.non < cs.length := List.idxOf_lt_length_iff.mpr hn
    refine ⟨ca, cs, _, _, rfl, rfl, h2, ixN_nat hi, ?_⟩
    have e2 : putN cs v = cs.set (cs.idxOf V.non) v := by unfold putN; rw [if_pos hn]
    rw [← e2]
    walk_at "ev"
    exact h
theorem Heap_back_rd {hp : Addr} {i : Int} (T : TxC K C_Cell C_Heap) (q : ∃ ca dx room used born cs p fa birth bulk tone load fl, 0 ≤ i ∧ H hp = some (.ins C_Heap dx (heapF room ca used born)) ∧ H ca = some (.lst cs) ∧ cs[i.toNat]? = some (.ref p) ∧ CellO C_Cell H p fa birth bulk tone load fl ∧
  Q (.int birth) (upd (upd H hp (.ins C_Heap dx (heapF room ca (used - (1 + fl.length + bulk)) born))) ca (.lst (cs.set i.toNat V.non)))) : rd_Heap_back K C_Cell (S_Cell_units C_Cell) ⟨n, Q, bk, ct⟩ [some (.ref hp), some (.int i), none] H := by
  obtain ⟨ca, dx, room, used, born, cs, p, fa, birth, bulk, tone, load, fl, h0, h1, h2, hi, co, h⟩ := q
  obtain ⟨⟨dp, c1⟩, c2⟩ := id co
  unfold rd_Heap_back
  walk_at "ev"
  refine i_fldK h1 T.cl_Heap T.n_Heap_cells heapF_lk_cells ?_
  walk_at "ev"
  refine i_ixL (SqL.of h2) (atI_int h0 hi) ?_
  walk_at "ev"
  refine i_fldK h1 T.cl_Heap T.n_Heap_used heapF_lk_used ?_
  walk_at "ev"
  refine ⟨p, dp, _, rfl, c1, cellF_no_units, ?_⟩
  walk_at "ev"
  refine ⟨p, rfl, fa, birth, bulk, tone, load, fl, co, ?_⟩
  walk_at "ev"
  refine ⟨hp, C_Heap, dx, _, rfl, h1, T.cl_Heap, T.n_Heap_used, by show 4 < 1000; decide, ?_⟩
  rw [heapF_put_used]
  have hne : hp ≠ ca := ne_of h1 h2 (fun z => by cases z)
  walk_at "ev"
  refine i_fldK upd_same T.cl_Heap T.n_Heap_cells heapF_lk_cells ?_
  walk_at "ev"
  have hlt : i.toNat < cs.length := (List.getElem?_eq_some_iff.mp hi).1
  refine ⟨ca, cs, _, _, rfl, rfl, (upd_ne hne.symm).trans h2, ixN_int h0 hlt, ?_⟩
  walk_at "ev"
  refine i_fldK (C := C_Cell) (a := p) (dx := dp) (fs := cellF birth bulk tone load fa) ?_ T.cl_Cell T.n_Cell_birth cellF_lk_birth ?_
  · have n1 : p ≠ ca := ne_of c1 h2 (fun z => by cases z)
    have n2 : p ≠ hp := ne_of c1 h1 (fun z => by injection z with _ _ z; exact cellF_ne_heapF z)
    rw [upd_ne n1, upd_ne n2]
    exact c1
  exact h
theorem Heap_make_rd {hp : Addr} {many bulk tone : Int} (T : TxC K C_Cell C_Heap) (q : ∃ ca dx room used born cs, H hp = some (.ins C_Heap dx (heapF room ca used born)) ∧ H ca = some (.lst cs) ∧ OkN K H cs ∧ cs.length ≤ 1000 ∧ 0 ≤ many ∧ many ≤ 1000 ∧
  (room - used < 1 + many + bulk → ∀ H', Same H H' → E (.ref C_Full) none H') ∧
  (1 + many + bulk ≤ room - used → ∀ p fa H', H p = none → H fa = none → Fm [hp, ca] H H' → H' hp = some (.ins C_Heap dx (heapF room ca (used + (1 + many + bulk)) (born + 1))) → H' ca = some (.lst (putN cs (.ref p))) →
    CellO C_Cell H' p fa (born + 1) bulk tone 0 (List.replicate many.toNat V.non) → Q (.int (cs.idxOf V.non)) H')) :
    rd_Heap_make K C_Cell C_Full C_Heap (S_Cell_init C_Cell) (S_Cell_units C_Cell) (S_Heap_free C_Heap) (S_Heap_lay K C_Heap) E ⟨n, Q, bk, ct⟩ [some (.ref hp), some (.int many), some (.int bulk), some (.int tone), none] H := by
  obtain ⟨ca, dx, room, used, born, cs, h1, h2, ho, hl, m0, m1, hE, hQ⟩ := q
  have hne : hp ≠ ca := ne_of h1 h2 (fun z => by cases z)
  unfold rd_Heap_make
  walk_at "ev"
  refine i_fldK h1 T.cl_Heap T.n_Heap_born heapF_lk_born ?_
  walk_at "ev"
  intro p dp np ndp ned
  refine ⟨p, _, many, _, _, rfl, dp, upd_same, m0, m1, fun fa H1 nfa c1 c2 f3 => ⟨rfl, ?_⟩⟩
  have nfa' : H fa = none := by
    have e := nfa
    by_cases z1 : fa = p
    · rw [z1, upd_same] at e; cases e
    · rw [upd_ne z1] at e
      by_cases z2 : fa = dp
      · rw [z2, upd_same] at e; cases e
      · rw [upd_ne z2] at e; exact e
  have sm : Same H H1 := fun b o hb => by
    refine f3 b o ?_ (ne_of_none hb np)
    rw [upd_ne (ne_of_none hb np), upd_ne (ne_of_none hb ndp)]
    exact hb
  have co : CellO C_Cell H1 p fa (born + 1) bulk tone 0 (List.replicate many.toNat V.non) := ⟨⟨dp, c1⟩, c2⟩
  have el : ((List.replicate many.toNat V.non).length : Int) = many := by rw [List.length_replicate]; omega
  walk_at "ev"
  refine ⟨p, dp, _, rfl, c1, cellF_no_units, ?_⟩
  walk_at "ev"
  refine ⟨p, rfl, fa, _, _, _, _, _, co, ?_⟩
  walk_at "ev"
  refine ⟨hp, dx, _, rfl, sm _ _ h1, heapF_no_free, ?_⟩
  walk_at "ev"
  refine ⟨hp, rfl, ca, room, used, born, cs, ⟨⟨dx, sm _ _ h1⟩, sm _ _ h2⟩, ?_⟩
  walk_at "ev"
  rw [el]
  refine ifd (fun hf => ?_) (fun hf => ?_)
  · walk_at "ev"
    exact ⟨by decide, hE hf H1 sm⟩
  · walk_at "ev"
    refine i_fldK c1 T.cl_Cell T.n_Cell_birth cellF_lk_birth ?_
    walk_at "ev"
    refine ⟨hp, C_Heap, dx, _, rfl, sm _ _ h1, T.cl_Heap, T.n_Heap_born, by show 4 < 1000; decide, ?_⟩
    rw [heapF_put_born]
    walk_at "ev"
    refine i_fldK upd_same T.cl_Heap T.n_Heap_used heapF_lk_used ?_
    walk_at "ev"
    have n1 : p ≠ hp := (ne_of_none h1 np).symm
    have n2 : fa ≠ hp := (ne_of_none h1 nfa').symm
    have n3 : p ≠ ca := (ne_of_none h2 np).symm
    have n4 : fa ≠ ca := (ne_of_none h2 nfa').symm
    refine ⟨p, dp, _, rfl, (upd_ne n1).trans c1, cellF_no_units, ?_⟩
    walk_at "ev"
    refine ⟨p, rfl, fa, _, _, _, _, _, ⟨⟨dp, (upd_ne n1).trans c1⟩, (upd_ne n2).trans c2⟩, ?_⟩
    walk_at "ev"
    rw [el]
    refine ⟨hp, C_Heap, dx, _, rfl, upd_same, T.cl_Heap, T.n_Heap_used, by show 4 < 1000; decide, ?_⟩
    rw [heapF_put_used, upd_upd]
    walk_at "ev"
    refine ⟨hp, dx, _, rfl, upd_same, heapF_no_lay, ?_⟩
    walk_at "ev"
    refine ⟨hp, .ref p, rfl, ca, room, _, _, cs, ⟨⟨dx, upd_same⟩, (upd_ne hne.symm).trans (sm _ _ h2)⟩, ?_, hl, ?_⟩
    · intro y hy
      rcases ho y hy with e | ⟨a, C, d, fs, e, ha, hc, he⟩
      · exact .inl e
      · refine .inr ?_
        by_cases z : a = hp
        · rw [z] at ha e
          rw [h1] at ha; cases ha
          exact ⟨hp, _, _, _, e, upd_same, hc, he⟩
        · exact ⟨a, C, d, fs, e, (upd_ne z).trans (sm _ _ ha), hc, he⟩
    · refine hQ (by omega) p fa _ np nfa' ?_ ((upd_ne hne).trans upd_same) upd_same ⟨⟨dp, ?_⟩, ?_⟩
      · intro b o hb hn
        have b1 : b ≠ hp := fun z => hn (by rw [z]; exact List.mem_cons_self)
        have b2 : b ≠ ca := fun z => hn (by rw [z]; exact List.mem_cons_of_mem _ List.mem_cons_self)
        rw [upd_ne b2, upd_ne b1]
        exact sm _ _ hb
      · rw [upd_ne n3, upd_ne n1]; exact c1
      · rw [upd_ne n4, upd_ne n2]; exact c2
end
structure Ce where
  birth : Int
  bulk : Int
  tone : Int
  load : Int
  fl : List (Option Int)
  deriving DecidableEq
structure Sw where
  sense : Int
  phase : Str
  grey : List Int
  looked : Int
  turn : Int
  at' : Int
  stop : Int
  walks : Int
  looks : Int
  passes : Int
  loss : V
structure Wm where
  room : Int
  used : Int
  born : Int
  cells : List (Option Ce)
  hands : List (Str × List (Option Int))
  names : List (Str × (Int × Int))
  w : Int
  tells : Int
  sw : Sw
structure Wa where
  wo : Addr
  hp : Addr
  ca : Addr
  ki : Addr
  lk : Addr
  hl : Addr
  nm : Addr
  sw : Addr
  gr : Addr
  hs : List (Addr × Addr)
  cs : List (Option (Addr × Addr))
  ns : List Addr
def oV : Option Int → V
  | none => .non
  | some i => .int i
def pV : Option (Addr × Addr) → V
  | none => .non
  | some p => .ref p.1
structure Frm (s : Nat) (t0 : Nat → Prop) (H H' : Hp) (T T' : Tg) : Prop where
  kp : ∀ b o, H b = some o → (T b).1 = s → ¬ t0 (T b).2 → H' b = some o
  tg : ∀ b o, H b = some o → T' b = T b
section
variable {CHd CC : Addr} {H H' : Hp} {T T' : Tg} {s j i : Nat} {t0 : Nat → Prop}
theorem Frm.at {a : Addr} {o : HO} {m : Nat} (f : Frm s t0 H H' T T') (ht : T a = (s, m)) (n : ¬ t0 m) (h : H a = some o) : H' a = some o := f.kp a o h (by rw [ht]) (by rw [ht]; exact n)
theorem Frm.tag {a : Addr} {o : HO} {x : Nat × Nat} (f : Frm s t0 H H' T T') (h : H a = some o) (ht : T a = x) : T' a = x := (f.tg a o h).trans ht
theorem Frm.of_upd {a : Addr} {o : HO} {m : Nat} (ht : T a = (s, m)) : Frm s (· = m) H (upd H a o) T T := ⟨fun b u h e n => by
    have : b ≠ a := fun z => n (by rw [z, ht])
    rw [upd_ne this]; exact h, fun _ _ _ => rfl⟩
theorem Frm.of_same (e : Same H H') : Frm s (fun _ => False) H H' T T := ⟨fun b o h _ _ => e b o h, fun _ _ _ => rfl⟩
theorem Frm.of_other {s' : Nat} (e : Stp s' H H' T T') (n : s ≠ s') : Frm s (fun _ => False) H H' T T' := ⟨fun b o h z _ => e.kp b o h (by rw [z]; exact n), e.tg⟩
structure HdO (CHd : Addr) (H : Hp) (T : Tg) (s j : Nat) (p : Addr × Addr) (m : Str × List (Option Int)) : Prop where
  t1 : T p.1 = (s, 20 + 2 * j)
  t2 : T p.2 = (s, 21 + 2 * j)
  o1 : ∃ dx, H p.1 = some (.ins CHd dx (handF m.1 p.2))
  o2 : H p.2 = some (.lst (m.2.map oV))
theorem HdO.mv {p : Addr × Addr} {m : Str × List (Option Int)} (h : HdO CHd H T s j p m) (f : Frm s t0 H H' T T') (n1 : ¬ t0 (20 + 2 * j)) (n2 : ¬ t0 (21 + 2 * j)) : HdO CHd H' T' s j p m := by
  obtain ⟨a1, a2, ⟨dx, b1⟩, b2⟩ := h
  exact ⟨f.tag b1 a1, f.tag b2 a2, ⟨dx, f.at a1 n1 b1⟩, f.at a2 n2 b2⟩
structure CeO (CC : Addr) (H : Hp) (T : Tg) (s i : Nat) (p : Addr × Addr) (c : Ce) : Prop where
  t1 : T p.1 = (s, 100 + 2 * i)
  t2 : T p.2 = (s, 101 + 2 * i)
  o1 : ∃ dx, H p.1 = some (.ins CC dx (cellF c.birth c.bulk c.tone c.load p.2))
  o2 : H p.2 = some (.lst (c.fl.map oV))
theorem CeO.mv {p : Addr × Addr} {c : Ce} (h : CeO CC H T s i p c) (f : Frm s t0 H H' T T') (n1 : ¬ t0 (100 + 2 * i)) (n2 : ¬ t0 (101 + 2 * i)) : CeO CC H' T' s i p c := by
  obtain ⟨a1, a2, ⟨dx, b1⟩, b2⟩ := h
  exact ⟨f.tag b1 a1, f.tag b2 a2, ⟨dx, f.at a1 n1 b1⟩, f.at a2 n2 b2⟩
def CeP (CC : Addr) (H : Hp) (T : Tg) (s i : Nat) : Option (Addr × Addr) → Option Ce → Prop
  | none, none => True
  | some p, some c => CeO CC H T s i p c
  | _, _ => False
theorem CeP.mv {p : Option (Addr × Addr)} {c : Option Ce} (h : CeP CC H T s i p c) (f : Frm s t0 H H' T T') (n1 : ¬ t0 (100 + 2 * i)) (n2 : ¬ t0 (101 + 2 * i)) : CeP CC H' T' s i p c := by
  cases p with
  | none => cases c with
    | none => trivial
    | some c => exact h.elim
  | some p => cases c with
    | none => exact h.elim
    | some c => exact CeO.mv h f n1 n2
end
def NmO (H : Hp) (T : Tg) (t : Addr) (m : Str × (Int × Int)) : Prop := T t = (0, 0) ∧ H t = some (.tup [.int m.2.1, .int m.2.2])
structure Cs where
  W : Addr
  H : Addr
  C : Addr
  K : Addr
  D : Addr
  S : Addr
  F : Addr
  E : Addr
  L : Addr
structure WB (X : Cs) (H : Hp) (T : Tg) (s : Nat) (A : Wa) (w tells : Int) : Prop where
  tw : T A.wo = (s, 0)
  tk : T A.ki = (0, 0)
  tl : T A.lk = (0, 0)
  tn : T A.hl = (s, 5)
  ow : ∃ dx, H A.wo = some (.ins X.W dx (worldF A.hp A.ki A.hl A.nm A.sw))
  ok : ∃ dx, H A.ki = some (.ins X.K dx (kindF A.lk tells))
  ol : ∃ dx, (w = 0 ∧ H A.lk = some (.ins X.F dx [])) ∨ (w = 1 ∧ H A.lk = some (.ins X.E dx [])) ∨ (w = 2 ∧ H A.lk = some (.ins X.L dx []))
  on : H A.hl = some (.lst (A.hs.map fun p => V.ref p.1))
structure WH (X : Cs) (H : Hp) (T : Tg) (s : Nat) (A : Wa) (room used born : Int) : Prop where
  th : T A.hp = (s, 1)
  tc : T A.ca = (s, 2)
  oh : ∃ dx, H A.hp = some (.ins X.H dx (heapF room A.ca used born))
  oc : H A.ca = some (.lst (A.cs.map pV))
def nmK (M : List (Str × (Int × Int))) (ns : List Addr) : List ((Int ⊕ Str) × V) := List.zipWith (fun (m : Str × (Int × Int)) (t : Addr) => (Sum.inr m.1, V.ref t)) M ns
structure WN (H : Hp) (T : Tg) (s : Nat) (A : Wa) (names : List (Str × (Int × Int))) : Prop where
  tm : T A.nm = (s, 6)
  om : H A.nm = some (.dK (nmK names A.ns))
  nms : Al (NmO H T) A.ns names
structure WS (X : Cs) (H : Hp) (T : Tg) (s : Nat) (A : Wa) (S : Sw) : Prop where
  ts : T A.sw = (s, 7)
  tg : T A.gr = (s, 8)
  os : ∃ dx, H A.sw = some (.ins X.S dx (sweepF S.sense S.phase A.gr S.looked S.turn S.at' S.stop S.walks S.looks S.passes S.loss))
  og : H A.gr = some (.lst (S.grey.map V.int))
structure WD (X : Cs) (H : Hp) (T : Tg) (s : Nat) (hs : List (Addr × Addr)) (hands : List (Str × List (Option Int))) : Prop where
  lh : hs.length = hands.length
  l5 : hs.length ≤ 30
  hd : ∀ (j : Nat) p m, hs[j]? = some p → hands[j]? = some m → HdO X.D H T s j p m
structure WC (X : Cs) (H : Hp) (T : Tg) (s : Nat) (cs : List (Option (Addr × Addr))) (cells : List (Option Ce)) : Prop where
  lc : cs.length = cells.length
  ce : ∀ (i : Nat) p c, cs[i]? = some p → cells[i]? = some c → CeP X.C H T s i p c
structure WJ (X : Cs) (H : Hp) (T : Tg) (s : Nat) (A : Wa) (M : Wm) : Prop where
  jb : WB X H T s A M.w M.tells
  jh : WH X H T s A M.room M.used M.born
  jn : WN H T s A M.names
  js : WS X H T s A M.sw
  jd : WD X H T s A.hs M.hands
  jc : WC X H T s A.cs M.cells
section
variable {X : Cs} {H H' : Hp} {T T' : Tg} {s : Nat} {t0 : Nat → Prop} {A : Wa} {M : Wm}
theorem WB.mv {w tells : Int} (j : WB X H T s A w tells) (f : Frm s t0 H H' T T') (f0 : ∀ b o, H b = some o → T b = (0, 0) → H' b = some o) (n0 : ¬ t0 0) (n5 : ¬ t0 5) : WB X H' T' s A w tells := by
  obtain ⟨tw, tk, tl, tn, ⟨d1, ow⟩, ⟨d3, ok⟩, ⟨d4, ol⟩, on⟩ := j
  have hlk : ∃ o, H A.lk = some o := by
    rcases ol with ⟨_, e⟩ | ⟨_, e⟩ | ⟨_, e⟩
    · exact ⟨_, e⟩
    · exact ⟨_, e⟩
    · exact ⟨_, e⟩
  obtain ⟨olk, elk⟩ := hlk
  refine ⟨f.tag ow tw, f.tag ok tk, f.tag elk tl, f.tag on tn, ⟨d1, f.at tw n0 ow⟩, ⟨d3, f0 _ _ ok tk⟩, ⟨d4, ?_⟩, f.at tn n5 on⟩
  rcases ol with ⟨z, e⟩ | ⟨z, e⟩ | ⟨z, e⟩
  · exact .inl ⟨z, f0 _ _ e tl⟩
  · exact .inr (.inl ⟨z, f0 _ _ e tl⟩)
  · exact .inr (.inr ⟨z, f0 _ _ e tl⟩)
theorem WH.mv {room used born : Int} (j : WH X H T s A room used born) (f : Frm s t0 H H' T T') (n1 : ¬ t0 1) (n2 : ¬ t0 2) : WH X H' T' s A room used born := by
  obtain ⟨th, tc, ⟨d, oh⟩, oc⟩ := j
  exact ⟨f.tag oh th, f.tag oc tc, ⟨d, f.at th n1 oh⟩, f.at tc n2 oc⟩
theorem WN.mv {names : List (Str × (Int × Int))} (j : WN H T s A names) (f : Frm s t0 H H' T T') (f0 : ∀ b o, H b = some o → T b = (0, 0) → H' b = some o) (n6 : ¬ t0 6) : WN H' T' s A names := by
  obtain ⟨tm, om, nms⟩ := j
  exact ⟨f.tag om tm, f.at tm n6 om, nms.mono fun t m ⟨z1, z2⟩ => ⟨f.tag z2 z1, f0 _ _ z2 z1⟩⟩
theorem WS.mv {S : Sw} (j : WS X H T s A S) (f : Frm s t0 H H' T T') (n7 : ¬ t0 7) (n8 : ¬ t0 8) : WS X H' T' s A S := by
  obtain ⟨ts, tg, ⟨d, os⟩, og⟩ := j
  exact ⟨f.tag os ts, f.tag og tg, ⟨d, f.at ts n7 os⟩, f.at tg n8 og⟩
theorem WD.mv {hs : List (Addr × Addr)} {hands : List (Str × List (Option Int))} (j : WD X H T s hs hands) (f : Frm s t0 H H' T T') (n : ∀ k, 20 ≤ k → k < 100 → ¬ t0 k) : WD X H' T' s hs hands := by
  obtain ⟨lh, l5, hd⟩ := j
  refine ⟨lh, l5, fun j p m e1 e2 => ?_⟩
  have hl : j < hs.length := (List.getElem?_eq_some_iff.mp e1).1
  exact (hd j p m e1 e2).mv f (n _ (by omega) (by omega)) (n _ (by omega) (by omega))
theorem WC.mv {cs : List (Option (Addr × Addr))} {cells : List (Option Ce)} (j : WC X H T s cs cells) (f : Frm s t0 H H' T T') (n : ∀ k, 100 ≤ k → ¬ t0 k) : WC X H' T' s cs cells := by
  obtain ⟨lc, ce⟩ := j
  exact ⟨lc, fun i p c e1 e2 => (ce i p c e1 e2).mv f (n _ (by omega)) (n _ (by omega))⟩
theorem WJ.mv (j : WJ X H T s A M) (f : Frm s (fun _ => False) H H' T T') (f0 : ∀ b o, H b = some o → T b = (0, 0) → H' b = some o) : WJ X H' T' s A M :=
  ⟨j.jb.mv f f0 id id, j.jh.mv f id id, j.jn.mv f f0 id, j.js.mv f id id, j.jd.mv f fun _ _ _ => id, j.jc.mv f fun _ _ => id⟩
theorem WJ.same (j : WJ X H T s A M) (e : Same H H') : WJ X H' T s A M := j.mv (Frm.of_same e) fun b o h _ => e b o h
theorem WJ.other {s' : Nat} (j : WJ X H T s A M) (e : Stp s' H H' T T') (n : s ≠ s') (n0 : s' ≠ 0) : WJ X H' T' s A M := j.mv (Frm.of_other e n) fun b o h t => e.kp b o h (by rw [t]; exact fun z => n0 z.symm)
theorem f0_upd {a : Addr} {o' : HO} {m : Nat} (h0 : s ≠ 0) (ta : T a = (s, m)) : ∀ b o, H b = some o → T b = (0, 0) → upd H a o' b = some o := fun b o e t => by
  rw [upd_ne (ne_tag t ta (fun z => h0 (congrArg Prod.fst z).symm))]; exact e
theorem WJ.slot (j : WJ X H T s A M) (w : WT H T) (h0 : s ≠ 0) {h k : Nat} {p : Addr × Addr} {m : Str × List (Option Int)} {x : Option Int} (hp : A.hs[h]? = some p) (hm : M.hands[h]? = some m) :
    Stp s H (upd H p.2 (.lst ((m.2.map oV).set k (oV x)))) T T ∧ WJ X (upd H p.2 (.lst ((m.2.map oV).set k (oV x)))) T s A { M with hands := M.hands.set h (m.1, m.2.set k x) } := by
  have hl := j.jd.l5
  have hh : h < A.hs.length := (List.getElem?_eq_some_iff.mp hp).1
  have hh' : h < M.hands.length := (List.getElem?_eq_some_iff.mp hm).1
  have d := j.jd.hd h p m hp hm
  refine ⟨Stp.upd w d.o2 (by rw [d.t2]), ?_⟩
  have f : Frm s (· = 21 + 2 * h) H (upd H p.2 (.lst ((m.2.map oV).set k (oV x)))) T T := Frm.of_upd d.t2
  have b2 : upd H p.2 (.lst ((m.2.map oV).set k (oV x))) p.2 = some (.lst ((m.2.set k x).map oV)) := by rw [upd_same, List.map_set]
  refine ⟨j.jb.mv f (f0_upd h0 d.t2) (by omega) (by omega), j.jh.mv f (by omega) (by omega), j.jn.mv f (f0_upd h0 d.t2) (by omega), j.js.mv f (by omega) (by omega), ⟨by rw [List.length_set]; exact j.jd.lh, hl, fun j' p' m' e1 e2 => ?_⟩, j.jc.mv f fun _ _ => by omega⟩
  by_cases hj : j' = h
  · subst hj
    dsimp only at e2
    rw [List.getElem?_set_self hh'] at e2
    rw [hp] at e1
    cases e1
    cases e2
    obtain ⟨dd, o1⟩ := d.o1
    exact ⟨d.t1, d.t2, ⟨dd, f.at d.t1 (by omega) o1⟩, b2⟩
  · dsimp only at e2
    rw [List.getElem?_set_ne (fun z => hj z.symm)] at e2
    exact (j.jd.hd j' p' m' e1 e2).mv f (by omega) (by omega)
theorem WC.at (j : WC X H T s A.cs M.cells) {i : Nat} {c : Ce} (h : M.cells[i]? = some (some c)) : ∃ p, A.cs[i]? = some (some p) ∧ CeO X.C H T s i p c := by
  have hl : i < A.cs.length := by rw [j.lc]; exact (List.getElem?_eq_some_iff.mp h).1
  have e := j.ce i _ _ (List.getElem?_eq_getElem hl) h
  cases hg : A.cs[i] with
  | none => rw [hg] at e; exact e.elim
  | some g => rw [hg] at e; exact ⟨g, by rw [List.getElem?_eq_getElem hl, hg], e⟩
theorem WC.at0 (j : WC X H T s A.cs M.cells) {i : Nat} (h : M.cells[i]? = some none) : A.cs[i]? = some none := by
  have hl : i < A.cs.length := by rw [j.lc]; exact (List.getElem?_eq_some_iff.mp h).1
  have e := j.ce i _ _ (List.getElem?_eq_getElem hl) h
  cases hg : A.cs[i] with
  | none => rw [List.getElem?_eq_getElem hl, hg]
  | some g => rw [hg] at e; exact e.elim
theorem WC.chg (j : WC X H T s A.cs M.cells) {i : Nat} {p : Addr × Addr} {c' : Ce} (f : Frm s t0 H H' T T') (hp : A.cs[i]? = some (some p)) (n : ∀ k, 100 ≤ k → k ≠ 100 + 2 * i → k ≠ 101 + 2 * i → ¬ t0 k) (e : CeO X.C H' T' s i p c') :
    WC X H' T' s A.cs (M.cells.set i (some c')) := by
  have hl : i < A.cs.length := (List.getElem?_eq_some_iff.mp hp).1
  refine ⟨by rw [List.length_set]; exact j.lc, fun k g c e1 e2 => ?_⟩
  by_cases hk : k = i
  · subst hk
    rw [List.getElem?_set_self (by rw [← j.lc]; exact hl)] at e2
    rw [hp] at e1
    cases e1
    cases e2
    exact e
  · rw [List.getElem?_set_ne (fun z => hk z.symm)] at e2
    exact (j.ce k g c e1 e2).mv f (n _ (by omega) (by omega) (by omega)) (n _ (by omega) (by omega) (by omega))
theorem WJ.field (j : WJ X H T s A M) (w : WT H T) (h0 : s ≠ 0) {i k : Nat} {p : Addr × Addr} {c : Ce} {x : Option Int} (hp : A.cs[i]? = some (some p)) (e : CeO X.C H T s i p c) :
    Stp s H (upd H p.2 (.lst ((c.fl.map oV).set k (oV x)))) T T ∧ WJ X (upd H p.2 (.lst ((c.fl.map oV).set k (oV x)))) T s A { M with cells := M.cells.set i (some { c with fl := c.fl.set k x }) } := by
  refine ⟨Stp.upd w e.o2 (by rw [e.t2]), ?_⟩
  have f : Frm s (· = 101 + 2 * i) H (upd H p.2 (.lst ((c.fl.map oV).set k (oV x)))) T T := Frm.of_upd e.t2
  have b2 : upd H p.2 (.lst ((c.fl.map oV).set k (oV x))) p.2 = some (.lst ((c.fl.set k x).map oV)) := by rw [upd_same, List.map_set]
  obtain ⟨dd, o1⟩ := e.o1
  exact ⟨j.jb.mv f (f0_upd h0 e.t2) (by omega) (by omega), j.jh.mv f (by omega) (by omega), j.jn.mv f (f0_upd h0 e.t2) (by omega), j.js.mv f (by omega) (by omega), j.jd.mv f fun _ _ _ => by omega,
    j.jc.chg f hp (fun k _ _ n2 z => n2 z) ⟨e.t1, e.t2, ⟨dd, f.at e.t1 (by omega) o1⟩, b2⟩⟩
theorem WJ.back (j : WJ X H T s A M) (w : WT H T) (h0 : s ≠ 0) {i : Nat} {dx : Addr} {used' : Int} (hi : i < A.cs.length) (H' : Hp) (kp : ∀ b o, H b = some o → b ≠ A.hp → b ≠ A.ca → H' b = some o) (a1 : H' A.hp = some (.ins X.H dx (heapF M.room A.ca used' M.born))) (a2 : H' A.ca = some (.lst ((A.cs.map pV).set i V.non))) :
    Stp s H H' T T ∧ WJ X H' T s { A with cs := A.cs.set i none } { M with used := used', cells := M.cells.set i none } := by
  obtain ⟨th, tc, ⟨dd, oh⟩, oc⟩ := j.jh
  have al : ∀ b o, H b = some o → ∃ o', H' b = some o' := fun b o h => by
    by_cases z1 : b = A.hp
    · exact ⟨_, by rw [z1]; exact a1⟩
    · by_cases z2 : b = A.ca
      · exact ⟨_, by rw [z2]; exact a2⟩
      · exact ⟨o, kp b o h z1 z2⟩
  have f : Frm s (fun k => k = 1 ∨ k = 2) H H' T T := ⟨fun b o h e n => kp b o h (fun z => n (.inl (by rw [z, th]))) (fun z => n (.inr (by rw [z, tc]))), fun _ _ _ => rfl⟩
  have f0 : ∀ b o, H b = some o → T b = (0, 0) → H' b = some o := fun b o h t => kp b o h (ne_tag t th (fun z => h0 (congrArg Prod.fst z).symm)) (ne_tag t tc (fun z => h0 (congrArg Prod.fst z).symm))
  refine ⟨⟨fun b o h n => kp b o h (fun z => n (by rw [z, th])) (fun z => n (by rw [z, tc])), al, fun _ _ _ => rfl, fun b h => w b ?_⟩, ?_⟩
  · cases z : H b with
    | none => rfl
    | some o => obtain ⟨o', z'⟩ := al b o z; rw [h] at z'; cases z'
  · refine ⟨?_, ⟨th, tc, ⟨dx, a1⟩, by rw [List.map_set]; exact a2⟩, ?_, ?_, j.jd.mv f fun _ _ _ => by omega, ⟨by rw [List.length_set, List.length_set]; exact j.jc.lc, fun k g c e1 e2 => ?_⟩⟩
    · obtain ⟨b1, b2, b3, b4, b5, b6, b7, b8⟩ := j.jb.mv f f0 (by omega) (by omega)
      exact ⟨b1, b2, b3, b4, b5, b6, b7, b8⟩
    · obtain ⟨b1, b2, b3⟩ := j.jn.mv f f0 (by omega)
      exact ⟨b1, b2, b3⟩
    · obtain ⟨b1, b2, b3, b4⟩ := j.js.mv f (by omega) (by omega)
      exact ⟨b1, b2, b3, b4⟩
    · by_cases hk : k = i
      · subst hk
        dsimp only at e1 e2
        rw [List.getElem?_set_self hi] at e1
        rw [List.getElem?_set_self (by rw [← j.jc.lc]; exact hi)] at e2
        cases e1
        cases e2
        trivial
      · dsimp only at e1 e2
        rw [List.getElem?_set_ne (fun z => hk z.symm)] at e1 e2
        exact (j.jc.ce k g c e1 e2).mv f (by omega) (by omega)
end
def fst0 {α : Type} : List (Option α) → Nat
  | [] => 0
  | none :: _ => 0
  | some _ :: l => fst0 l + 1
def putO {α : Type} (l : List (Option α)) (x : α) : List (Option α) := if fst0 l < l.length then l.set (fst0 l) (some x) else l ++ [some x]
theorem fst0_le {α : Type} (l : List (Option α)) : fst0 l ≤ l.length := by
  induction l with
  | nil => exact Nat.le_refl _
  | cons a l ih => cases a with
    | none => exact Nat.zero_le _
    | some a => exact Nat.succ_le_succ ih
theorem fst0_idx {α : Type} {f : Option α → V} (hf : ∀ x, f x = V.non ↔ x = none) (l : List (Option α)) : (l.map f).idxOf V.non = fst0 l ∧ (V.non ∈ l.map f ↔ fst0 l < l.length) := by
  induction l with
  | nil => exact ⟨rfl, ⟨fun z => (nomatch z), fun z => absurd z (Nat.lt_irrefl _)⟩⟩
  | cons a l ih =>
    rw [List.map_cons, List.idxOf_cons]
    cases a with
    | none =>
      have e : f none = V.non := (hf none).mpr rfl
      rw [e]
      exact ⟨rfl, ⟨fun _ => Nat.zero_lt_succ _, fun _ => List.mem_cons_self⟩⟩
    | some a =>
      have e : f (some a) ≠ V.non := fun z => by cases (hf (some a)).mp z
      have b : (f (some a) == V.non) = false := beq_eq_false_iff_ne.mpr e
      rw [b]
      refine ⟨congrArg (· + 1) ih.1, ?_⟩
      show _ ↔ fst0 l + 1 < l.length + 1
      rw [List.mem_cons, ih.2]
      constructor
      · rintro (z | z)
        · exact absurd z.symm e
        · omega
      · intro z
        exact .inr (by omega)
theorem putO_map {α : Type} {f : Option α → V} (hf : ∀ x, f x = V.non ↔ x = none) (l : List (Option α)) (x : α) : putN (l.map f) (f (some x)) = (putO l x).map f := by
  obtain ⟨e1, e2⟩ := fst0_idx hf l
  unfold putN putO
  by_cases z : fst0 l < l.length
  · rw [if_pos z, if_pos (e2.mpr z), List.map_set]
    exact congrArg (fun k => (l.map f).set k (f (some x))) e1
  · rw [if_neg z, if_neg (fun w => z (e2.mp w)), List.map_append]; rfl
theorem pV_non (p : Option (Addr × Addr)) : pV p = V.non ↔ p = none := by cases p <;> simp [pV]
theorem putO_at {α : Type} (l : List (Option α)) (x : α) : (putO l x)[fst0 l]? = some (some x) := by
  unfold putO
  by_cases z : fst0 l < l.length
  · rw [if_pos z, List.getElem?_set_self z]
  · have e : fst0 l = l.length := Nat.le_antisymm (fst0_le l) (by omega)
    rw [if_neg z, e, List.getElem?_append_right (Nat.le_refl _), Nat.sub_self]; rfl
theorem putO_ne {α : Type} {l : List (Option α)} {x : α} {i : Nat} {y : Option α} (hi : i ≠ fst0 l) (h : (putO l x)[i]? = some y) : l[i]? = some y := by
  unfold putO at h
  by_cases z : fst0 l < l.length
  · rw [if_pos z, List.getElem?_set_ne (fun w => hi w.symm)] at h; exact h
  · rw [if_neg z] at h
    have e : fst0 l = l.length := Nat.le_antisymm (fst0_le l) (by omega)
    have hl := (List.getElem?_eq_some_iff.mp h).1
    rw [List.length_append, List.length_singleton] at hl
    rw [List.getElem?_append_left (by omega)] at h
    exact h
theorem putO_len {α β : Type} {l : List (Option α)} {m : List (Option β)} {x : α} {y : β} (hl : l.length = m.length) (hf : fst0 l = fst0 m) : (putO l x).length = (putO m y).length := by
  unfold putO
  by_cases z : fst0 l < l.length
  · rw [if_pos z, if_pos (by omega), List.length_set, List.length_set]; exact hl
  · rw [if_neg z, if_neg (by omega), List.length_append, List.length_append, hl]; rfl
theorem putO_le {α : Type} (l : List (Option α)) (x : α) : (putO l x).length ≤ l.length + 1 := by
  unfold putO
  by_cases z : fst0 l < l.length
  · rw [if_pos z, List.length_set]; omega
  · rw [if_neg z, List.length_append]; exact Nat.le_refl _
theorem fst0_eq {α β : Type} : ∀ (l : List (Option α)) (m : List (Option β)), l.length = m.length → (∀ (i : Nat) x y, l[i]? = some x → m[i]? = some y → (x = none ↔ y = none)) → fst0 l = fst0 m := by
  intro l
  induction l with
  | nil =>
    intro m hl _
    cases m with
    | nil => rfl
    | cons b m => simp at hl
  | cons a l ih =>
    intro m hl h
    cases m with
    | nil => simp at hl
    | cons b m =>
      have ih' := ih m (by simpa using hl) fun i x y h1 h2 => h (i + 1) x y (by simpa using h1) (by simpa using h2)
      have e := h 0 a b rfl rfl
      cases a with
      | none => rw [e.mp rfl]; rfl
      | some a => cases b with
        | none => exact absurd (e.mpr rfl) (fun z => by cases z)
        | some b => exact congrArg (· + 1) ih'
section
variable {X : Cs} {H H' : Hp} {T T' : Tg} {s : Nat} {A : Wa} {M : Wm}
theorem WC.fst (j : WC X H T s A.cs M.cells) : fst0 A.cs = fst0 M.cells := fst0_eq _ _ j.lc fun i p c e1 e2 => by
  have e := j.ce i p c e1 e2
  cases p with
  | none => cases c with
    | none => exact ⟨fun _ => rfl, fun _ => rfl⟩
    | some c => exact e.elim
  | some p => cases c with
    | none => exact e.elim
    | some c => exact ⟨fun z => (by cases z), fun z => (by cases z)⟩
theorem WJ.put (j : WJ X H T s A M) (w : WT H T) (h0 : s ≠ 0) {dx : Addr} {used' : Int} {p fa : Addr} {c : Ce} (kp : ∀ b o, H b = some o → b ≠ A.hp → b ≠ A.ca → H' b = some o) (a1 : H' A.hp = some (.ins X.H dx (heapF M.room A.ca used' (M.born + 1)))) (a2 : H' A.ca = some (.lst (putN (A.cs.map pV) (.ref p))))
    (n1 : H p = none) (n2 : H fa = none) (m1 : p ≠ fa) (o1 : ∃ dx, H' p = some (.ins X.C dx (cellF c.birth c.bulk c.tone c.load fa))) (o2 : H' fa = some (.lst (c.fl.map oV))) :
    ∃ T', Stp s H H' T T' ∧ WJ X H' T' s { A with cs := putO A.cs (p, fa) } { M with used := used', born := M.born + 1, cells := putO M.cells c } := by
  obtain ⟨th, tc, ⟨dd, oh⟩, oc⟩ := j.jh
  have i1 := j.jc.fst
  let k := fst0 A.cs
  let T' : Tg := setT (setT T p (s, 100 + 2 * k)) fa (s, 101 + 2 * k)
  have told : ∀ b o, H b = some o → T' b = T b := fun b o h => by
    show setT _ _ _ b = _
    rw [setT_ne (ne_of_none h n2), setT_ne (ne_of_none h n1)]
  have t1 : T' p = (s, 100 + 2 * k) := by show setT _ _ _ p = _; rw [setT_ne m1, setT_same]
  have t2 : T' fa = (s, 101 + 2 * k) := by show setT _ _ _ fa = _; rw [setT_same]
  have al : ∀ b o, H b = some o → ∃ o', H' b = some o' := fun b o h => by
    by_cases z1 : b = A.hp
    · exact ⟨_, by rw [z1]; exact a1⟩
    · by_cases z2 : b = A.ca
      · exact ⟨_, by rw [z2]; exact a2⟩
      · exact ⟨o, kp b o h z1 z2⟩
  have f : Frm s (fun k => k = 1 ∨ k = 2) H H' T T' := ⟨fun b o h e n => kp b o h (fun z => n (.inl (by rw [z, th]))) (fun z => n (.inr (by rw [z, tc]))), told⟩
  have f0 : ∀ b o, H b = some o → T b = (0, 0) → H' b = some o := fun b o h t => kp b o h (ne_tag t th (fun z => h0 (congrArg Prod.fst z).symm)) (ne_tag t tc (fun z => h0 (congrArg Prod.fst z).symm))
  refine ⟨T', ⟨fun b o h nn => kp b o h (fun z => nn (by rw [z, th])) (fun z => nn (by rw [z, tc])), al, told, fun b h => ?_⟩, ?_⟩
  · have b1 : b ≠ p := fun e => by obtain ⟨d, z⟩ := o1; rw [e, z] at h; cases h
    have b2 : b ≠ fa := fun e => by rw [e, o2] at h; cases h
    have hb : H b = none := by
      cases z : H b with
      | none => rfl
      | some o => obtain ⟨o', z'⟩ := al b o z; rw [h] at z'; cases z'
    show setT _ _ _ b = _
    rw [setT_ne b2, setT_ne b1]
    exact w b hb
  · refine ⟨?_, ⟨f.tag oh th, f.tag oc tc, ⟨dx, a1⟩, ?_⟩, ?_, ?_, j.jd.mv f fun _ _ _ => by omega, ⟨putO_len j.jc.lc i1, fun i g cc e1 e2 => ?_⟩⟩
    · obtain ⟨b1, b2, b3, b4, b5, b6, b7, b8⟩ := j.jb.mv f f0 (by omega) (by omega)
      exact ⟨b1, b2, b3, b4, b5, b6, b7, b8⟩
    · show H' A.ca = some (.lst ((putO A.cs (p, fa)).map pV))
      rw [← putO_map pV_non]; exact a2
    · obtain ⟨b1, b2, b3⟩ := j.jn.mv f f0 (by omega)
      exact ⟨b1, b2, b3⟩
    · obtain ⟨b1, b2, b3, b4⟩ := j.js.mv f (by omega) (by omega)
      exact ⟨b1, b2, b3, b4⟩
    · dsimp only at e1 e2
      by_cases hk : i = fst0 A.cs
      · subst hk
        rw [putO_at] at e1
        rw [i1, putO_at] at e2
        cases e1
        cases e2
        exact ⟨t1, t2, o1, o2⟩
      · exact (j.jc.ce i g cc (putO_ne hk e1) (putO_ne (by rw [← i1]; exact hk) e2)).mv f (by omega) (by omega)
end
def cellAt (M : Wm) (x : Int) : Option Ce := if 0 ≤ x then (M.cells[x.toNat]?).join else none
def bAt (M : Wm) : Option Int → Option Int
  | none => none
  | some x => (cellAt M x).map (·.birth)
inductive Rf where
  | full | empty | nofield | noname
  deriving DecidableEq
structure Ev where
  word : Str
  thing : Option Int
  notes : List Int
inductive Deed where
  | make (h s : Nat) (many bulk : Int)
  | get (h s t f : Nat)
  | put (h t f s : Nat)
  | copy (h s t : Nat)
  | drop (h s : Nat)
  | give (h s g t : Nat)
  | write (h t : Nat) (load : Int)
  | read (h t : Nat)
  | name (h t : Nat) (word : Str)
  | seek (h s : Nat) (word : Str)
def dV : Deed → List V
  | .make h s many bulk => [.str "make", .int h, .int s, .int many, .int bulk]
  | .get h s t f => [.str "get", .int h, .int s, .int t, .int f]
  | .put h t f s => [.str "put", .int h, .int t, .int f, .int s]
  | .copy h s t => [.str "copy", .int h, .int s, .int t]
  | .drop h s => [.str "drop", .int h, .int s]
  | .give h s g t => [.str "give", .int h, .int s, .int g, .int t]
  | .write h t load => [.str "write", .int h, .int t, .int load]
  | .read h t => [.str "read", .int h, .int t]
  | .name h t word => [.str "name", .int h, .int t, .str word]
  | .seek h s word => [.str "seek", .int h, .int s, .str word]
structure Ok (M : Wm) : Prop where
  sl : ∀ m ∈ M.hands, ∀ x, some x ∈ m.2 → ∃ c, cellAt M x = some c
  fl : ∀ c, some c ∈ M.cells → ∀ x, some x ∈ c.fl → ∃ d, cellAt M x = some d
  tn : ∀ c, some c ∈ M.cells → c.tone = 0 ∨ c.tone = 1
def rowsOf (M : Wm) : List (List (Option Int)) := M.hands.map fun m => m.2.map (bAt M)
structure TxW (K : PySem.W.Frag) (X : Cs) : Prop where
  c : TxC K X.C X.H
  cW : Cls K X.W
  nWh : NoAttr K X.W "heap"
  nWk : NoAttr K X.W "kind"
  nWd : NoAttr K X.W "hands"
  nWn : NoAttr K X.W "names"
  nWs : NoAttr K X.W "sweeper"
  cD : Cls K X.D
  nDn : NoAttr K X.D "name"
  nDs : NoAttr K X.D "slots"
  cK : Cls K X.K
  nKl : NoAttr K X.K "looking"
  nKt : NoAttr K X.K "tells"
  cS : Cls K X.S
  n1 : NoAttr K X.S "sense"
  n2 : NoAttr K X.S "phase"
  n3 : NoAttr K X.S "grey"
  n4 : NoAttr K X.S "looked"
  n5 : NoAttr K X.S "turn"
  n6 : NoAttr K X.S "at"
  n7 : NoAttr K X.S "stop"
  n8 : NoAttr K X.S "walks"
  n9 : NoAttr K X.S "looks"
  n10 : NoAttr K X.S "passes"
  n11 : NoAttr K X.S "loss"
def atO (cs : List V) : V → V
  | .int i => if 0 ≤ i then (cs[i.toNat]?).getD .non else .non
  | _ => .non
def S_cell_at (CH : Addr) : Sp := fun vs H Q E => ∃ hp pl, vs = [.ref hp, pl] ∧ (pl = .non ∨ ∃ i, pl = .int i) ∧ ∃ ca room used born cs, HpO CH H hp ca room used born cs ∧ Q (atO cs pl) H
def cO (M : Wm) (x : Option Int) : Option Ce := x.bind (cellAt M)
def S_birth_at (X : Cs) : Sp := fun vs H Q E => ∃ hp pl, vs = [.ref hp, pl] ∧ ∃ x, pl = oV x ∧ ∃ T s A M, WJ X H T s A M ∧ A.hp = hp ∧ Q (oV (bAt M x)) H
def S_has_sense (X : Cs) : Sp := fun vs H Q E => ∃ wo p, vs = [.ref wo, .ref p] ∧ ∃ T s A M i q c, WJ X H T s A M ∧ A.wo = wo ∧ CeO X.C H T s i q c ∧ q.1 = p ∧ Q (.bl (decide (c.tone = M.sw.sense))) H
theorem oV_cases (x : Option Int) : oV x = .non ∨ ∃ i, oV x = .int i := by cases x with
  | none => exact .inl rfl
  | some i => exact .inr ⟨i, rfl⟩
section
variable {X : Cs} {H H' : Hp} {T T' : Tg} {s : Nat} {A : Wa} {M : Wm}
theorem WJ.hpO (j : WJ X H T s A M) : HpO X.H H A.hp A.ca M.room M.used M.born (A.cs.map pV) := ⟨j.jh.oh, j.jh.oc⟩
theorem WJ.look (j : WJ X H T s A M) (x : Option Int) : (cO M x = none ∧ atO (A.cs.map pV) (oV x) = .non) ∨ ∃ i c p, x = some i ∧ 0 ≤ i ∧ cellAt M i = some c ∧ M.cells[i.toNat]? = some (some c) ∧ A.cs[i.toNat]? = some (some p) ∧ atO (A.cs.map pV) (oV x) = .ref p.1 ∧ CeO X.C H T s i.toNat p c := by
  cases x with
  | none => exact .inl ⟨rfl, rfl⟩
  | some i =>
    show (cellAt M i = none ∧ atO _ (.int i) = _) ∨ _
    by_cases h0 : 0 ≤ i
    · cases hc : M.cells[i.toNat]? with
      | none =>
        have hl : A.cs[i.toNat]? = none := by
          rw [List.getElem?_eq_none_iff] at hc ⊢
          rw [j.jc.lc]; exact hc
        refine .inl ⟨by unfold cellAt; rw [if_pos h0, hc]; rfl, ?_⟩
        show (if 0 ≤ i then _ else _) = _
        rw [if_pos h0, List.getElem?_map, hl]; rfl
      | some y => cases y with
        | none =>
          refine .inl ⟨by unfold cellAt; rw [if_pos h0, hc]; rfl, ?_⟩
          show (if 0 ≤ i then _ else _) = _
          rw [if_pos h0, List.getElem?_map, j.jc.at0 hc]; rfl
        | some c =>
          obtain ⟨p, hp, e⟩ := j.jc.at hc
          refine .inr ⟨i, c, p, rfl, h0, by unfold cellAt; rw [if_pos h0, hc]; rfl, hc, hp, ?_, e⟩
          show (if 0 ≤ i then _ else _) = _
          rw [if_pos h0, List.getElem?_map, hp]; rfl
    · refine .inl ⟨by unfold cellAt; rw [if_neg h0], ?_⟩
      show (if 0 ≤ i then _ else _) = _
      rw [if_neg h0]
theorem WJ.hand (j : WJ X H T s A M) {k : Nat} {p : Addr × Addr} (hp : A.hs[k]? = some p) : ∃ m, M.hands[k]? = some m ∧ HdO X.D H T s k p m := by
  have hl : k < M.hands.length := by rw [← j.jd.lh]; exact (List.getElem?_eq_some_iff.mp hp).1
  exact ⟨_, List.getElem?_eq_getElem hl, j.jd.hd k p _ hp (List.getElem?_eq_getElem hl)⟩
theorem WJ.fresh (j : WJ X H T s A M) {l : Addr} {o : HO} {v : Nat × Nat} (h : H l = none) : WJ X (upd H l o) (setT T l v) s A M :=
  j.mv (H' := upd H l o) (T' := setT T l v) ⟨fun b u e _ _ => by rw [upd_ne (ne_of_none e h)]; exact e, fun b u e => setT_ne (ne_of_none e h)⟩ fun b u e _ => by rw [upd_ne (ne_of_none e h)]; exact e
end
section
variable {K : PySem.W.Frag} {X : Cs} {H : Hp} {Q : VK} {E : XK} {n : St → Hp → Prop} {bk ct : St → Hp → Prop}
theorem cell_at_rd {hp : Addr} {pl : V} (T : TxW K X) (q : (pl = .non ∨ ∃ i, pl = .int i) ∧ ∃ ca room used born cs, HpO X.H H hp ca room used born cs ∧ Q (atO cs pl) H) : rd_cell_at K ⟨n, Q, bk, ct⟩ [some (.ref hp), some pl] H := by
  obtain ⟨hpl, ca, room, used, born, cs, ⟨⟨dx, h1⟩, h2⟩, q⟩ := q
  unfold rd_cell_at
  rcases hpl with rfl | ⟨i, rfl⟩
  · walk_at "ev"
    exact q
  · walk_at "ev"
    refine ifd (fun z => ?_) (fun z => ?_)
    · walk_at "ev"
      rw [show atO cs (.int i) = .non from if_neg (by omega)] at q
      exact q
    · rw [show atO cs (.int i) = (cs[i.toNat]?).getD .non from if_pos (by omega)] at q
      walk_at "ev"
      refine i_fldK h1 T.c.cl_Heap T.c.n_Heap_cells heapF_lk_cells ?_
      walk_at "ev"
      refine i_lenL (SqL.of h2) ?_
      walk_at "ev"
      refine ifd (fun y => ?_) (fun y => ?_)
      · walk_at "ev"
        rw [List.getElem?_eq_none_iff.mpr (by omega)] at q
        exact q
      · walk_at "ev"
        refine i_fldK h1 T.c.cl_Heap T.c.n_Heap_cells heapF_lk_cells ?_
        walk_at "ev"
        have hl : i.toNat < cs.length := by omega
        refine i_ixL (SqL.of h2) (atI_int (by omega) (List.getElem?_eq_getElem hl)) ?_
        rw [List.getElem?_eq_getElem hl] at q
        exact q
theorem birth_at_rd {hp : Addr} {pl : V} (T : TxW K X) (q : ∃ x, pl = oV x ∧ ∃ T s A M, WJ X H T s A M ∧ A.hp = hp ∧ Q (oV (bAt M x)) H) : rd_birth_at K (S_cell_at X.H) ⟨n, Q, bk, ct⟩ [some (.ref hp), some pl, none] H := by
  obtain ⟨x, rfl, Tg, s, A, M, j, rfl, q⟩ := q
  unfold rd_birth_at
  walk_at "ev"
  refine ⟨_, _, rfl, oV_cases x, _, _, _, _, _, j.hpO, ?_⟩
  rcases j.look x with ⟨e1, e2⟩ | ⟨i, c, p, rfl, h0, ec, _, _, e2, ⟨t1, t2, ⟨dx, o1⟩, o2⟩⟩
  · rw [e2]
    have : bAt M x = none := by
      cases x with
      | none => rfl
      | some i => show (cellAt M i).map _ = none; rw [show cellAt M i = none from e1]; rfl
    rw [this] at q
    walk_at "ev"
    exact q
  · rw [e2]
    have : bAt M (some i) = some c.birth := by show (cellAt M i).map _ = _; rw [ec]; rfl
    rw [this] at q
    walk_at "ev"
    refine i_fldK o1 T.c.cl_Cell T.c.n_Cell_birth cellF_lk_birth ?_
    exact q
theorem has_sense_rd {wo p : Addr} (T : TxW K X) (q : ∃ T s A M i q c, WJ X H T s A M ∧ A.wo = wo ∧ CeO X.C H T s i q c ∧ q.1 = p ∧ Q (.bl (decide (c.tone = M.sw.sense))) H) : rd_has_sense K ⟨n, Q, bk, ct⟩ [some (.ref wo), some (.ref p)] H := by
  obtain ⟨Tg, s, A, M, i, r, c, j, rfl, ⟨t1, t2, ⟨dx, o1⟩, o2⟩, rfl, q⟩ := q
  obtain ⟨d1, ow⟩ := j.jb.ow
  obtain ⟨d2, os⟩ := j.js.os
  unfold rd_has_sense
  walk_at "ev"
  refine i_fldK o1 T.c.cl_Cell T.c.n_Cell_tone cellF_lk_tone ?_
  walk_at "ev"
  refine i_fldK ow T.cW T.nWs worldF_lk_sweeper ?_
  walk_at "ev"
  refine i_fldK os T.cS T.n1 sweepF_lk_sense ?_
  walk_at "ev"
  exact q
end
section
variable {K : PySem.W.Frag} {X : Cs} {H : Hp} {Q : VK} {E : XK} {n : St → Hp → Prop} {bk ct : St → Hp → Prop} {CE CF CN : Addr}
end
section
variable {X : Cs} {H Hx : Hp} {T Tx : Tg} {s : Nat} {A Ax : Wa} {M M' : Wm} {d : Deed} {e : Ev} {wo : Addr} {Q : VK}
end
section
variable {K : PySem.W.Frag} {X : Cs} {H : Hp} {Q : VK} {E : XK} {n : St → Hp → Prop} {bk ct : St → Hp → Prop} {rf : Rf → Addr}
end
section
variable {X : Cs} {H H' : Hp} {T T' : Tg} {s : Nat} {A : Wa} {M : Wm}
end
section
variable {K : PySem.W.Frag} {X : Cs} {H : Hp} {Q : VK} {E : XK} {n : St → Hp → Prop} {bk ct : St → Hp → Prop} {rf : Rf → Addr} {CE CF CN : Addr}
end
section
variable {K : PySem.W.Frag} {X : Cs} {H : Hp} {Q : VK} {E : XK} {n : St → Hp → Prop} {bk ct : St → Hp → Prop} {rf : Rf → Addr} {f1 f2 f3 f4 f5 f6 f7 f8 f9 f10 : Addr}
end
def S_births_at (X : Cs) : Sp := fun vs H Q E => ∃ hp sl, vs = [.ref hp, .ref sl] ∧ ∃ T s A M, ∃ xs : List (Option Int), WJ X H T s A M ∧ A.hp = hp ∧ H sl = some (.lst (xs.map oV)) ∧ xs.length ≤ 1000 ∧ ∀ l, H l = none → Q (.ref l) (upd H l (.lst ((xs.map (bAt M)).map oV)))
def S_births (X : Cs) : Sp := fun vs H Q E => ∃ wo, vs = [.ref wo] ∧ ∃ T s A M, WJ X H T s A M ∧ A.wo = wo ∧ M.cells.length ≤ 1000 ∧ (∀ m ∈ M.hands, m.2.length ≤ 1000) ∧ ∀ (l : Addr) (ls : List Addr) H', Same H H' → H' l = some (.lst (ls.map V.ref)) → ls.length = (rowsOf M).length → (∀ (j : Nat) r x, ls[j]? = some r → (rowsOf M)[j]? = some x → H' r = some (.lst (x.map oV))) → (H l = none ∧ (∀ r ∈ ls, H r = none) ∧ l ∉ ls) → Q (.ref l) H'
section
variable {K : PySem.W.Frag} {X : Cs} {H : Hp} {Q : VK} {E : XK} {n : St → Hp → Prop} {bk ct : St → Hp → Prop}
theorem births_at_rd {hp sl : Addr} (T : TxW K X) (q : ∃ T s A M, ∃ xs : List (Option Int), WJ X H T s A M ∧ A.hp = hp ∧ H sl = some (.lst (xs.map oV)) ∧ xs.length ≤ 1000 ∧ ∀ l, H l = none → Q (.ref l) (upd H l (.lst ((xs.map (bAt M)).map oV)))) :
    rd_births_at K (S_birth_at X) ⟨n, Q, bk, ct⟩ [some (.ref hp), some (.ref sl)] H := by
  obtain ⟨Tg, s, A, M, xs, j, rfl, o, hx, q⟩ := q
  unfold rd_births_at
  walk_at "ev"
  refine i_lcg ?_
  walk_at "ev"
  refine ⟨_, rfl, ⟨_, SqL.of o⟩, ?_⟩
  refine lc_list (SqL.of o) (fun i => (xs[i]?).map fun x => oV (bAt M x)) (by rw [List.length_map]; omega) (fun i x hx => ?_) ?_
  · rw [List.getElem?_map] at hx
    obtain ⟨y, hy, rfl⟩ := Option.map_eq_some_iff.mp hx
    refine ⟨fun q hq => ?_, fun z q hz hq => ?_⟩
    · rw [hy] at hq
      exact i_true hq
    · rw [hy] at hz
      cases hz
      walk_at "caps"
      walk_at "ev"
      exact ⟨_, _, rfl, y, rfl, Tg, s, A, M, j, rfl, hq⟩
  · intro p hp
    have : (List.range (xs.map oV).length).filterMap (fun i => (xs[i]?).map fun x => oV (bAt M x)) = (xs.map (bAt M)).map oV := by
      rw [List.length_map, List.map_map]
      clear q o hx
      induction xs with
      | nil => rfl
      | cons a l ih =>
        rw [List.length_cons, List.range_succ_eq_map, List.filterMap_cons]
        simp only [List.getElem?_cons_zero, Option.map_some, List.map_cons, List.filterMap_map]
        congr 1
    rw [this]
    exact q p hp
theorem births_held_rd {wo : Addr} (T : TxW K X) (q : ∃ T s A M, WJ X H T s A M ∧ A.wo = wo ∧ M.cells.length ≤ 1000 ∧ (∀ m ∈ M.hands, m.2.length ≤ 1000) ∧ ∀ (l : Addr) (ls : List Addr) H', Same H H' → H' l = some (.lst (ls.map V.ref)) → ls.length = (rowsOf M).length → (∀ (j : Nat) r x, ls[j]? = some r → (rowsOf M)[j]? = some x → H' r = some (.lst (x.map oV))) → (H l = none ∧ (∀ r ∈ ls, H r = none) ∧ l ∉ ls) → Q (.ref l) H') :
    rd_births_held K (S_births_at X) ⟨n, Q, bk, ct⟩ [some (.ref wo)] H := by
  obtain ⟨Tg, s, A, M, j, rfl, hc, hh, q⟩ := q
  obtain ⟨d1, ow⟩ := j.jb.ow
  have l5 := j.jd.l5
  unfold rd_births_held
  walk_at "ev"
  refine i_lcg ?_
  walk_at "ev"
  refine i_fldK ow T.cW T.nWd worldF_lk_hands ?_
  refine ⟨_, rfl, ⟨_, SqL.of j.jb.on⟩, ?_⟩
  refine lc_newDL (SqL.of j.jb.on) (by rw [List.length_map]; omega) (fun i r Hx => ∃ x, (rowsOf M)[i]? = some x ∧ Hx r = some (.lst (x.map oV))) (fun _ _ _ _ ⟨x, e, z⟩ s => ⟨x, e, s _ _ z⟩) (fun _ _ _ ⟨_, _, z⟩ => ⟨_, z⟩) (fun x H1 q hq => i_true hq) (fun i x H1 hi s1 q' hq => ?_) ?_
  · rw [List.getElem?_map] at hi
    obtain ⟨p, hp, rfl⟩ := Option.map_eq_some_iff.mp hi
    have j1 := j.same s1
    obtain ⟨m, hm, hd⟩ := j1.hand hp
    obtain ⟨dx, o1⟩ := hd.o1
    obtain ⟨d2, ow1⟩ := j1.jb.ow
    walk_at "caps"
    walk_at "ev"
    refine i_fldK ow1 T.cW T.nWh worldF_lk_heap ?_
    walk_at "ev"
    refine i_fldK o1 T.cD T.nDs handF_lk_slots ?_
    walk_at "ev"
    refine ⟨_, _, rfl, Tg, s, A, M, m.2, j1, rfl, hd.o2, hh m (List.mem_of_getElem? hm), fun l hl => ?_⟩
    exact hq l _ (same_new hl _) hl ⟨_, by unfold rowsOf; rw [List.getElem?_map, hm]; rfl, upd_same⟩
  · intro rs H' s1 hl _ nn hr p hp
    have s2 := same_new hp (.lst (rs.map V.ref))
    refine q p rs _ (s1.trans s2) upd_same ?_ (fun j' r x e1 e2 => ?_) ⟨s1.free hp, nn, fun z => ?_⟩
    · rw [hl, List.length_map]
      unfold rowsOf
      rw [List.length_map, j.jd.lh]
    · obtain ⟨y, e3, z⟩ := hr j' r e1
      rw [e2] at e3
      cases e3
      exact s2 _ _ z
    · obtain ⟨k, hk, e⟩ := List.getElem_of_mem z
      obtain ⟨_, _, e4⟩ := hr k p (by rw [List.getElem?_eq_getElem hk, e])
      rw [hp] at e4; cases e4
end
def S_Hand_init (CD : Addr) : Sp := fun vs H Q E => ∃ p nm many, vs = [.ref p, .str nm, .int many] ∧ ∃ dx, H p = some (.ins CD dx []) ∧ 0 ≤ many ∧ many ≤ 1000 ∧
  ∀ sa H', H sa = none → H' p = some (.ins CD dx (handF nm sa)) → H' sa = some (.lst (List.replicate many.toNat V.non)) → (∀ b o, H b = some o → b ≠ p → H' b = some o) → Q .non H'
def S_Sweeper_init (CS : Addr) : Sp := fun vs H Q E => ∃ p, vs = [.ref p] ∧ ∃ dx, H p = some (.ins CS dx []) ∧
  ∀ gr H', H gr = none → H' p = some (.ins CS dx (sweepF 0 "rest" gr 0 0 0 0 0 0 0 .non)) → H' gr = some (.lst []) → (∀ b o, H b = some o → b ≠ p → H' b = some o) → Q .non H'
section
variable {K : PySem.W.Frag} {X : Cs} {H : Hp} {Q : VK} {E : XK} {n : St → Hp → Prop} {bk ct : St → Hp → Prop}
theorem Hand___init___rd {p : Addr} {nm : Str} {many : Int} (T : TxW K X) (q : ∃ dx, H p = some (.ins X.D dx []) ∧ 0 ≤ many ∧ many ≤ 1000 ∧
  ∀ sa H', H sa = none → H' p = some (.ins X.D dx (handF nm sa)) → H' sa = some (.lst (List.replicate many.toNat V.non)) → (∀ b o, H b = some o → b ≠ p → H' b = some o) → Q .non H') :
    rd_Hand___init__ K ⟨fun _ H' => Q .non H', Q, bk, ct⟩ [some (.ref p), some (.str nm), some (.int many)] H := by
  obtain ⟨dx, hp, h0, h1, h⟩ := q
  unfold rd_Hand___init__
  walk_at "ev"
  refine ⟨p, X.D, dx, [], rfl, hp, T.cD, T.nDn, by decide, ?_⟩
  walk_at "ev"
  refine ⟨by decide, fun l0 hl0 => ?_⟩
  walk_at "ev"
  refine ⟨l0, many, _, rfl, rfl, upd_same, by omega, by omega, ?_, fun fa hfa => ?_⟩
  · show 1 * many.toNat ≤ sizeLine
    exact len_ok (by omega)
  have npl : p ≠ l0 := ne_of_none upd_same hl0
  have npf : p ≠ fa := ne_of_none (by rw [upd_ne npl]; exact upd_same) hfa
  have hfa0 : H fa = none := by
    by_cases z : fa = l0
    · rw [z, upd_same] at hfa; cases hfa
    · rw [upd_ne z, upd_ne (fun e => npf e.symm)] at hfa; exact hfa
  have hl00 : H l0 = none := by rw [upd_ne (fun e => npl e.symm)] at hl0; exact hl0
  walk_at "ev"
  refine ⟨p, X.D, dx, _, rfl, by rw [upd_ne npf, upd_ne npl]; exact upd_same, T.cD, T.nDs, by show 1 < 1000; decide, ?_⟩
  refine h fa _ hfa0 ?_ ?_ fun b o hb nb => ?_
  · rw [upd_same, handF_mk]
  · rw [upd_ne npf.symm, upd_same]
    congr 2
    generalize many.toNat = k
    induction k with
    | zero => rfl
    | succ k ih => rw [List.replicate_succ, List.replicate_succ, List.flatten_cons, ih]; rfl
  · rw [upd_ne nb, upd_ne (ne_of_none hb hfa0), upd_ne (ne_of_none hb hl00), upd_ne nb]; exact hb
theorem Sweeper___init___rd {p : Addr} (T : TxW K X) (q : ∃ dx, H p = some (.ins X.S dx []) ∧
  ∀ gr H', H gr = none → H' p = some (.ins X.S dx (sweepF 0 "rest" gr 0 0 0 0 0 0 0 .non)) → H' gr = some (.lst []) → (∀ b o, H b = some o → b ≠ p → H' b = some o) → Q .non H') :
    rd_Sweeper___init__ K ⟨fun _ H' => Q .non H', Q, bk, ct⟩ [some (.ref p)] H := by
  obtain ⟨dx, hp, h⟩ := q
  unfold rd_Sweeper___init__
  walk_at "ev"
  refine ⟨p, X.S, dx, [], rfl, hp, T.cS, T.n1, by decide, ?_⟩
  walk_at "ev"
  refine ⟨p, X.S, dx, _, rfl, upd_same, T.cS, T.n2, by show 1 < 1000; decide, ?_⟩
  rw [upd_upd]
  walk_at "ev"
  refine ⟨by decide, fun gr hgr => ?_⟩
  have npg : p ≠ gr := ne_of_none upd_same hgr
  have hgr0 : H gr = none := by rw [upd_ne npg.symm] at hgr; exact hgr
  walk_at "ev"
  refine ⟨p, X.S, dx, _, rfl, by rw [upd_ne npg]; exact upd_same, T.cS, T.n3, by show 2 < 1000; decide, ?_⟩
  walk_at "ev"
  refine ⟨p, X.S, dx, _, rfl, upd_same, T.cS, T.n4, by show 3 < 1000; decide, ?_⟩
  rw [upd_upd]
  walk_at "ev"
  refine ⟨p, X.S, dx, _, rfl, upd_same, T.cS, T.n5, by show 4 < 1000; decide, ?_⟩
  rw [upd_upd]
  walk_at "ev"
  refine ⟨p, X.S, dx, _, rfl, upd_same, T.cS, T.n6, by show 5 < 1000; decide, ?_⟩
  rw [upd_upd]
  walk_at "ev"
  refine ⟨p, X.S, dx, _, rfl, upd_same, T.cS, T.n7, by show 6 < 1000; decide, ?_⟩
  rw [upd_upd]
  walk_at "ev"
  refine ⟨p, X.S, dx, _, rfl, upd_same, T.cS, T.n8, by show 7 < 1000; decide, ?_⟩
  rw [upd_upd]
  walk_at "ev"
  refine ⟨p, X.S, dx, _, rfl, upd_same, T.cS, T.n9, by show 8 < 1000; decide, ?_⟩
  rw [upd_upd]
  walk_at "ev"
  refine ⟨p, X.S, dx, _, rfl, upd_same, T.cS, T.n10, by show 9 < 1000; decide, ?_⟩
  rw [upd_upd]
  walk_at "ev"
  refine ⟨p, X.S, dx, _, rfl, upd_same, T.cS, T.n11, by show 10 < 1000; decide, ?_⟩
  rw [upd_upd]
  refine h gr _ hgr0 ?_ ?_ fun b o hb nb => ?_
  · rw [upd_same, sweepF_mk]
  · rw [upd_ne npg.symm, upd_same]
  · rw [upd_ne nb, upd_ne (ne_of_none hb hgr0), upd_ne nb]; exact hb
end
def wd (w : Int) : Str := if w = 0 then "first" else if w = 1 then "each" else "last"
def tlS (t : Int) : Str := if t = 0 then "" else if t = 1 then " old" else if t = 2 then " new" else " old new"
def words (w t : Int) : Str := wd w ++ tlS t
theorem words_inj {w t w' t' : Int} (w0 : 0 ≤ w) (w1 : w < 3) (t0 : 0 ≤ t) (t1 : t < 4) (a0 : 0 ≤ w') (a1 : w' < 3) (b0 : 0 ≤ t') (b1 : t' < 4) (e : words w t = words w' t') : w = w' ∧ t = t' := by
  have key : ∀ a ∈ [(0 : Int), 1, 2], ∀ b ∈ [(0 : Int), 1, 2, 3], ∀ a' ∈ [(0 : Int), 1, 2], ∀ b' ∈ [(0 : Int), 1, 2, 3], words a b = words a' b' → a = a' ∧ b = b' := by decide +kernel
  exact key w (by simp; omega) t (by simp; omega) w' (by simp; omega) t' (by simp; omega) e
theorem wd_len (w : Int) : (wd w).length ≤ 5 := by
  unfold wd
  by_cases h : w = 0
  · rw [if_pos h]; decide
  · rw [if_neg h]
    by_cases h : w = 1
    · rw [if_pos h]; decide
    · rw [if_neg h]; decide
structure KdO (X : Cs) (H : Hp) (ki lk : Addr) (w t : Int) : Prop where
  ok : ∃ dx, H ki = some (.ins X.K dx (kindF lk t))
  ol : ∃ dx, (w = 0 ∧ H lk = some (.ins X.F dx [])) ∨ (w = 1 ∧ H lk = some (.ins X.E dx [])) ∨ (w = 2 ∧ H lk = some (.ins X.L dx []))
theorem KdO.same {X : Cs} {H H' : Hp} {ki lk : Addr} {w t : Int} (k : KdO X H ki lk w t) (s : Same H H') : KdO X H' ki lk w t := by
  obtain ⟨⟨d1, a⟩, ⟨d2, b⟩⟩ := k
  refine ⟨⟨d1, s _ _ a⟩, ⟨d2, ?_⟩⟩
  rcases b with ⟨z, e⟩ | ⟨z, e⟩ | ⟨z, e⟩
  · exact .inl ⟨z, s _ _ e⟩
  · exact .inr (.inl ⟨z, s _ _ e⟩)
  · exact .inr (.inr ⟨z, s _ _ e⟩)
def S_kind_of (X : Cs) : Sp := fun vs H Q E => ∃ z, vs = [.str z] ∧ ∃ w t, 0 ≤ w ∧ w < 3 ∧ 0 ≤ t ∧ t < 4 ∧ z = words w t ∧ ∀ ki lk H', Same H H' → H ki = none → H lk = none → KdO X H' ki lk w t → Q (.ref ki) H'
def newW (room : Int) (hands : List (Str × Int)) (w t : Int) : Wm := ⟨room, 0, 0, [], hands.map fun m => (m.1, List.replicate m.2.toNat none), [], w, t, ⟨0, "rest", [], 0, 0, 0, 0, 0, 0, 0, .non⟩⟩
def S_World_init (X : Cs) : Sp := fun vs H Q E => ∃ p room ki hl0, vs = [.ref p, .int room, .ref ki, .ref hl0] ∧ ∃ dx T s lk w t ts hands, H p = some (.ins X.W dx []) ∧ WT H T ∧ s ≠ 0 ∧ KdO X H ki lk w t ∧ T ki = (0, 0) ∧ T lk = (0, 0) ∧ ki ≠ p ∧ lk ≠ p ∧ H hl0 = some (.lst (ts.map V.ref)) ∧
  Al (fun (t : Addr) (m : Str × Int) => H t = some (.tup [.str m.1, .int m.2]) ∧ 0 ≤ m.2 ∧ m.2 ≤ 1000) ts hands ∧ hands.length ≤ 30 ∧
  ∀ H' T' A, (∀ b o, H b = some o → b ≠ p → H' b = some o) → (∀ b o, H b = some o → b ≠ p → T' b = T b) → WT H' T' → A.wo = p → WJ X H' T' s A (newW room hands w t) → Q .non H'
def S_Kind_init (CK : Addr) : Sp := fun vs H Q E => ∃ p l t, vs = [.ref p, .ref l, .int t] ∧ ∃ dx, H p = some (.ins CK dx []) ∧ ∀ H', H' p = some (.ins CK dx (kindF l t)) → (∀ b o, H b = some o → b ≠ p → H' b = some o) → Q .non H'
def S_tell (v : V) : Sp := fun vs H Q E => ∃ a, vs = [.ref a] ∧ Q v H
def S_words (X : Cs) : Sp := fun vs H Q E => ∃ ki, vs = [.ref ki] ∧ ∃ lk w t, KdO X H ki lk w t ∧ 0 ≤ t ∧ t < 4 ∧ ∀ H', Same H H' → Q (.str (words w t)) H'
section
variable {K : PySem.W.Frag} {X : Cs} {H : Hp} {Q : VK} {E : XK} {n : St → Hp → Prop} {bk ct : St → Hp → Prop}
theorem First_word_rd {a : Addr} (T : TxW K X) (q : Q (.str "first") H) : rd_First_word ⟨n, Q, bk, ct⟩ [some (.ref a)] H := by
  unfold rd_First_word
  walk_at "ev"
  exact q
theorem Each_word_rd {a : Addr} (T : TxW K X) (q : Q (.str "each") H) : rd_Each_word ⟨n, Q, bk, ct⟩ [some (.ref a)] H := by
  unfold rd_Each_word
  walk_at "ev"
  exact q
theorem Last_word_rd {a : Addr} (T : TxW K X) (q : Q (.str "last") H) : rd_Last_word ⟨n, Q, bk, ct⟩ [some (.ref a)] H := by
  unfold rd_Last_word
  walk_at "ev"
  exact q
theorem Kind___init___rd {p l : Addr} {t : Int} (T : TxW K X) (q : ∃ dx, H p = some (.ins X.K dx []) ∧ ∀ H', H' p = some (.ins X.K dx (kindF l t)) → (∀ b o, H b = some o → b ≠ p → H' b = some o) → Q .non H') :
    rd_Kind___init__ K ⟨fun _ H' => Q .non H', Q, bk, ct⟩ [some (.ref p), some (.ref l), some (.int t)] H := by
  obtain ⟨dx, hp, h⟩ := q
  unfold rd_Kind___init__
  walk_at "ev"
  refine ⟨p, X.K, dx, [], rfl, hp, T.cK, T.nKl, by decide, ?_⟩
  walk_at "ev"
  refine ⟨p, X.K, dx, _, rfl, upd_same, T.cK, T.nKt, by show 1 < 1000; decide, ?_⟩
  rw [upd_upd]
  refine h _ ?_ fun b o hb nb => ?_
  · rw [upd_same, kindF_mk]
  · rw [upd_ne nb]; exact hb
theorem w0 {w : Int} (hw : w = 0 ∨ w = 1 ∨ w = 2) : words w 0 = wd w := by rcases hw with rfl | rfl | rfl <;> decide +kernel
theorem w3 {w : Int} (hw : w = 0 ∨ w = 1 ∨ w = 2) : words w 3 = (wd w ++ " old") ++ " new" := by rcases hw with rfl | rfl | rfl <;> decide +kernel
theorem w3l {w : Int} (hw : w = 0 ∨ w = 1 ∨ w = 2) : (wd w ++ " old" : Str).length ≤ 20 := by rcases hw with rfl | rfl | rfl <;> decide +kernel
theorem words_go {p lk : Addr} {dx : Addr} {w t : Int} (hw : w = 0 ∨ w = 1 ∨ w = 2) (T : TxW K X) (hp : H p = some (.ins X.K dx (kindF lk t))) (t0 : 0 ≤ t) (t1 : t < 4) (q : Q (.str (words w t)) H) :
    (tSeq (tIfS (tTest (tOp (rNe) (tOp (rI0 fun i j => .int (Builtin.bitAnd i j)) (tFld K (tVar 0) "tells") (tC (.int 1))) (tC (.int 0)))) (tAsg (tOp (G.rCatS) (tVar 1) (tC (.str " old"))) (gName 1)) tNext)
      (tSeq (tIfS (tTest (tOp (rNe) (tOp (rI0 fun i j => .int (Builtin.bitAnd i j)) (tFld K (tVar 0) "tells") (tC (.int 2))) (tC (.int 0)))) (tAsg (tOp (G.rCatS) (tVar 1) (tC (.str " new"))) (gName 1)) tNext)
      (tRet (tVar 1)))) ⟨n, Q, bk, ct⟩ [some (.ref p), some (.str (wd w))] H := by
  have lw := wd_len w
  have ht : t = 0 ∨ t = 1 ∨ t = 2 ∨ t = 3 := by omega
  walk_at "ev"
  refine i_fldK hp T.cK T.nKt kindF_lk_tells ?_
  walk_at "ev"
  rcases ht with rfl | rfl | rfl | rfl
  · refine ifnd (fun z => absurd (by decide) z) (fun _ => ?_)
    walk_at "ev"
    refine i_fldK hp T.cK T.nKt kindF_lk_tells ?_
    walk_at "ev"
    refine ifnd (fun z => absurd (by decide) z) (fun _ => ?_)
    walk_at "ev"
    rw [w0 hw] at q
    exact q
  · refine ifnd (fun _ => ?_) (fun z => absurd z (by decide))
    walk_at "ev"
    refine i_catS (len_ok (by have : (" old" : Str).length = 4 := rfl; omega)) ?_
    walk_at "ev"
    refine i_fldK hp T.cK T.nKt kindF_lk_tells ?_
    walk_at "ev"
    refine ifnd (fun z => absurd (by decide) z) (fun _ => ?_)
    walk_at "ev"
    exact q
  · refine ifnd (fun z => absurd (by decide) z) (fun _ => ?_)
    walk_at "ev"
    refine i_fldK hp T.cK T.nKt kindF_lk_tells ?_
    walk_at "ev"
    refine ifnd (fun _ => ?_) (fun z => absurd z (by decide))
    walk_at "ev"
    refine i_catS (len_ok (by have : (" new" : Str).length = 4 := rfl; omega)) ?_
    walk_at "ev"
    exact q
  · refine ifnd (fun _ => ?_) (fun z => absurd z (by decide))
    walk_at "ev"
    refine i_catS (len_ok (by have : (" old" : Str).length = 4 := rfl; omega)) ?_
    walk_at "ev"
    refine i_fldK hp T.cK T.nKt kindF_lk_tells ?_
    walk_at "ev"
    refine ifnd (fun _ => ?_) (fun z => absurd z (by decide))
    walk_at "ev"
    refine i_catS (len_ok (by have : (" new" : Str).length = 4 := rfl; have := w3l hw; omega)) ?_
    walk_at "ev"
    rw [w3 hw] at q
    exact q
theorem Kind_words_rd {p : Addr} (T : TxW K X) (q : ∃ lk w t, KdO X H p lk w t ∧ 0 ≤ t ∧ t < 4 ∧ ∀ H', Same H H' → Q (.str (words w t)) H') :
    rd_Kind_words K X.E X.F X.L (S_tell (.str "each")) (S_tell (.str "first")) (S_tell (.str "last")) ⟨n, Q, bk, ct⟩ [some (.ref p), none] H := by
  obtain ⟨lk, w, t, ⟨⟨dx, hp⟩, ⟨dl, ol⟩⟩, t0, t1, h⟩ := q
  have h := h H (Same.refl _)
  unfold rd_Kind_words
  refine i_seq ?_
  walk_at "es"
  rcases ol with ⟨rfl, o⟩ | ⟨rfl, o⟩ | ⟨rfl, o⟩
  · refine i_orL ?_
    walk_at "ev"
    refine i_fldK hp T.cK T.nKl kindF_lk_looking ?_
    walk_at "es"
    refine ⟨lk, dl, _, rfl, o, rfl, ?_⟩
    walk_at "es"
    refine ⟨lk, rfl, ?_⟩
    walk_at "es"
    exact words_go (w := 0) (by decide) T hp t0 t1 h
  · refine i_orR (i_orL ?_)
    walk_at "ev"
    refine i_fldK hp T.cK T.nKl kindF_lk_looking ?_
    walk_at "es"
    refine ⟨lk, dl, _, rfl, o, rfl, ?_⟩
    walk_at "es"
    refine ⟨lk, rfl, ?_⟩
    walk_at "es"
    exact words_go (w := 1) (by decide) T hp t0 t1 h
  · refine i_orR (i_orR ?_)
    walk_at "ev"
    refine i_fldK hp T.cK T.nKl kindF_lk_looking ?_
    walk_at "es"
    refine ⟨lk, dl, _, rfl, o, rfl, ?_⟩
    walk_at "es"
    refine ⟨lk, rfl, ?_⟩
    walk_at "es"
    exact words_go (w := 2) (by decide) T hp t0 t1 h
theorem kind_of_rd {z : Str} (T : TxW K X) (q : ∃ w t, 0 ≤ w ∧ w < 3 ∧ 0 ≤ t ∧ t < 4 ∧ z = words w t ∧ ∀ ki lk H', Same H H' → H ki = none → H lk = none → KdO X H' ki lk w t → Q (.ref ki) H') :
    rd_kind_of K X.E X.F X.K X.L (S_Kind_init X.K) (S_words X) ⟨n, Q, bk, ct⟩ [some (.str z), none, none, none] H := by
  obtain ⟨wq, tq, wq0, wq1, tq0, tq1, ez, hq⟩ := q
  unfold rd_kind_of
  walk_at "ev"
  intro af df n1 m1 e1
  have s1 : Same H (upd (upd H df (.own af)) af (.ins X.F df [])) := fun b o hb => by rw [upd_ne (ne_of_none hb n1), upd_ne (ne_of_none hb m1)]; exact hb
  have o1 : upd (upd H df (.own af)) af (.ins X.F df []) af = some (.ins X.F df []) := upd_same
  generalize upd (upd H df (.own af)) af (.ins X.F df []) = H1 at s1 o1 ⊢
  walk_at "ev"
  intro ae de n2 m2 e2
  have s2 : Same H1 (upd (upd H1 de (.own ae)) ae (.ins X.E de [])) := fun b o hb => by rw [upd_ne (ne_of_none hb n2), upd_ne (ne_of_none hb m2)]; exact hb
  have o2 : upd (upd H1 de (.own ae)) ae (.ins X.E de []) ae = some (.ins X.E de []) := upd_same
  generalize upd (upd H1 de (.own ae)) ae (.ins X.E de []) = H2 at s2 o2 ⊢
  walk_at "ev"
  intro al dl n3 m3 e3
  have s3 : Same H2 (upd (upd H2 dl (.own al)) al (.ins X.L dl [])) := fun b o hb => by rw [upd_ne (ne_of_none hb n3), upd_ne (ne_of_none hb m3)]; exact hb
  have o3 : upd (upd H2 dl (.own al)) al (.ins X.L dl []) al = some (.ins X.L dl []) := upd_same
  generalize upd (upd H2 dl (.own al)) al (.ins X.L dl []) = H3 at s3 o3 ⊢
  walk_at "ev"
  refine ⟨len_ok (by simp), fun lp hlp => ?_⟩
  have s4 := same_new hlp (.lst [.ref af, .ref ae, .ref al])
  have g4 : upd H3 lp (.lst [.ref af, .ref ae, .ref al]) lp = some (.lst [.ref af, .ref ae, .ref al]) := upd_same
  generalize upd H3 lp (.lst [.ref af, .ref ae, .ref al]) = H4 at s4 g4 ⊢
  have of4 := s4 _ _ (s3 _ _ (s2 _ _ o1))
  have oe4 := s4 _ _ (s3 _ _ o2)
  have ol4 := s4 _ _ o3
  have s04 := s1.trans (s2.trans (s3.trans s4))
  have lko : ∀ {i : Nat} {x : V}, ([.ref af, .ref ae, .ref al] : List V)[i]? = some x → i < 3 ∧ ∃ lk, x = .ref lk ∧ H lk = none ∧ ∃ dx, ((i : Int) = 0 ∧ H4 lk = some (.ins X.F dx [])) ∨ ((i : Int) = 1 ∧ H4 lk = some (.ins X.E dx [])) ∨ ((i : Int) = 2 ∧ H4 lk = some (.ins X.L dx [])) := by
    intro i x hx
    match i, hx with
    | 0, hx => cases hx; exact ⟨by omega, af, rfl, n1, df, .inl ⟨rfl, of4⟩⟩
    | 1, hx => cases hx; exact ⟨by omega, ae, rfl, s1.free n2, de, .inr (.inl ⟨rfl, oe4⟩)⟩
    | 2, hx => cases hx; exact ⟨by omega, al, rfl, (s1.trans s2).free n3, dl, .inr (.inr ⟨rfl, ol4⟩)⟩
    | k + 3, hx => cases hx
  clear s1 s2 s3 s4 of4 oe4 ol4
  refine ⟨lp, rfl, ⟨_, SqL.of g4⟩, forL [.ref af, .ref ae, .ref al] (fun i σ Hx => ∃ v1 v2 v3, σ = [some (.str z), v1, v2, v3] ∧ Same H4 Hx ∧ ∀ (w : Nat) (t : Int), w < i → 0 ≤ t → t < 4 → z ≠ words w t) ⟨_, _, _, rfl, Same.refl _, fun w t hw => absurd hw (Nat.not_lt_zero _)⟩ (fun _ _ _ _ ⟨_, _, _, _, s, _⟩ => SqL.of (s _ _ g4)) ?_ ?_⟩
  · rintro i x σ H5 hi ⟨v1, v2, v3, rfl, s5, hn⟩
    obtain ⟨hi3, lk, rfl, nlk, dlk, ol⟩ := lko hi
    walk_at "ev"
    refine ⟨4, rfl, by omega, by omega, ?_⟩
    refine forR (fun k σ Hx => ∃ v2 v3, σ = [some (.str z), some (.ref lk), v2, v3] ∧ Same H4 Hx ∧ ∀ (t : Int), 0 ≤ t → t < k → z ≠ words i t) ⟨_, _, rfl, s5, fun t h0 h1 => absurd h1 (by omega)⟩ ?_ ?_
    · rintro k σ H6 hk ⟨v2, v3, rfl, s6, hn2⟩
      have hk4 : k < 4 := hk
      have e0 : (0 : Int) + (k : Int) = k := by omega
      rw [e0]
      walk_at "ev"
      intro p dx np ndx ned
      refine ⟨p, lk, k, rfl, dx, upd_same, fun H7 k1 k2 => ⟨rfl, ?_⟩⟩
      have s7 : Same H6 H7 := fun b o hb => by
        refine k2 b o ?_ (ne_of_none hb np)
        rw [upd_ne (ne_of_none hb np), upd_ne (ne_of_none hb ndx)]
        exact hb
      have kd : KdO X H7 p lk i k := ⟨⟨dx, k1⟩, ⟨dlk, by
        rcases ol with ⟨e, o⟩ | ⟨e, o⟩ | ⟨e, o⟩
        · exact .inl ⟨e, s7 _ _ (s6 _ _ o)⟩
        · exact .inr (.inl ⟨e, s7 _ _ (s6 _ _ o)⟩)
        · exact .inr (.inr ⟨e, s7 _ _ (s6 _ _ o)⟩)⟩⟩
      walk_at "ev"
      refine ⟨p, dx, _, rfl, k1, kindF_no_words, ?_⟩
      walk_at "ev"
      refine ⟨p, rfl, lk, i, k, kd, by omega, by omega, fun H8 s8 => ?_⟩
      walk_at "ev"
      refine ifd (fun e => ?_) (fun e => ?_)
      · walk_at "ev"
        obtain ⟨rfl, rfl⟩ := words_inj wq0 wq1 tq0 tq1 (by omega) (by omega) (by omega) (by omega) (ez.symm.trans e.symm)
        refine hq p lk _ (s04.trans (s6.trans (s7.trans s8))) ((s04.trans s6).free np) nlk ⟨⟨dx, s8 _ _ k1⟩, ?_⟩
        obtain ⟨_, ⟨d, od⟩⟩ := kd
        refine ⟨d, ?_⟩
        rcases od with ⟨e, o⟩ | ⟨e, o⟩ | ⟨e, o⟩
        · exact .inl ⟨e, s8 _ _ o⟩
        · exact .inr (.inl ⟨e, s8 _ _ o⟩)
        · exact .inr (.inr ⟨e, s8 _ _ o⟩)
      · walk_at "ev"
        refine ⟨_, _, rfl, s6.trans (s7.trans s8), fun t t0 t1 => ?_⟩
        by_cases ht : t = k
        · rw [ht]
          exact fun w => e w.symm
        · exact hn2 t t0 (by omega)
    · rintro σ H3 ⟨v2, v3, rfl, s3, hn2⟩
      refine ⟨_, _, _, rfl, s3, fun w t hw t0 t1 => ?_⟩
      by_cases hwi : w = i
      · rw [hwi]
        exact hn2 t t0 t1
      · exact hn w t (by omega) t0 t1
  · rintro σ H2 ⟨v1, v2, v3, rfl, s2, hn⟩
    exfalso
    have := hn wq.toNat tq (by show wq.toNat < 3; omega) tq0 tq1
    have e : ((wq.toNat : Nat) : Int) = wq := by omega
    rw [e] at this
    exact this ez
end
structure Ex (p : Addr) (H H' : Hp) (T T' : Tg) : Prop where
  kp : ∀ b o, H b = some o → b ≠ p → H' b = some o
  al : ∀ b o, H b = some o → ∃ o', H' b = some o'
  tg : ∀ b o, H b = some o → T' b = T b
  wt : WT H' T'
section
variable {p : Addr} {H H1 H2 H' : Hp} {T T1 T2 T' : Tg}
theorem Ex.trans (a : Ex p H H1 T T1) (b : Ex p H1 H2 T1 T2) : Ex p H H2 T T2 where
  kp := fun x o h n => b.kp x o (a.kp x o h n) n
  al := fun x o h => by obtain ⟨o1, h1⟩ := a.al x o h; exact b.al x o1 h1
  tg := fun x o h => by obtain ⟨o1, h1⟩ := a.al x o h; rw [b.tg x o1 h1, a.tg x o h]
  wt := b.wt
theorem wt_of (w : WT H T) (al : ∀ b o, H b = some o → ∃ o', H' b = some o') : WT H' T := fun b h => w b (by
  cases z : H b with
  | none => rfl
  | some o => obtain ⟨o', e⟩ := al b o z; rw [h] at e; cases e)
theorem wt_set {a : Addr} {o : HO} {v : Nat × Nat} (w : WT H T) (h : H a = some o) : WT H (setT T a v) := fun b hb => by
  rw [setT_ne (fun e => by rw [e, h] at hb; cases hb)]; exact w b hb
theorem Ex.updp {o o0 : HO} (w : WT H T) (h : H p = some o0) : Ex p H (upd H p o) T T where
  kp := fun x u hx n => by rw [upd_ne n]; exact hx
  al := fun x u hx => by
    by_cases e : x = p
    · exact ⟨o, by rw [e, upd_same]⟩
    · exact ⟨u, by rw [upd_ne e]; exact hx⟩
  tg := fun _ _ _ => rfl
  wt := wt_of w fun x u hx => by
    by_cases e : x = p
    · exact ⟨o, by rw [e, upd_same]⟩
    · exact ⟨u, by rw [upd_ne e]; exact hx⟩
theorem Ex.news {vs : List (Addr × (Nat × Nat))} (w : WT H T) (s : Same H H') (hn : ∀ v ∈ vs, H v.1 = none ∧ ∃ o, H' v.1 = some o) : Ex p H H' T (vs.foldr (fun v t => setT t v.1 v.2) T) := by
  have tg : ∀ b o, H b = some o → (vs.foldr (fun v t => setT t v.1 v.2) T) b = T b := by
    intro b o hb
    induction vs with
    | nil => rfl
    | cons v vs ih =>
      show setT _ v.1 v.2 b = _
      rw [setT_ne (ne_of_none hb (hn v List.mem_cons_self).1)]
      exact ih fun u hu => hn u (List.mem_cons_of_mem _ hu)
  refine ⟨fun b o hb _ => s _ _ hb, fun b o hb => ⟨o, s _ _ hb⟩, tg, ?_⟩
  clear tg
  induction vs with
  | nil => exact w.same s
  | cons v vs ih =>
    obtain ⟨o, ho⟩ := (hn v List.mem_cons_self).2
    exact wt_set (ih fun u hu => hn u (List.mem_cons_of_mem _ hu)) ho
end
section
variable {K : PySem.W.Frag} {X : Cs} {H : Hp} {Q : VK} {E : XK} {n : St → Hp → Prop} {bk ct : St → Hp → Prop}
theorem World___init___rd {p ki hl0 : Addr} {room : Int} (T : TxW K X) (q : ∃ dx T s lk w t, ∃ ts : List Addr, ∃ hands, H p = some (.ins X.W dx []) ∧ WT H T ∧ s ≠ 0 ∧ KdO X H ki lk w t ∧ T ki = (0, 0) ∧ T lk = (0, 0) ∧ ki ≠ p ∧ lk ≠ p ∧ H hl0 = some (.lst (ts.map V.ref)) ∧
  Al (fun (t : Addr) (m : Str × Int) => H t = some (.tup [.str m.1, .int m.2]) ∧ 0 ≤ m.2 ∧ m.2 ≤ 1000) ts hands ∧ hands.length ≤ 30 ∧
  ∀ H' T' A, (∀ b o, H b = some o → b ≠ p → H' b = some o) → (∀ b o, H b = some o → b ≠ p → T' b = T b) → WT H' T' → A.wo = p → WJ X H' T' s A (newW room hands w t) → Q .non H') :
    rd_World___init__ K X.D X.H X.S (S_Hand_init X.D) (S_Heap_init X.H) (S_Sweeper_init X.S) ⟨fun _ H' => Q .non H', Q, bk, ct⟩ [some (.ref p), some (.int room), some (.ref ki), some (.ref hl0)] H := by
  obtain ⟨dx, T0, s, lk, w, t, ts, hands, hp, wt0, s0, kd, tki, tlk, nki, nlk, oh0, al, hn, hQ⟩ := q
  have x0 : WT H (setT T0 p (s, 0)) := wt_set wt0 hp
  have tp : setT T0 p (s, 0) p = (s, 0) := setT_same
  have to0 : ∀ b o, H b = some o → b ≠ p → setT T0 p (s, 0) b = T0 b := fun b _ _ hb => setT_ne hb
  generalize hT : setT T0 p (s, 0) = Ta at x0 tp to0
  unfold rd_World___init__
  walk_at "ev"
  intro hq dh nh ndh neh
  refine ⟨hq, room, rfl, dh, upd_same, fun ca H1 nca a1 a2 k1 => ⟨rfl, ?_⟩⟩
  have nca0 : H ca = none := by
    by_cases z : ca = hq
    · rw [z, upd_same] at nca; cases nca
    · rw [upd_ne z] at nca
      by_cases y : ca = dh
      · rw [y, upd_same] at nca; cases nca
      · rw [upd_ne y] at nca; exact nca
  have sm1 : Same H H1 := fun b o hb => k1 b o (by rw [upd_ne (ne_of_none hb nh), upd_ne (ne_of_none hb ndh)]; exact hb) (ne_of_none hb nh)
  have e1 : Ex p H H1 Ta _ := Ex.news (vs := [(hq, (s, 1)), (ca, (s, 2))]) x0 sm1 (by
    intro v hv
    simp only [List.mem_cons, List.not_mem_nil, or_false] at hv
    rcases hv with rfl | rfl
    · exact ⟨nh, _, a1⟩
    · exact ⟨nca0, _, a2⟩)
  have nhc : hq ≠ ca := ne_of a1 a2 (fun z => by cases z)
  have th1 : ([(hq, (s, 1)), (ca, (s, 2))].foldr (fun v t => setT t v.1 v.2) Ta) hq = (s, 1) := setT_same
  have tc1 : ([(hq, (s, 1)), (ca, (s, 2))].foldr (fun v t => setT t v.1 v.2) Ta) ca = (s, 2) := (setT_ne nhc.symm).trans setT_same
  generalize ([(hq, (s, 1)), (ca, (s, 2))] : List (Addr × (Nat × Nat))).foldr (fun v t => setT t v.1 v.2) Ta = Tb at e1 th1 tc1
  have hp1 := sm1 _ _ hp
  have nph : hq ≠ p := fun z => by rw [z, hp] at nh; cases nh
  have npc : ca ≠ p := fun z => by rw [z, hp] at nca0; cases nca0
  clear k1 nca
  walk_at "ev"
  refine ⟨p, X.W, dx, [], rfl, hp1, T.cW, T.nWh, by decide, ?_⟩
  have e2 := e1.trans (Ex.updp (o := .ins X.W dx (putF "heap" (.ref hq) [])) e1.wt hp1)
  have g2 : upd H1 p (.ins X.W dx (putF "heap" (.ref hq) [])) p = some (.ins X.W dx (putF "heap" (.ref hq) [])) := upd_same
  have a1 := (upd_ne (o := .ins X.W dx (putF "heap" (.ref hq) [])) nph).trans a1
  have a2 := (upd_ne (o := .ins X.W dx (putF "heap" (.ref hq) [])) npc).trans a2
  generalize upd H1 p (.ins X.W dx (putF "heap" (.ref hq) [])) = H2 at e2 g2 a1 a2 ⊢
  walk_at "ev"
  refine ⟨p, X.W, dx, _, rfl, g2, T.cW, T.nWk, by show 1 < 1000; decide, ?_⟩
  have e3 := e2.trans (Ex.updp (o := .ins X.W dx (putF "kind" (.ref ki) (putF "heap" (.ref hq) []))) e2.wt g2)
  have g3 : upd H2 p (.ins X.W dx (putF "kind" (.ref ki) (putF "heap" (.ref hq) []))) p = some (.ins X.W dx (putF "kind" (.ref ki) (putF "heap" (.ref hq) []))) := upd_same
  have a1 := (upd_ne (o := .ins X.W dx (putF "kind" (.ref ki) (putF "heap" (.ref hq) []))) nph).trans a1
  have a2 := (upd_ne (o := .ins X.W dx (putF "kind" (.ref ki) (putF "heap" (.ref hq) []))) npc).trans a2
  generalize upd H2 p (.ins X.W dx (putF "kind" (.ref ki) (putF "heap" (.ref hq) []))) = H3 at e3 g3 a1 a2 ⊢
  generalize hF3 : (putF "kind" (.ref ki) (putF "heap" (.ref hq) [])) = F3 at g3 ⊢
  have lF3 : F3.length = 2 := by rw [← hF3]; rfl
  have oh3 : H3 hl0 = some (.lst (ts.map V.ref)) := e3.kp _ _ oh0 (fun z => by rw [z, hp] at oh0; cases oh0)
  have ltl : ts.length = hands.length := al.length
  have tup3 : ∀ (i : Nat) a, ts[i]? = some a → ∃ m, hands[i]? = some m ∧ H3 a = some (.tup [.str m.1, .int m.2]) ∧ 0 ≤ m.2 ∧ m.2 ≤ 1000 := fun i a ha => by
    have hl : i < hands.length := by rw [← ltl]; exact (List.getElem?_eq_some_iff.mp ha).1
    obtain ⟨a', ha', z1, z2, z3⟩ := al.get (List.getElem?_eq_getElem hl)
    rw [ha] at ha'
    cases ha'
    exact ⟨_, List.getElem?_eq_getElem hl, e3.kp _ _ z1 (fun z => by rw [z, hp] at z1; cases z1), z2, z3⟩
  have lo := e3.wt
  walk_at "ev"
  refine ⟨_, rfl, ⟨_, SqL.of oh3⟩, lcg2_of ?_⟩
  refine ⟨fun i m ys Hx => i ≤ ts.length ∧ m = ts.length - i ∧ ∃ (hs : List (Addr × Addr)) (Tx : Tg), ys = hs.map (fun q => V.ref q.1) ∧ hs.length = i ∧ Same H3 Hx ∧ Ex p H3 Hx Tb Tx ∧ ∀ (j : Nat) q m, hs[j]? = some q → hands[j]? = some m → HdO X.D Hx Tx s j q (m.1, List.replicate m.2.toNat none) ∧ q.1 ≠ p ∧ q.2 ≠ p,
    ⟨ts.length, Nat.zero_le _, rfl, [], Tb, rfl, rfl, Same.refl _, ⟨fun _ _ h _ => h, fun _ o h => ⟨o, h⟩, fun _ _ _ => rfl, lo⟩, fun j q m e => by simp at e⟩, ?_⟩
  rintro i m ys Hx ⟨hi, rfl, hs, Tx, rfl, hl, sx, ex, hds⟩
  by_cases hk : i = ts.length
  · refine .inl ⟨⟨_, SqL.of (sx _ _ oh3), by rw [List.length_map]; omega⟩, fun hla nhl => ?_⟩
    have nhl3 : H3 hla = none := sx.free nhl
    have s4 := same_new nhl (.lst (hs.map fun q => V.ref q.1))
    have e4 : Ex p Hx _ Tx _ := Ex.news (p := p) (vs := [(hla, (s, 5))]) ex.wt s4 (by
      intro v hv
      rw [List.mem_singleton.mp hv]
      exact ⟨nhl, _, upd_same⟩)
    have t4 : ([(hla, (s, 5))].foldr (fun v t => setT t v.1 v.2) Tx) hla = (s, 5) := setT_same
    have o4 : upd Hx hla (.lst (hs.map fun q => V.ref q.1)) hla = some (.lst (hs.map fun q => V.ref q.1)) := upd_same
    have hpx := sx _ _ g3
    have nhp : hla ≠ p := fun z => by rw [z, hpx] at nhl; cases nhl
    have hp4 := s4 _ _ hpx
    generalize upd Hx hla (.lst (hs.map fun q => V.ref q.1)) = H4 at s4 e4 o4 hp4 ⊢
    generalize ([(hla, (s, 5))] : List (Addr × (Nat × Nat))).foldr (fun v t => setT t v.1 v.2) Tx = T4 at e4 t4
    walk_at "ev"
    refine ⟨p, X.W, dx, _, rfl, hp4, T.cW, T.nWd, by rw [lF3]; decide, ?_⟩
    have e5 := Ex.updp (p := p) (o := .ins X.W dx (putF "hands" (.ref hla) F3)) e4.wt hp4
    have hp5 : upd H4 p (.ins X.W dx (putF "hands" (.ref hla) F3)) p = some (.ins X.W dx (putF "hands" (.ref hla) F3)) := upd_same
    generalize upd H4 p (.ins X.W dx (putF "hands" (.ref hla) F3)) = H5 at e5 hp5 ⊢
    walk_at "ev"
    intro nm hnm
    have nnp : nm ≠ p := fun z => by rw [z, hp5] at hnm; cases hnm
    have s6 := same_new hnm (.dK [])
    have e6 : Ex p H5 _ T4 _ := Ex.news (p := p) (vs := [(nm, (s, 6))]) e5.wt s6 (by
      intro v hv
      rw [List.mem_singleton.mp hv]
      exact ⟨hnm, _, upd_same⟩)
    have t6 : ([(nm, (s, 6))].foldr (fun v t => setT t v.1 v.2) T4) nm = (s, 6) := setT_same
    have o6 : upd H5 nm (.dK []) nm = some (.dK []) := upd_same
    have hp6 := s6 _ _ hp5
    generalize upd H5 nm (.dK []) = H6 at s6 e6 o6 hp6 ⊢
    generalize ([(nm, (s, 6))] : List (Addr × (Nat × Nat))).foldr (fun v t => setT t v.1 v.2) T4 = T6 at e6 t6
    walk_at "ev"
    refine ⟨p, X.W, dx, _, rfl, hp6, T.cW, T.nWn, by rw [← hF3]; show 3 < 1000; decide, ?_⟩
    have e7 := Ex.updp (p := p) (o := .ins X.W dx (putF "names" (.ref nm) (putF "hands" (.ref hla) F3))) e6.wt hp6
    have hp7 : upd H6 p (.ins X.W dx (putF "names" (.ref nm) (putF "hands" (.ref hla) F3))) p = some (.ins X.W dx (putF "names" (.ref nm) (putF "hands" (.ref hla) F3))) := upd_same
    generalize upd H6 p (.ins X.W dx (putF "names" (.ref nm) (putF "hands" (.ref hla) F3))) = H7 at e7 hp7 ⊢
    walk_at "ev"
    intro sw ds nsw nds nes
    refine ⟨sw, rfl, ds, upd_same, fun gr H8 ngr b1 b2 k8 => ⟨rfl, ?_⟩⟩
    have ngr0 : H7 gr = none := by
      by_cases z : gr = sw
      · rw [z, upd_same] at ngr; cases ngr
      · rw [upd_ne z] at ngr
        by_cases y : gr = ds
        · rw [y, upd_same] at ngr; cases ngr
        · rw [upd_ne y] at ngr; exact ngr
    have s8 : Same H7 H8 := fun b o hb => k8 b o (by rw [upd_ne (ne_of_none hb nsw), upd_ne (ne_of_none hb nds)]; exact hb) (ne_of_none hb nsw)
    have e8 : Ex p H7 H8 T6 _ := Ex.news (p := p) (vs := [(sw, (s, 7)), (gr, (s, 8))]) e7.wt s8 (by
      intro v hv
      simp only [List.mem_cons, List.not_mem_nil, or_false] at hv
      rcases hv with rfl | rfl
      · exact ⟨nsw, _, b1⟩
      · exact ⟨ngr0, _, b2⟩)
    have nsg : sw ≠ gr := ne_of b1 b2 (fun z => by cases z)
    have ts8 : ([(sw, (s, 7)), (gr, (s, 8))].foldr (fun v t => setT t v.1 v.2) T6) sw = (s, 7) := setT_same
    have tg8 : ([(sw, (s, 7)), (gr, (s, 8))].foldr (fun v t => setT t v.1 v.2) T6) gr = (s, 8) := (setT_ne nsg.symm).trans setT_same
    generalize ([(sw, (s, 7)), (gr, (s, 8))] : List (Addr × (Nat × Nat))).foldr (fun v t => setT t v.1 v.2) T6 = T8 at e8 ts8 tg8
    have hp8 := s8 _ _ hp7
    have nsp : sw ≠ p := fun z => by rw [z, hp7] at nsw; cases nsw
    have ngp : gr ≠ p := fun z => by rw [z, hp7] at ngr0; cases ngr0
    clear k8 ngr
    walk_at "ev"
    refine ⟨p, X.W, dx, _, rfl, hp8, T.cW, T.nWs, by rw [← hF3]; show 4 < 1000; decide, ?_⟩
    have e9 := Ex.updp (p := p) (o := .ins X.W dx (putF "sweeper" (.ref sw) (putF "names" (.ref nm) (putF "hands" (.ref hla) F3)))) e8.wt hp8
    have hp9 : upd H8 p (.ins X.W dx (putF "sweeper" (.ref sw) (putF "names" (.ref nm) (putF "hands" (.ref hla) F3)))) p = some (.ins X.W dx (worldF hq ki hla nm sw)) := by
      rw [upd_same, ← hF3, worldF_mk]
    generalize upd H8 p (.ins X.W dx (putF "sweeper" (.ref sw) (putF "names" (.ref nm) (putF "hands" (.ref hla) F3)))) = H9 at e9 hp9 ⊢
    have f89 := e9
    have f69 := e7.trans (e8.trans e9)
    have f49 := e5.trans (e6.trans f69)
    have fx9 := e4.trans f49
    have f39 := ex.trans fx9
    have f09 := e3.trans f39
    obtain ⟨⟨dk, ok⟩, ⟨dl, ol⟩⟩ := kd
    have hlk : ∃ o, H lk = some o := by
      rcases ol with ⟨_, z⟩ | ⟨_, z⟩ | ⟨_, z⟩
      · exact ⟨_, z⟩
      · exact ⟨_, z⟩
      · exact ⟨_, z⟩
    obtain ⟨olk, elk⟩ := hlk
    refine hQ H9 T8 ⟨p, hq, ca, ki, lk, hla, nm, sw, gr, hs, [], []⟩ f09.kp (fun b o hb nb => (f09.tg b o hb).trans (to0 b o hb nb)) f09.wt rfl ⟨⟨(f09.tg _ _ hp).trans tp, (f09.tg _ _ ok).trans ((to0 _ _ ok nki).trans tki), (f09.tg _ _ elk).trans ((to0 _ _ elk nlk).trans tlk), (f49.tg _ _ o4).trans t4, ⟨dx, hp9⟩, ⟨dk, f09.kp _ _ ok nki⟩, ⟨dl, ?_⟩, f49.kp _ _ o4 nhp⟩,
      ⟨(f39.tg _ _ a1).trans th1, (f39.tg _ _ a2).trans tc1, ⟨dh, f39.kp _ _ a1 nph⟩, f39.kp _ _ a2 npc⟩, ⟨(f69.tg _ _ o6).trans t6, f69.kp _ _ o6 nnp, .nil⟩,
      ⟨(f89.tg _ _ b1).trans ts8, (f89.tg _ _ b2).trans tg8, ⟨ds, f89.kp _ _ b1 nsp⟩, f89.kp _ _ b2 ngp⟩, ⟨?_, by show hs.length ≤ 30; rw [hl, hk, ltl]; exact hn, ?_⟩, ⟨rfl, fun i q c z => by simp at z⟩⟩
    · rcases ol with ⟨z, y⟩ | ⟨z, y⟩ | ⟨z, y⟩
      · exact .inl ⟨z, f09.kp _ _ y nlk⟩
      · exact .inr (.inl ⟨z, f09.kp _ _ y nlk⟩)
      · exact .inr (.inr ⟨z, f09.kp _ _ y nlk⟩)
    · show hs.length = (hands.map _).length
      rw [List.length_map, hl, hk, ltl]
    · intro j q m z1 z2
      have z2 : (hands.map fun m => (m.1, List.replicate m.2.toNat none))[j]? = some m := z2
      rw [List.getElem?_map] at z2
      obtain ⟨m0, y1, rfl⟩ := Option.map_eq_some_iff.mp z2
      obtain ⟨⟨u1, u2, ⟨du, u3⟩, u4⟩, v1, v2⟩ := hds j q m0 z1 y1
      exact ⟨(fx9.tg _ _ u3).trans u1, (fx9.tg _ _ u4).trans u2, ⟨du, fx9.kp _ _ u3 v1⟩, fx9.kp _ _ u4 v2⟩
  · have hlt : i < ts.length := by omega
    refine .inr ⟨⟨_, _, SqL.of (sx _ _ oh3), by rw [List.getElem?_map, List.getElem?_eq_getElem hlt]; rfl⟩, ?_, fun x H' y => ?_⟩
    · rw [List.length_map, hl]
      exact Nat.lt_of_lt_of_le hlt (len_ok (by omega))
    obtain ⟨y1, y2⟩ := y
    subst y1
    have ey := y2 _ (SqL.of (sx _ _ oh3))
    rw [List.getElem?_map, List.getElem?_eq_getElem hlt] at ey
    have ey : x = .ref ts[i] := (Option.some.inj ey).symm
    subst ey
    obtain ⟨m, hm, ot, m0, m1⟩ := tup3 i _ (List.getElem?_eq_getElem hlt)
    refine i_true (iteT ⟨ts[i], .str m.1, .int m.2, _, rfl, SqT.of (sx _ _ ot), ?_⟩)
    walk_at "caps"
    walk_at "ev"
    intro q1 dq nq ndq neq
    refine ⟨q1, m.1, m.2, rfl, dq, upd_same, m0, m1, fun sa Hy nsa b1 b2 k => ⟨rfl, ?_⟩⟩
    have nsa0 : H' sa = none := by
      by_cases z : sa = q1
      · rw [z, upd_same] at nsa; cases nsa
      · rw [upd_ne z] at nsa
        by_cases y : sa = dq
        · rw [y, upd_same] at nsa; cases nsa
        · rw [upd_ne y] at nsa; exact nsa
    have sy : Same H' Hy := fun b o hb => k b o (by rw [upd_ne (ne_of_none hb nq), upd_ne (ne_of_none hb ndq)]; exact hb) (ne_of_none hb nq)
    have ey : Ex p H' Hy Tx _ := Ex.news (p := p) (vs := [(q1, (s, 20 + 2 * i)), (sa, (s, 21 + 2 * i))]) ex.wt sy (by
      intro v hv
      simp only [List.mem_cons, List.not_mem_nil, or_false] at hv
      rcases hv with rfl | rfl
      · exact ⟨nq, _, b1⟩
      · exact ⟨nsa0, _, b2⟩)
    have nqs : q1 ≠ sa := ne_of b1 b2 (fun z => by cases z)
    have hpx := sx _ _ g3
    refine ⟨ts.length - (i + 1), by omega, by omega, rfl, hs ++ [(q1, sa)], _, by rw [List.map_append]; rfl, by rw [List.length_append, hl]; rfl, sx.trans sy, ex.trans ey, fun j q m' z1 z2 => ?_⟩
    by_cases hj : j < hs.length
    · rw [List.getElem?_append_left hj] at z1
      obtain ⟨⟨u1, u2, ⟨du, u3⟩, u4⟩, v1, v2⟩ := hds j q m' z1 z2
      exact ⟨⟨(ey.tg _ _ u3).trans u1, (ey.tg _ _ u4).trans u2, ⟨du, sy _ _ u3⟩, sy _ _ u4⟩, v1, v2⟩
    · have hj' := (List.getElem?_eq_some_iff.mp z1).1
      rw [List.length_append, List.length_singleton] at hj'
      have ej : j = hs.length := by omega
      subst ej
      rw [List.getElem?_append_right (Nat.le_refl _), Nat.sub_self] at z1
      cases z1
      rw [hl] at z2 ⊢
      rw [hm] at z2
      cases z2
      exact ⟨⟨setT_same, (setT_ne nqs.symm).trans setT_same, ⟨dq, b1⟩, by rw [b2, List.map_replicate]; rfl⟩, (fun z => by rw [show q1 = p from z, hpx] at nq; cases nq), (fun z => by rw [show sa = p from z, hpx] at nsa0; cases nsa0)⟩
end
def S_mix : Sp := fun vs H Q E => ∃ c f, vs = [.int c, .int f] ∧ 0 ≤ f ∧ f < 2 ^ 31 ∧ ∀ z : Int, 0 ≤ z → Q (.int z) H
section
variable {K : PySem.W.Frag} {H : Hp} {Q : VK} {E : XK} {n : St → Hp → Prop} {bk ct : St → Hp → Prop}
theorem _law_mix_rd {c f : Int} (q : 0 ≤ f ∧ f < 2 ^ 31 ∧ ∀ z : Int, 0 ≤ z → Q (.int z) H) : rd__law_mix ⟨n, Q, bk, ct⟩ [some (.int c), some (.int f), none] H := by
  obtain ⟨h0, h1, h⟩ := q
  unfold rd__law_mix
  walk_at "ev"
  refine h _ ?_
  generalize (c * f + 12345) % 2147483647 = d
  have := Int.emod_nonneg (d * d) (show (2147483629 : Int) ≠ 0 by decide)
  generalize d * d % 2147483629 = e at this ⊢
  omega
end
def markM (M : Wm) (i : Int) (c : Ce) : Str := if M.sw.phase = "rest" then "kept" else if M.sw.phase = "give" then (if c.tone = M.sw.sense then "kept" else "doomed") else if c.tone = M.sw.sense then (if i ∈ M.sw.grey then "grey" else "dark") else "pale"
def toldM (M : Wm) : List (Int × Ce) := (List.range M.cells.length).filterMap fun (i : Nat) => ((M.cells[i]?).join).map fun c => ((i : Int), c)
def S_mark_of (X : Cs) : Sp := fun vs H Q E => ∃ wo i, vs = [.ref wo, .int i] ∧ ∃ T s A M c, WJ X H T s A M ∧ A.wo = wo ∧ 0 ≤ i ∧ M.cells[i.toNat]? = some (some c) ∧ Q (.str (markM M i c)) H
def TcO (M : Wm) (H : Hp) (p : Addr × Addr) (t : Int × Ce) : Prop := H p.1 = some (.tup [.int t.1, .int t.2.birth, .int t.2.bulk, .int t.2.load, .ref p.2, .str (markM M t.1 t.2)]) ∧ H p.2 = some (.lst ((t.2.fl.map (bAt M)).map oV))
def S_told_cell (X : Cs) : Sp := fun vs H Q E => ∃ wo i, vs = [.ref wo, .int i] ∧ ∃ T s A M c, WJ X H T s A M ∧ A.wo = wo ∧ 0 ≤ i ∧ M.cells[i.toNat]? = some (some c) ∧ c.fl.length ≤ 1000 ∧ ∀ a l H', Same H H' → H a = none → H l = none → TcO M H' (a, l) (i, c) → Q (.ref a) H'
def S_told (X : Cs) : Sp := fun vs H Q E => ∃ wo, vs = [.ref wo] ∧ ∃ T s A M, WJ X H T s A M ∧ A.wo = wo ∧ M.cells.length ≤ 1000 ∧ (∀ c, some c ∈ M.cells → c.fl.length ≤ 1000) ∧
  ∀ (l : Addr) (ls : List Addr) H', Same H H' → H' l = some (.lst (ls.map V.ref)) → ls.length = (toldM M).length → (∀ (j : Nat) r t, ls[j]? = some r → (toldM M)[j]? = some t → ∃ f, TcO M H' (r, f) t ∧ H f = none ∧ H r = none) → H l = none → Q (.ref l) H'
theorem plc_told {X : Cs} {H : Hp} {T : Tg} {s : Nat} {A : Wa} {M : Wm} (j : WJ X H T s A M) : plc (A.cs.map pV) = (toldM M).map (·.1) := by
  have key : ∀ i, i < M.cells.length → (decide ((A.cs.map pV)[i]? = some V.non) = true ↔ (M.cells[i]?).join = none) := fun i hi => by
    rw [decide_eq_true_iff, List.getElem?_map]
    cases hc : M.cells[i]? with
    | none => rw [List.getElem?_eq_none_iff] at hc; omega
    | some y => cases y with
      | none => rw [j.jc.at0 hc]; simp [pV]
      | some c =>
        obtain ⟨p, hp, _⟩ := j.jc.at hc
        rw [hp]; simp [pV]
  unfold plc toldM
  rw [List.length_map, j.jc.lc]
  generalize hn : M.cells.length = n at key
  clear hn
  induction n with
  | zero => rfl
  | succ n ih =>
    rw [List.range_succ, List.filter_append, List.map_append, List.filterMap_append, List.map_append, ih fun i hi => key i (by omega)]
    congr 1
    have k := key n (by omega)
    cases hc : (M.cells[n]?).join with
    | none =>
      have : decide ((A.cs.map pV)[n]? = some V.non) = true := k.mpr hc
      simp only [List.filter_cons, this, Bool.not_true, List.filter_nil, List.filterMap_cons, hc, Option.map_none, List.filterMap_nil]
      rfl
    | some c =>
      have : decide ((A.cs.map pV)[n]? = some V.non) = false := by
        cases hd : decide ((A.cs.map pV)[n]? = some V.non) with
        | false => rfl
        | true => rw [k.mp hd] at hc; cases hc
      simp only [List.filter_cons, this, Bool.not_false, List.filter_nil, List.filterMap_cons, hc, Option.map_some, List.filterMap_nil]
      rfl
theorem told_at {M : Wm} {j : Nat} {t : Int × Ce} (h : (toldM M)[j]? = some t) : 0 ≤ t.1 ∧ M.cells[t.1.toNat]? = some (some t.2) := by
  have hm := List.mem_of_getElem? h
  unfold toldM at hm
  obtain ⟨i, hi, e⟩ := List.mem_filterMap.mp hm
  obtain ⟨c, hc, rfl⟩ := Option.map_eq_some_iff.mp e
  refine ⟨by show (0 : Int) ≤ (i : Nat); omega, ?_⟩
  show M.cells[((i : Nat) : Int).toNat]? = some (some c)
  rw [Int.toNat_natCast]
  cases hx : M.cells[i]? with
  | none => rw [hx] at hc; cases hc
  | some y => rw [hx] at hc; rw [show y = some c from hc]
section
variable {K : PySem.W.Frag} {X : Cs} {H : Hp} {Q : VK} {E : XK} {n : St → Hp → Prop} {bk ct : St → Hp → Prop}
theorem inV_ints {i : Int} {l : List Int} : inV (.int i) (l.map V.int) = decide (i ∈ l) := by
  unfold inV
  induction l with
  | nil => rfl
  | cons a l ih =>
    rw [List.map_cons, List.any_cons, ih]
    by_cases e : i = a
    · subst e; simp [eqV]
    · have e' : ¬ a = i := fun z => e z.symm
      simp [eqV, e, e']
theorem mark_of_rd {wo : Addr} {i : Int} (T : TxW K X) (q : ∃ T s A M c, WJ X H T s A M ∧ A.wo = wo ∧ 0 ≤ i ∧ M.cells[i.toNat]? = some (some c) ∧ Q (.str (markM M i c)) H) : rd_mark_of K (S_has_sense X) ⟨n, Q, bk, ct⟩ [some (.ref wo), some (.int i), none, none] H := by
  obtain ⟨Tg, s, A, M, c, j, rfl, h0, hc, q⟩ := q
  obtain ⟨d1, ow⟩ := j.jb.ow
  obtain ⟨d2, os⟩ := j.js.os
  obtain ⟨th, tc, ⟨d3, oh⟩, oc⟩ := j.jh
  obtain ⟨p, hp, ce⟩ := j.jc.at hc
  unfold rd_mark_of
  walk_at "ev"
  refine i_fldK ow T.cW T.nWs worldF_lk_sweeper ?_
  walk_at "ev"
  refine i_fldK ow T.cW T.nWh worldF_lk_heap ?_
  refine i_fldK oh T.c.cl_Heap T.c.n_Heap_cells heapF_lk_cells ?_
  walk_at "ev"
  refine i_ixL (SqL.of oc) (atI_int (v := .ref p.1) h0 (by rw [List.getElem?_map, hp]; rfl)) ?_
  walk_at "ev"
  refine ⟨_, _, rfl, Tg, s, A, M, _, p, c, j, rfl, ce, rfl, ?_⟩
  walk_at "ev"
  refine i_fldK os T.cS T.n2 sweepF_lk_phase ?_
  walk_at "ev"
  unfold markM at q
  refine ifd (fun z => ?_) (fun z => ?_)
  · rw [if_pos z] at q
    walk_at "ev"
    exact q
  · rw [if_neg z] at q
    walk_at "ev"
    refine i_fldK os T.cS T.n2 sweepF_lk_phase ?_
    walk_at "ev"
    refine ifd (fun y => ?_) (fun y => ?_)
    · rw [if_pos y] at q
      walk_at "ev"
      refine ifd (fun x => ?_) (fun x => ?_)
      · rw [if_pos x] at q
        walk_at "ev"
        exact q
      · rw [if_neg x] at q
        walk_at "ev"
        exact q
    · rw [if_neg y] at q
      walk_at "ev"
      refine ifnd (fun x => ?_) (fun x => ?_)
      · rw [if_neg x] at q
        walk_at "ev"
        exact q
      · rw [if_pos x] at q
        walk_at "ev"
        refine i_fldK os T.cS T.n3 sweepF_lk_grey ?_
        refine ⟨_, _, rfl, .inl (SqL.of j.js.og), rfl, ?_, ?_⟩
        · rw [List.all_map, List.all_eq_true]
          intro a _
          rfl
        rw [if_neg (by decide), inV_ints]
        walk_at "ev"
        refine ifd (fun y => ?_) (fun y => ?_)
        · rw [if_pos y] at q
          walk_at "ev"
          exact q
        · rw [if_neg y] at q
          walk_at "ev"
          exact q
theorem told_cell_rd {wo : Addr} {i : Int} (T : TxW K X) (q : ∃ T s A M c, WJ X H T s A M ∧ A.wo = wo ∧ 0 ≤ i ∧ M.cells[i.toNat]? = some (some c) ∧ c.fl.length ≤ 1000 ∧ ∀ a l H', Same H H' → H a = none → H l = none → TcO M H' (a, l) (i, c) → Q (.ref a) H') :
    rd_told_cell K (S_births_at X) (S_mark_of X) ⟨n, Q, bk, ct⟩ [some (.ref wo), some (.int i), none, none] H := by
  obtain ⟨Tg, s, A, M, c, j, rfl, h0, hc, hl, q⟩ := q
  obtain ⟨d1, ow⟩ := j.jb.ow
  obtain ⟨th, tc, ⟨d3, oh⟩, oc⟩ := j.jh
  obtain ⟨p, hp, ce⟩ := j.jc.at hc
  obtain ⟨t1, t2, ⟨dx, o1⟩, o2⟩ := id ce
  unfold rd_told_cell
  walk_at "ev"
  refine i_fldK ow T.cW T.nWh worldF_lk_heap ?_
  refine i_fldK oh T.c.cl_Heap T.c.n_Heap_cells heapF_lk_cells ?_
  walk_at "ev"
  refine i_ixL (SqL.of oc) (atI_int (v := .ref p.1) h0 (by rw [List.getElem?_map, hp]; rfl)) ?_
  walk_at "ev"
  refine i_fldK ow T.cW T.nWh worldF_lk_heap ?_
  walk_at "ev"
  refine i_fldK o1 T.c.cl_Cell T.c.n_Cell_fields cellF_lk_fields ?_
  walk_at "ev"
  refine ⟨_, _, rfl, Tg, s, A, M, c.fl, j, rfl, o2, hl, fun l nl => ?_⟩
  have s1 := same_new nl (.lst ((c.fl.map (bAt M)).map oV))
  have g1 : upd H l (.lst ((c.fl.map (bAt M)).map oV)) l = some (.lst ((c.fl.map (bAt M)).map oV)) := upd_same
  generalize upd H l (.lst ((c.fl.map (bAt M)).map oV)) = H1 at s1 g1 ⊢
  walk_at "ev"
  refine i_fldK (s1 _ _ o1) T.c.cl_Cell T.c.n_Cell_birth cellF_lk_birth ?_
  walk_at "ev"
  refine i_fldK (s1 _ _ o1) T.c.cl_Cell T.c.n_Cell_bulk cellF_lk_bulk ?_
  walk_at "ev"
  refine i_fldK (s1 _ _ o1) T.c.cl_Cell T.c.n_Cell_load cellF_lk_load ?_
  walk_at "ev"
  refine ⟨_, _, rfl, Tg, s, A, M, c, j.same s1, rfl, h0, hc, ?_⟩
  walk_at "ev"
  refine ⟨len_ok (by simp), fun a na => ?_⟩
  have s2 := same_new na (.tup [.int i, .int c.birth, .int c.bulk, .int c.load, .ref l, .str (markM M i c)])
  exact q a l _ (s1.trans s2) (s1.free na) nl ⟨upd_same, s2 _ _ g1⟩
theorem told_cells_rd {wo : Addr} (T : TxW K X) (q : ∃ T s A M, WJ X H T s A M ∧ A.wo = wo ∧ M.cells.length ≤ 1000 ∧ (∀ c, some c ∈ M.cells → c.fl.length ≤ 1000) ∧
  ∀ (l : Addr) (ls : List Addr) H', Same H H' → H' l = some (.lst (ls.map V.ref)) → ls.length = (toldM M).length → (∀ (j : Nat) r t, ls[j]? = some r → (toldM M)[j]? = some t → ∃ f, TcO M H' (r, f) t ∧ H f = none ∧ H r = none) → H l = none → Q (.ref l) H') :
    rd_told_cells K X.H (S_Heap_there X.H) (S_told_cell X) ⟨n, Q, bk, ct⟩ [some (.ref wo)] H := by
  obtain ⟨Tg, s, A, M, j, rfl, hc, hf, q⟩ := q
  obtain ⟨d1, ow⟩ := j.jb.ow
  obtain ⟨th, tc, ⟨d3, oh⟩, oc⟩ := j.jh
  have hl : (toldM M).length ≤ 1000 := by
    have := List.length_filterMap_le (fun (i : Nat) => ((M.cells[i]?).join).map fun c => ((i : Int), c)) (List.range M.cells.length)
    rw [List.length_range] at this
    exact Nat.le_trans this hc
  unfold rd_told_cells
  walk_at "ev"
  refine i_lcg ?_
  walk_at "ev"
  refine i_fldK ow T.cW T.nWh worldF_lk_heap ?_
  refine ⟨A.hp, d3, _, rfl, oh, heapF_no_there, ?_⟩
  walk_at "ev"
  refine ⟨_, rfl, _, _, _, _, _, j.hpO, by rw [List.length_map, j.jc.lc]; exact hc, fun l0 nl0 => ?_⟩
  rw [plc_told j]
  have s1 := same_new nl0 (.lst (((toldM M).map (·.1)).map V.int))
  have g1 : upd H l0 (.lst (((toldM M).map (·.1)).map V.int)) l0 = some (.lst (((toldM M).map (·.1)).map V.int)) := upd_same
  generalize upd H l0 (.lst (((toldM M).map (·.1)).map V.int)) = H1 at s1 g1 ⊢
  refine ⟨_, rfl, ⟨_, SqL.of g1⟩, ?_⟩
  refine lc_newDL (SqL.of g1) (by rw [List.length_map, List.length_map]; omega) (fun i r Hx => ∃ t f, (toldM M)[i]? = some t ∧ TcO M Hx (r, f) t ∧ H f = none) (fun _ _ _ _ ⟨t, f, e, ⟨z1, z2⟩, z3⟩ s => ⟨t, f, e, ⟨s _ _ z1, s _ _ z2⟩, z3⟩) (fun _ _ _ ⟨_, _, _, ⟨z, _⟩, _⟩ => ⟨_, z⟩) (fun x H1 q hq => i_true hq) (fun i x H2 hi s2 q' hq => ?_) ?_
  · rw [List.getElem?_map, List.getElem?_map] at hi
    cases ht : (toldM M)[i]? with
    | none => rw [ht] at hi; cases hi
    | some t =>
      rw [ht] at hi
      cases hi
      obtain ⟨t0, tc'⟩ := told_at ht
      walk_at "caps"
      walk_at "ev"
      refine ⟨_, _, rfl, Tg, s, A, M, t.2, j.same (s1.trans s2), rfl, t0, tc', hf _ (List.mem_of_getElem? tc'), fun a l H3 s3 na nl tco => ?_⟩
      exact hq a H3 s3 na ⟨t, l, ht, tco, (s1.trans s2).free nl⟩
  · intro rs H' s2 hl2 _ nn hr p hp
    have s3 := same_new hp (.lst (rs.map V.ref))
    refine q p rs _ (s1.trans (s2.trans s3)) upd_same (by rw [hl2, List.length_map, List.length_map]) (fun k r t e1 e2 => ?_) (s1.free (s2.free hp))
    obtain ⟨t', f, e3, ⟨z1, z2⟩, z3⟩ := hr k r e1
    rw [e2] at e3
    cases e3
    exact ⟨f, ⟨s3 _ _ z1, s3 _ _ z2⟩, z3, s1.free (nn r (List.mem_of_getElem? e1))⟩
end
def heldOf (M : Wm) : List (List (Option Int)) := M.hands.map (·.2)
def S_held (X : Cs) : Sp := fun vs H Q E => ∃ wo, vs = [.ref wo] ∧ ∃ T s A M, WJ X H T s A M ∧ A.wo = wo ∧ M.hands.length ≤ 1000 ∧ ∀ (l : Addr) (ls : List Addr) H', Same H H' → H l = none → H' l = some (.lst (ls.map V.ref)) → ls.length = (heldOf M).length → ls.Nodup → (∀ r ∈ ls, H r = none) → l ∉ ls → (∀ (j : Nat) r x, ls[j]? = some r → (heldOf M)[j]? = some x → H' r = some (.lst (x.map oV))) → Q (.ref l) H'
section
variable {K : PySem.W.Frag} {X : Cs} {H : Hp} {Q : VK} {E : XK} {n : St → Hp → Prop} {bk ct : St → Hp → Prop}
theorem held_rd {wo : Addr} (T : TxW K X) (q : ∃ T s A M, WJ X H T s A M ∧ A.wo = wo ∧ M.hands.length ≤ 1000 ∧ ∀ (l : Addr) (ls : List Addr) H', Same H H' → H l = none → H' l = some (.lst (ls.map V.ref)) → ls.length = (heldOf M).length → ls.Nodup → (∀ r ∈ ls, H r = none) → l ∉ ls → (∀ (j : Nat) r x, ls[j]? = some r → (heldOf M)[j]? = some x → H' r = some (.lst (x.map oV))) → Q (.ref l) H') :
    rd_held K ⟨n, Q, bk, ct⟩ [some (.ref wo)] H := by
  obtain ⟨Tg, s, A, M, j, rfl, hl, q⟩ := q
  obtain ⟨dx, ow⟩ := j.jb.ow
  unfold rd_held
  walk_at "ev"
  refine i_lcg ?_
  walk_at "ev"
  refine i_fldK ow T.cW T.nWd worldF_lk_hands ?_
  have l5 := j.jd.l5
  refine ⟨_, rfl, ⟨_, SqL.of j.jb.on⟩, ?_⟩
  refine lc_newDL (SqL.of j.jb.on) (by rw [List.length_map]; omega) (fun i r Hx => ∃ x, (heldOf M)[i]? = some x ∧ Hx r = some (.lst (x.map oV))) (fun _ _ _ _ ⟨x, e, z⟩ s => ⟨x, e, s _ _ z⟩) (fun _ _ _ ⟨_, _, z⟩ => ⟨_, z⟩) (fun x H1 q hq => i_true hq) (fun i x H1 hi s1 q' hq => ?_) ?_
  · rw [List.getElem?_map] at hi
    obtain ⟨p, hp, rfl⟩ := Option.map_eq_some_iff.mp hi
    have j1 := j.same s1
    obtain ⟨m, hm, hd⟩ := j1.hand hp
    obtain ⟨dx, o1⟩ := hd.o1
    walk_at "caps"
    walk_at "ev"
    refine i_fldK o1 T.cD T.nDs handF_lk_slots ?_
    walk_at "ev"
    refine i_listL (SqL.of hd.o2) fun l hl => ?_
    exact hq l _ (same_new hl _) hl ⟨_, by unfold heldOf; rw [List.getElem?_map, hm]; rfl, upd_same⟩
  · intro rs H' s1 hl nd nn hr p hp
    have s2 := same_new hp (.lst (rs.map V.ref))
    refine q p rs _ (s1.trans s2) (s1.free hp) upd_same ?_ nd nn (fun z => ?_) fun j' r x e1 e2 => ?_
    · rw [hl, List.length_map]
      unfold heldOf
      rw [List.length_map, j.jd.lh]
    · obtain ⟨k, hk, e⟩ := List.getElem_of_mem z
      obtain ⟨_, _, e4⟩ := hr k p (by rw [List.getElem?_eq_getElem hk, e])
      rw [hp] at e4; cases e4
    · obtain ⟨y, e3, z⟩ := hr j' r e1
      rw [e2] at e3
      cases e3
      exact s2 _ _ z
end
def Sm (H : Hp) : Nat → V → V → Prop
  | 0, x, y => x = y ∧ flatV x = true
  | d + 1, x, y => (x = y ∧ flatV x = true) ∨ ∃ a b xs ys, x = .ref a ∧ y = .ref b ∧ ((H a = some (.lst xs) ∧ H b = some (.lst ys)) ∨ (H a = some (.tup xs) ∧ H b = some (.tup ys))) ∧ xs.length ≤ 1000000 ∧ G.Al (Sm H d) xs ys
def S_same (d : Nat) : Sp := fun vs H Q E => ∃ x y, vs = [x, y] ∧ Sm H d x y ∧ Q (.bl true) H
def S_never : Sp := fun vs H Q E => ∃ x y : V, vs = [x, y] ∧ False
section
variable {K : PySem.W.Frag} {H : Hp} {Q : VK} {n : St → Hp → Prop} {bk ct : St → Hp → Prop}
theorem same_flat {sp : Sp} {x : V} (hf : flatV x = true) (q : Q (.bl true) H) : rd__law_same K sp ⟨n, Q, bk, ct⟩ [some x, some x, none] H := by
  unfold rd__law_same
  cases x with
  | non =>
    walk_at "ev"
    exact q
  | bl b =>
    walk_at "ev"
    cases b with
    | true =>
      refine i_iteT ?_
      walk_at "ev"
      exact q
    | false =>
      refine i_iteF ?_
      walk_at "ev"
      refine i_iteT ?_
      walk_at "ev"
      exact q
  | int i =>
    walk_at "ev"
    refine i_iteF ?_
    walk_at "ev"
    refine i_iteF ?_
    walk_at "ev"
    rw [decide_eq_true rfl]
    exact q
  | str z =>
    walk_at "ev"
    refine i_iteF ?_
    walk_at "ev"
    refine i_iteF ?_
    walk_at "ev"
    rw [decide_eq_true rfl]
    exact q
  | _ => exact absurd (show false = true from hf) Bool.false_ne_true
theorem same_seq {sp : Sp} {a b : Addr} {xs ys : List V} (hl : xs.length = ys.length) (h1000 : xs.length ≤ 1000000) (hab : (H a = some (.lst xs) ∧ H b = some (.lst ys)) ∨ (H a = some (.tup xs) ∧ H b = some (.tup ys)))
    (hs : ∀ (i : Nat) (x y : V), xs[i]? = some x → ys[i]? = some y → ∀ Q' E', Q' (.bl true) H → sp [x, y] H Q' E') (q : Q (.bl true) H) : rd__law_same K sp ⟨n, Q, bk, ct⟩ [some (.ref a), some (.ref b), none] H := by
  unfold rd__law_same
  walk_at "ev"
  refine i_iteF ?_
  walk_at "ev"
  refine i_iteF ?_
  walk_at "ev"
  have lp : ∀ (T : TE), True := fun _ => trivial
  rcases hab with ⟨ha, hb⟩ | ⟨ha, hb⟩
  · refine i_isiL_int hb ?_
    walk_at "ev"
    refine i_isiL_str hb ?_
    walk_at "ev"
    refine i_isiL_list hb ?_
    walk_at "ev"
    refine i_isiL_list ha ?_
    walk_at "ev"
    refine i_isiL_tuple hb ?_
    walk_at "ev"
    refine i_lenL (SqL.of ha) ?_
    walk_at "ev"
    refine i_lenL (SqL.of hb) ?_
    walk_at "ev"
    rw [hl]
    refine ifnd (fun z => absurd rfl z) (fun _ => ?_)
    walk_at "ev"
    refine i_lenL (SqL.of hb) ?_
    walk_at "ev"
    refine ⟨_, rfl, by omega, by omega, ?_⟩
    refine forR (fun _ σ Hx => ∃ v, σ = [some (.ref a), some (.ref b), v] ∧ Hx = H) ⟨_, rfl, rfl⟩ ?_ ?_
    · rintro i σ Hx hi ⟨v, rfl, rfl⟩
      have e0 : (0 : Int) + (i : Int) = i := by omega
      rw [e0]
      have hy : i < ys.length := by omega
      have hx : i < xs.length := by omega
      walk_at "ev"
      refine .inl (i_ixL (SqL.of ha) (atI_nat (List.getElem?_eq_getElem hx)) ?_)
      walk_at "ev"
      refine .inl (i_ixL (SqL.of hb) (atI_nat (List.getElem?_eq_getElem hy)) ?_)
      walk_at "ev"
      refine hs i _ _ (List.getElem?_eq_getElem hx) (List.getElem?_eq_getElem hy) _ _ ?_
      walk_at "ev"
      exact ⟨_, rfl, rfl⟩
    · rintro σ Hx ⟨v, rfl, rfl⟩
      walk_at "ev"
      exact q
  · refine i_isiT_int hb ?_
    walk_at "ev"
    refine i_isiT_str hb ?_
    walk_at "ev"
    refine i_isiT_list hb ?_
    walk_at "ev"
    refine i_isiT_tuple hb ?_
    walk_at "ev"
    refine i_isiT_tuple ha ?_
    walk_at "ev"
    refine ⟨a, xs, rfl, .inr (SqT.of ha), ?_⟩
    walk_at "ev"
    refine ⟨b, ys, rfl, .inr (SqT.of hb), ?_⟩
    walk_at "ev"
    rw [hl]
    refine ifnd (fun z => absurd rfl z) (fun _ => ?_)
    walk_at "ev"
    refine ⟨b, ys, rfl, .inr (SqT.of hb), ?_⟩
    walk_at "ev"
    refine ⟨_, rfl, by omega, by omega, ?_⟩
    refine forR (fun _ σ Hx => ∃ v, σ = [some (.ref a), some (.ref b), v] ∧ Hx = H) ⟨_, rfl, rfl⟩ ?_ ?_
    · rintro i σ Hx hi ⟨v, rfl, rfl⟩
      have e0 : (0 : Int) + (i : Int) = i := by omega
      rw [e0]
      have hy : i < ys.length := by omega
      have hx : i < xs.length := by omega
      walk_at "ev"
      refine .inr (.inl ⟨a, xs, i, _, rfl, rfl, SqT.of ha, atI_nat (List.getElem?_eq_getElem hx), ?_⟩)
      walk_at "ev"
      refine .inr (.inl ⟨b, ys, i, _, rfl, rfl, SqT.of hb, atI_nat (List.getElem?_eq_getElem hy), ?_⟩)
      walk_at "ev"
      refine hs i _ _ (List.getElem?_eq_getElem hx) (List.getElem?_eq_getElem hy) _ _ ?_
      walk_at "ev"
      exact ⟨_, rfl, rfl⟩
    · rintro σ Hx ⟨v, rfl, rfl⟩
      walk_at "ev"
      exact q
theorem _law_same_rd0 {x y : V} (q : Sm H 0 x y ∧ Q (.bl true) H) : rd__law_same K S_never ⟨n, Q, bk, ct⟩ [some x, some y, none] H := by
  obtain ⟨⟨rfl, hf⟩, q⟩ := q
  exact same_flat hf q
theorem _law_same_rd {d : Nat} {x y : V} (q : Sm H (d + 1) x y ∧ Q (.bl true) H) : rd__law_same K (S_same d) ⟨n, Q, bk, ct⟩ [some x, some y, none] H := by
  obtain ⟨h | ⟨a, b, xs, ys, rfl, rfl, hab, hz, al⟩, q⟩ := q
  · obtain ⟨rfl, hf⟩ := h
    exact same_flat hf q
  · refine same_seq al.length hz hab (fun i x y e1 e2 Q' E' hq => ?_) q
    obtain ⟨x', e3, hs⟩ := al.get e2
    rw [e1] at e3
    cases e3
    exact ⟨x, y, rfl, hs, hq⟩
end
structure Rw (H : Hp) (T : Tg) (lr : Addr) (rs : List Addr) (rows : List (List (Option Int))) : Prop where
  tl : T lr = (2, 0)
  ol : H lr = some (.lst (rs.map V.ref))
  ln : rs.length = rows.length
  at_ : ∀ (j : Nat) r x, rs[j]? = some r → rows[j]? = some x → T r = (2, 1 + j) ∧ H r = some (.lst (x.map oV))
section
variable {H H' : Hp} {T T' : Tg} {lr : Addr} {rs : List Addr} {rows : List (List (Option Int))}
theorem Rw.mv (w : Rw H T lr rs rows) (hh : ∀ b o, H b = some o → (T b).1 = 2 → H' b = some o) (ht : ∀ b o, H b = some o → T' b = T b) : Rw H' T' lr rs rows := by
  obtain ⟨a1, a2, a3, a4⟩ := w
  refine ⟨(ht _ _ a2).trans a1, hh _ _ a2 (by rw [a1]), a3, fun j r x e1 e2 => ?_⟩
  obtain ⟨b1, b2⟩ := a4 j r x e1 e2
  exact ⟨(ht _ _ b2).trans b1, hh _ _ b2 (by rw [b1])⟩
theorem Rw.same (w : Rw H T lr rs rows) (e : Same H H') : Rw H' T lr rs rows := w.mv (fun b o h _ => e b o h) fun _ _ _ => rfl
theorem Rw.other {s : Nat} (w : Rw H T lr rs rows) (e : Stp s H H' T T') (n : s ≠ 2) : Rw H' T' lr rs rows := w.mv (fun b o h t => e.kp b o h (by rw [t]; exact fun z => n z.symm)) e.tg
theorem Rw.get (w : Rw H T lr rs rows) {j : Nat} {x : List (Option Int)} (h : rows[j]? = some x) : ∃ r, rs[j]? = some r ∧ T r = (2, 1 + j) ∧ H r = some (.lst (x.map oV)) := by
  have hl : j < rs.length := by rw [w.ln]; exact (List.getElem?_eq_some_iff.mp h).1
  obtain ⟨b1, b2⟩ := w.at_ j _ x (List.getElem?_eq_getElem hl) h
  exact ⟨_, List.getElem?_eq_getElem hl, b1, b2⟩
theorem Rw.set (w : Rw H T lr rs rows) (wt : WT H T) {j k : Nat} {r : Addr} {x : List (Option Int)} {y : Option Int} (hr : rs[j]? = some r) (hx : rows[j]? = some x) :
    Stp 2 H (upd H r (.lst ((x.map oV).set k (oV y)))) T T ∧ Rw (upd H r (.lst ((x.map oV).set k (oV y)))) T lr rs (rows.set j (x.set k y)) := by
  obtain ⟨b1, b2⟩ := w.at_ j r x hr hx
  refine ⟨Stp.upd wt b2 (by rw [b1]), w.tl, ?_, by rw [List.length_set]; exact w.ln, fun i r' x' e1 e2 => ?_⟩
  · rw [upd_ne (ne_tag w.tl b1 (by simp; omega))]; exact w.ol
  · by_cases hi : i = j
    · subst hi
      rw [List.getElem?_set_self (List.getElem?_eq_some_iff.mp hx).1] at e2
      rw [hr] at e1
      cases e1
      cases e2
      exact ⟨b1, by rw [upd_same, List.map_set]⟩
    · rw [List.getElem?_set_ne (fun z => hi z.symm)] at e2
      obtain ⟨c1, c2⟩ := w.at_ i r' x' e1 e2
      exact ⟨c1, by rw [upd_ne (ne_tag c1 b1 (by simp; omega))]; exact c2⟩
def tagR (T : Tg) (lr : Addr) (rs : List Addr) : Tg := fun b => if b ∈ rs then (2, 1 + rs.idxOf b) else if b = lr then (2, 0) else T b
theorem idxOf_nodup : ∀ {rs : List Addr} {j : Nat} {r : Addr}, rs.Nodup → rs[j]? = some r → rs.idxOf r = j := by
  intro rs
  induction rs with
  | nil => intro j r _ e; simp at e
  | cons a rs ih =>
    intro j r nd e
    obtain ⟨n1, n2⟩ := List.nodup_cons.mp nd
    rw [List.idxOf_cons]
    cases j with
    | zero => simp at e; subst e; simp
    | succ j =>
      have e' : rs[j]? = some r := by simpa using e
      have hne : a ≠ r := fun z => n1 (by rw [z]; exact List.mem_of_getElem? e')
      have hb : (a == r) = false := beq_eq_false_iff_ne.mpr hne
      rw [hb]
      show rs.idxOf r + 1 = j + 1
      rw [ih n2 e']
theorem Rw.init (wt : WT H T) (s : Same H H') (nd : rs.Nodup) (nr : ∀ r ∈ rs, H r = none) (nl : H lr = none) (nlr : lr ∉ rs) (ol : H' lr = some (.lst (rs.map V.ref))) (ln : rs.length = rows.length) (at_ : ∀ (j : Nat) r x, rs[j]? = some r → rows[j]? = some x → H' r = some (.lst (x.map oV))) :
    Rw H' (tagR T lr rs) lr rs rows ∧ WT H' (tagR T lr rs) ∧ ∀ b o, H b = some o → tagR T lr rs b = T b := by
  refine ⟨⟨?_, ol, ln, fun j r x e1 e2 => ⟨?_, at_ j r x e1 e2⟩⟩, fun b hb => ?_, fun b o hb => ?_⟩
  · unfold tagR
    rw [if_neg nlr, if_pos rfl]
  · unfold tagR
    rw [if_pos (List.mem_of_getElem? e1), idxOf_nodup nd e1]
  · have h1 : b ∉ rs := fun z => by
      obtain ⟨j, hj, e⟩ := List.getElem_of_mem z
      have hj2 : j < rows.length := by rw [← ln]; exact hj
      have := at_ j b _ (by rw [List.getElem?_eq_getElem hj, e]) (List.getElem?_eq_getElem hj2)
      rw [hb] at this; cases this
    have h2 : b ≠ lr := fun z => by rw [z, ol] at hb; cases hb
    unfold tagR
    rw [if_neg h1, if_neg h2]
    exact wt b (s.free hb)
  · have h1 : b ∉ rs := fun z => by rw [nr b z] at hb; cases hb
    have h2 : b ≠ lr := fun z => by rw [z, nl] at hb; cases hb
    unfold tagR
    rw [if_neg h1, if_neg h2]
end
theorem flat_oV (x : Option Int) : flatV (oV x) = true := by cases x <;> rfl
theorem sm_flat {H : Hp} {d : Nat} {x : V} (h : flatV x = true) : Sm H d x x := by
  cases d with
  | zero => exact ⟨rfl, h⟩
  | succ d => exact .inl ⟨rfl, h⟩
theorem sm_flats {H : Hp} {d : Nat} : ∀ {xs : List V}, xs.all flatV = true → Al (Sm H d) xs xs
  | [], _ => .nil
  | x :: xs, h => by
    rw [List.all_cons, Bool.and_eq_true] at h
    exact .cons (sm_flat h.1) (sm_flats h.2)
theorem al_of {α β : Type} {P : α → β → Prop} : ∀ {xs : List α} {ys : List β}, xs.length = ys.length → (∀ (i : Nat) x y, xs[i]? = some x → ys[i]? = some y → P x y) → Al P xs ys
  | [], [], _, _ => .nil
  | [], _ :: _, h, _ => by simp at h
  | _ :: _, [], h, _ => by simp at h
  | x :: xs, y :: ys, h, p => .cons (p 0 x y rfl rfl) (al_of (by simpa using h) fun i a b h1 h2 => p (i + 1) a b (by simpa using h1) (by simpa using h2))
theorem toN {x : Int} (h : 0 ≤ x) : ∃ k : Nat, x = k := ⟨x.toNat, by omega⟩
def S_law (K : PySem.W.Frag) : Sp := fun vs H Q E => ∃ a, vs = [.ref a] ∧ ∃ ns : List Int, SqL K H a (ns.map V.int) ∧ ns.length ≤ 63 ∧ BitsOk ns ∧ ∀ H', Q (.bl true) H'
def S_atB (K : PySem.W.Frag) : Sp := fun vs H Q E => ∃ a k, vs = [.ref a, .int k] ∧ ∃ ns : List Int, SqL K H a (ns.map V.int) ∧ BitsOk ns ∧ 0 ≤ k ∧ ∀ z : Int, Builtin.Int.intBits z ≤ 2 ^ 20 → Q (.int z) H
def S_names : Sp := fun vs H Q E => ∃ c m, vs = [.int c, .int m] ∧ (0 ≤ m ∧ m ≤ 100) ∧ ∀ (l : Addr) (ws : List Str) H', Same H H' → H' l = some (.lst (ws.map V.str)) → ws.length = m.toNat → H l = none → Q (.ref l) H'
def rV : Option (Addr × Addr) → V
  | none => .non
  | some p => .ref p.1
structure Pw (H : Hp) (T : Tg) (lp : Addr) (ps : List (Option (Addr × Addr))) (cells : List (Option Ce)) : Prop where
  tl : T lp = (3, 0)
  ol : H lp = some (.lst (ps.map rV))
  ln : ps.length = cells.length
  no : ∀ (k : Nat) p c, ps[k]? = some p → cells[k]? = some c → (p = none ↔ c = none)
  at_ : ∀ (k : Nat) p c, ps[k]? = some (some p) → cells[k]? = some (some c) → T p.1 = (4, 2 * c.birth.toNat) ∧ T p.2 = (4, 2 * c.birth.toNat + 1) ∧ H p.1 = some (.lst [.int c.birth, .int c.bulk, .ref p.2]) ∧ H p.2 = some (.lst (c.fl.map oV))
section
variable {H H' : Hp} {T T' : Tg} {lp : Addr} {ps : List (Option (Addr × Addr))} {cells : List (Option Ce)}
theorem Pw.mv (w : Pw H T lp ps cells) (hh : ∀ b o, H b = some o → (T b).1 = 3 ∨ (T b).1 = 4 → H' b = some o) (ht : ∀ b o, H b = some o → T' b = T b) : Pw H' T' lp ps cells := by
  obtain ⟨a1, a2, a3, a4, a5⟩ := w
  refine ⟨(ht _ _ a2).trans a1, hh _ _ a2 (.inl (by rw [a1])), a3, a4, fun k p c e1 e2 => ?_⟩
  obtain ⟨b1, b2, b3, b4⟩ := a5 k p c e1 e2
  exact ⟨(ht _ _ b3).trans b1, (ht _ _ b4).trans b2, hh _ _ b3 (.inr (by rw [b1])), hh _ _ b4 (.inr (by rw [b2]))⟩
theorem Pw.same (w : Pw H T lp ps cells) (e : Same H H') : Pw H' T lp ps cells := w.mv (fun b o h _ => e b o h) fun _ _ _ => rfl
theorem Pw.other {s : Nat} (w : Pw H T lp ps cells) (e : Stp s H H' T T') (n3 : s ≠ 3) (n4 : s ≠ 4) : Pw H' T' lp ps cells := w.mv (fun b o h t => e.kp b o h (by
    rcases t with t | t
    · rw [t]; exact fun z => n3 z.symm
    · rw [t]; exact fun z => n4 z.symm)) e.tg
theorem Pw.get (w : Pw H T lp ps cells) {k : Nat} (hk : k < cells.length) : (cells[k]? = some none ∧ (ps.map rV)[k]? = some .non) ∨ ∃ c p, cells[k]? = some (some c) ∧ ps[k]? = some (some p) ∧ (ps.map rV)[k]? = some (.ref p.1) := by
  have hk' : k < ps.length := by rw [w.ln]; exact hk
  have e1 := List.getElem?_eq_getElem hk
  have e2 := List.getElem?_eq_getElem hk'
  have := w.no k _ _ e2 e1
  cases hc : cells[k] with
  | none =>
    have hp := this.mpr hc
    exact .inl ⟨by rw [e1, hc], by rw [List.getElem?_map, e2, hp]; rfl⟩
  | some c =>
    cases hp : ps[k] with
    | none => rw [this.mp hp] at hc; cases hc
    | some p => exact .inr ⟨c, p, by rw [e1, hc], by rw [e2, hp], by rw [List.getElem?_map, e2, hp]; rfl⟩
theorem fst0_first {α : Type} : ∀ {l : List (Option α)} {k : Nat}, (∀ j, j < k → ∃ x, l[j]? = some (some x)) → l[k]? = some none → fst0 l = k
  | [], k, _, h => by simp at h
  | none :: l, 0, _, _ => rfl
  | some a :: l, 0, _, h => by simp at h
  | none :: l, k + 1, hj, h => by
    obtain ⟨x, e⟩ := hj 0 (by omega)
    simp at e
  | some a :: l, k + 1, hj, h => by
    show fst0 l + 1 = k + 1
    rw [fst0_first (l := l) (k := k) (fun j hjk => by simpa using hj (j + 1) (by omega)) (by simpa using h)]
theorem fst0_full {α : Type} : ∀ {l : List (Option α)}, (∀ j, j < l.length → ∃ x, l[j]? = some (some x)) → fst0 l = l.length
  | [], _ => rfl
  | none :: l, h => by
    obtain ⟨x, e⟩ := h 0 (by simp)
    simp at e
  | some a :: l, h => by
    show fst0 l + 1 = l.length + 1
    rw [fst0_full (l := l) fun j hj => by simpa using h (j + 1) (by simpa using hj)]
end
inductive Tr where
  | fl : V → Tr
  | ls : List Tr → Tr
  | tp : List Tr → Tr
def Rp (H : Hp) (T : Tg) : Nat → V → Tr → Prop
  | 0, v, t => t = .fl v ∧ flatV v = true
  | d + 1, v, t => (t = .fl v ∧ flatV v = true) ∨ ∃ a xs ts, v = .ref a ∧ T a = (0, 0) ∧ ((H a = some (.lst xs) ∧ t = .ls ts) ∨ (H a = some (.tup xs) ∧ t = .tp ts)) ∧ xs.length ≤ 1000 ∧ Al (Rp H T d) xs ts
structure Kp (H H' : Hp) (T T' : Tg) : Prop where
  k : ∀ b o, H b = some o → (T b).1 = 0 ∨ 6 ≤ (T b).1 → H' b = some o
  tg : ∀ b o, H b = some o → T' b = T b
  al : ∀ b o, H b = some o → ∃ o', H' b = some o'
theorem Kp.same {H H' : Hp} {T : Tg} (s : Same H H') : Kp H H' T T := ⟨fun b o h _ => s _ _ h, fun _ _ _ => rfl, fun b o h => ⟨o, s _ _ h⟩⟩
theorem Kp.stp {s : Nat} {H H' : Hp} {T T' : Tg} (st : Stp s H H' T T') (n : s ≠ 0 ∧ s < 6) : Kp H H' T T' := ⟨fun b o h t => st.kp b o h (by omega), st.tg, st.al⟩
theorem Kp.trans {H H1 H2 : Hp} {T T1 T2 : Tg} (a : Kp H H1 T T1) (b : Kp H1 H2 T1 T2) : Kp H H2 T T2 :=
  ⟨fun x o h t => b.k x o (a.k x o h t) (by rw [a.tg x o h]; exact t), fun x o h => by
    obtain ⟨o1, h1⟩ := a.al x o h
    exact (b.tg x o1 h1).trans (a.tg x o h), fun x o h => by
    obtain ⟨o1, h1⟩ := a.al x o h
    exact b.al x o1 h1⟩
theorem Kp.tag {H H' : Hp} {T : Tg} {l : Addr} {v : Nat × Nat} (n : H l = none) (s : Same H H') : Kp H H' T (setT T l v) := ⟨fun b o h _ => s _ _ h, fun b o h => setT_ne (ne_of_none h n), fun b o h => ⟨o, s _ _ h⟩⟩
theorem al_mono {α β : Type} {P R : α → β → Prop} (f : ∀ a b, P a b → R a b) : ∀ {xs : List α} {ys : List β}, Al P xs ys → Al R xs ys
  | _, _, .nil => .nil
  | _, _, .cons h t => .cons (f _ _ h) (al_mono f t)
theorem al_two {α β γ : Type} {P : α → γ → Prop} {P' : β → γ → Prop} {R : α → β → Prop} (f : ∀ a b c, P a c → P' b c → R a b) : ∀ {xs : List α} {ys : List β} {zs : List γ}, Al P xs zs → Al P' ys zs → Al R xs ys
  | _, _, _, .nil, .nil => .nil
  | _, _, _, .cons h t, .cons h' t' => .cons (f _ _ _ h h') (al_two f t t')
theorem Rp.kp {H H' : Hp} {T T' : Tg} (k : Kp H H' T T') : ∀ {d : Nat} {v : V} {t : Tr}, Rp H T d v t → Rp H' T' d v t := by
  intro d
  induction d with
  | zero => intro v t h; exact h
  | succ d ih =>
    rintro v t (h | ⟨a, xs, ts, rfl, ta, h, hl, al⟩)
    · exact .inl h
    · rcases h with ⟨h, ht⟩ | ⟨h, ht⟩
      · have h1 := k.k _ _ h (.inl (by rw [ta]))
        have t1 := (k.tg _ _ h).trans ta
        exact .inr ⟨a, xs, ts, rfl, t1, .inl ⟨h1, ht⟩, hl, al_mono (fun _ _ z => ih z) al⟩
      · have h1 := k.k _ _ h (.inl (by rw [ta]))
        have t1 := (k.tg _ _ h).trans ta
        exact .inr ⟨a, xs, ts, rfl, t1, .inr ⟨h1, ht⟩, hl, al_mono (fun _ _ z => ih z) al⟩
theorem Rp.sm {H : Hp} {T : Tg} : ∀ {d : Nat} {v w : V} {t : Tr}, Rp H T d v t → Rp H T d w t → Sm H d v w := by
  intro d
  induction d with
  | zero =>
    rintro v w t ⟨h1, f1⟩ ⟨h2, f2⟩
    rw [h1] at h2
    cases h2
    exact ⟨rfl, f1⟩
  | succ d ih =>
    rintro v w t (⟨h1, f1⟩ | ⟨a, xs, ts, rfl, ta, h, hl, al⟩) (⟨h2, f2⟩ | ⟨b, ys, us, rfl, tb, h', hl', al'⟩)
    · rw [h1] at h2
      cases h2
      exact .inl ⟨rfl, f1⟩
    · rcases h' with ⟨_, e⟩ | ⟨_, e⟩ <;> rw [h1] at e <;> cases e
    · rcases h with ⟨_, e⟩ | ⟨_, e⟩ <;> rw [h2] at e <;> cases e
    · rcases h with ⟨h, e⟩ | ⟨h, e⟩ <;> rcases h' with ⟨h', e'⟩ | ⟨h', e'⟩ <;> rw [e] at e' <;> cases e'
      · exact .inr ⟨a, b, xs, ys, rfl, rfl, .inl ⟨h, h'⟩, by omega, al_two (P := Rp H T d) (P' := Rp H T d) (R := Sm H d) (fun _ _ _ z1 z2 => ih z1 z2) al al'⟩
      · exact .inr ⟨a, b, xs, ys, rfl, rfl, .inr ⟨h, h'⟩, by omega, al_two (P := Rp H T d) (P' := Rp H T d) (R := Sm H d) (fun _ _ _ z1 z2 => ih z1 z2) al al'⟩
theorem rp_flat {H : Hp} {T : Tg} {d : Nat} {v : V} (h : flatV v = true) : Rp H T d v (.fl v) := by
  cases d with
  | zero => exact ⟨rfl, h⟩
  | succ d => exact .inl ⟨rfl, h⟩
def rowT (x : List (Option Int)) : Tr := .ls (x.map fun y => .fl (oV y))
theorem rp_row {H : Hp} {T : Tg} {d : Nat} {a : Addr} {x : List (Option Int)} (t : T a = (0, 0)) (h : H a = some (.lst (x.map oV))) (hl : x.length ≤ 1000) : Rp H T (d + 1) (.ref a) (rowT x) := by
  refine .inr ⟨a, _, _, rfl, t, .inl ⟨h, rfl⟩, by rw [List.length_map]; exact hl, al_of (by rw [List.length_map, List.length_map]) fun i u w e1 e2 => ?_⟩
  rw [List.getElem?_map] at e1 e2
  obtain ⟨y, hy, rfl⟩ := Option.map_eq_some_iff.mp e1
  rw [hy] at e2
  cases e2
  exact rp_flat (flat_oV y)
def rowsT (rows : List (List (Option Int))) : Tr := .ls (rows.map rowT)
theorem rp_rows {H : Hp} {T : Tg} {l : Addr} {ls : List Addr} {rows : List (List (Option Int))} (t : T l = (0, 0)) (h : H l = some (.lst (ls.map V.ref))) (n : ls.length = rows.length) (hb : rows.length ≤ 1000) (hr : ∀ x ∈ rows, x.length ≤ 1000) (tr : ∀ r ∈ ls, T r = (0, 0))
    (g : ∀ (j : Nat) r x, ls[j]? = some r → rows[j]? = some x → H r = some (.lst (x.map oV))) : Rp H T 3 (.ref l) (rowsT rows) := by
  refine .inr ⟨l, _, _, rfl, t, .inl ⟨h, rfl⟩, by rw [List.length_map]; omega, al_of (by rw [List.length_map, List.length_map]; exact n) fun i u w e1 e2 => ?_⟩
  rw [List.getElem?_map] at e1 e2
  obtain ⟨r, hr1, rfl⟩ := Option.map_eq_some_iff.mp e1
  obtain ⟨x, hx, rfl⟩ := Option.map_eq_some_iff.mp e2
  exact rp_row (tr r (List.mem_of_getElem? hr1)) (g i r x hr1 hx) (hr x (List.mem_of_getElem? hx))
def cellT (M : Wm) (t : Int × Ce) : Tr := .tp [.fl (.int t.1), .fl (.int t.2.birth), .fl (.int t.2.bulk), .fl (.int t.2.load), rowT (t.2.fl.map (bAt M)), .fl (.str (markM M t.1 t.2))]
def toldT (M : Wm) : Tr := .ls ((toldM M).map (cellT M))
def S_birthL : Sp := fun vs H Q E => ∃ lp v, vs = [.ref lp, v] ∧ ∃ T ps, ∃ M : Wm, ∃ x, v = oV x ∧ Pw H T lp ps M.cells ∧ (∀ y, x = some y → 0 ≤ y ∧ y < M.cells.length) ∧ Q (oV (bAt M x)) H
def S_birthsL : Sp := fun vs H Q E => ∃ lp row, vs = [.ref lp, .ref row] ∧ ∃ T ps, ∃ M : Wm, ∃ xs : List (Option Int), Pw H T lp ps M.cells ∧ H row = some (.lst (xs.map oV)) ∧ xs.length ≤ 1000 ∧ (∀ y, some y ∈ xs → 0 ≤ y ∧ y < M.cells.length) ∧ ∀ l, H l = none → Q (.ref l) (upd H l (.lst ((xs.map (bAt M)).map oV)))
def S_leastL : Sp := fun vs H Q E => ∃ lp, vs = [.ref lp] ∧ ∃ ps : List (Option (Addr × Addr)), H lp = some (.lst (ps.map rV)) ∧ ps.length ≤ 1000 ∧ (fst0 ps < ps.length → Q (.int (fst0 ps)) H) ∧ (fst0 ps = ps.length → Q (.int ps.length) (upd H lp (.lst ((ps ++ [none]).map rV))))
def S_liesL : Sp := fun vs H Q E => ∃ lp c, vs = [.ref lp, .int c] ∧ ∃ T ps, ∃ M : Wm, Pw H T lp ps M.cells ∧ M.cells.length ≤ 1000 ∧ 0 ≤ c ∧ ∀ H', Same H H' → Q .non H' ∧ ∀ (k : Nat) (c : Ce), M.cells[k]? = some (some c) → Q (.int k) H'
theorem fmap_range {M : Wm} : ∀ xs : List (Option Int), (List.range xs.length).filterMap (fun i => (xs[i]?).map fun x => oV (bAt M x)) = xs.map (oV ∘ bAt M)
  | [] => rfl
  | x :: xs => by
    rw [List.length_cons, List.range_succ_eq_map, List.filterMap_cons]
    simp only [List.getElem?_cons_zero, Option.map_some, List.map_cons, List.filterMap_map]
    congr 1
    exact fmap_range xs
section
variable {K : PySem.W.Frag} {X : Cs} {rf : Rf → Addr} {H : Hp} {Q : VK} {E : XK} {n : St → Hp → Prop} {bk ct : St → Hp → Prop}
theorem _law_birth_rd {lp : Addr} {v : V} (q : ∃ T ps, ∃ M : Wm, ∃ x, v = oV x ∧ Pw H T lp ps M.cells ∧ (∀ y, x = some y → 0 ≤ y ∧ y < M.cells.length) ∧ Q (oV (bAt M x)) H) :
    rd__law_birth K ⟨n, Q, bk, ct⟩ [some (.ref lp), some v] H := by
  obtain ⟨T, ps, M, x, rfl, w, hx, q⟩ := q
  unfold rd__law_birth
  cases x with
  | none =>
    rw [show oV none = V.non from rfl]
    walk_at "ev"
    exact q
  | some y =>
    rw [show oV (some y) = V.int y from rfl]
    obtain ⟨y0, y1⟩ := hx y rfl
    obtain ⟨k, rfl⟩ := toN y0
    walk_at "ev"
    have hb : bAt M (some (k : Int)) = ((M.cells[k]?).join).map (·.birth) := by
      show (cellAt M k).map _ = _
      unfold cellAt
      rw [if_pos (by omega), Int.toNat_natCast]
    rcases w.get (k := k) (by omega) with ⟨e1, e2⟩ | ⟨c, p, e1, e2, e3⟩
    · rw [hb, e1] at q
      refine i_ixL (SqL.of w.ol) (atI_nat e2) ?_
      walk_at "ev"
      exact q
    · rw [hb, e1] at q
      obtain ⟨_, _, o1, _⟩ := w.at_ k p c e2 e1
      refine i_ixL (SqL.of w.ol) (atI_nat e3) ?_
      walk_at "ev"
      refine i_ixL (SqL.of w.ol) (atI_nat e3) ?_
      walk_at "ev"
      refine i_ixL (SqL.of o1) (atI_nat (j := 0) (v := .int c.birth) rfl) ?_
      exact q
theorem _law_births_rd {lp row : Addr} (q : ∃ T ps, ∃ M : Wm, ∃ xs : List (Option Int), Pw H T lp ps M.cells ∧ H row = some (.lst (xs.map oV)) ∧ xs.length ≤ 1000 ∧ (∀ y, some y ∈ xs → 0 ≤ y ∧ y < M.cells.length) ∧ ∀ l, H l = none → Q (.ref l) (upd H l (.lst ((xs.map (bAt M)).map oV)))) :
    rd__law_births K S_birthL ⟨n, Q, bk, ct⟩ [some (.ref lp), some (.ref row)] H := by
  obtain ⟨T, ps, M, xs, w, hr, hl, hx, q⟩ := q
  unfold rd__law_births
  walk_at "ev"
  refine i_lcg ?_
  walk_at "ev"
  refine ⟨row, rfl, ⟨_, SqL.of hr⟩, ?_⟩
  refine lc_list (SqL.of hr) (fun i => (xs[i]?).map fun x => oV (bAt M x)) (by rw [List.length_map]; omega) (fun i x hi => ?_) ?_
  · rw [List.getElem?_map] at hi
    obtain ⟨y, hy, rfl⟩ := Option.map_eq_some_iff.mp hi
    refine ⟨fun q hq => ?_, fun z q hz hq => ?_⟩
    · rw [hy] at hq
      exact i_true hq
    · rw [hy] at hz
      cases hz
      walk_at "caps"
      walk_at "ev"
      exact ⟨_, _, rfl, T, ps, M, y, rfl, w, fun z ez => hx z (by rw [← ez]; exact List.mem_of_getElem? hy), hq⟩
  · intro p hp
    have : (List.range (xs.map oV).length).filterMap (fun i => (xs[i]?).map fun x => oV (bAt M x)) = (xs.map (bAt M)).map oV := by
      rw [List.length_map, List.map_map]
      clear q hr hx hl
      exact fmap_range xs
    rw [this]
    exact q p hp
theorem _law_least_rd {lp : Addr} (q : ∃ ps : List (Option (Addr × Addr)), H lp = some (.lst (ps.map rV)) ∧ ps.length ≤ 1000 ∧ (fst0 ps < ps.length → Q (.int (fst0 ps)) H) ∧ (fst0 ps = ps.length → Q (.int ps.length) (upd H lp (.lst ((ps ++ [none]).map rV))))) :
    rd__law_least K ⟨n, Q, bk, ct⟩ [some (.ref lp), none] H := by
  obtain ⟨ps, ol, hl, q1, q2⟩ := q
  unfold rd__law_least
  walk_at "ev"
  refine i_lenL (SqL.of ol) ?_
  rw [List.length_map]
  walk_at "ev"
  refine ⟨_, rfl, by omega, by omega, ?_⟩
  refine forR (fun k σ Hx => Hx = H ∧ (∃ v1, σ = [some (.ref lp), v1]) ∧ ∀ j, j < k → ∃ c, ps[j]? = some (some c)) ⟨rfl, ⟨_, rfl⟩, fun j hj => absurd hj (Nat.not_lt_zero _)⟩ ?_ ?_
  · rintro k σ Hx hk ⟨rfl, ⟨v1, rfl⟩, hj⟩
    have hk : k < ps.length := by omega
    walk_at "ev"
    refine i_ixL (SqL.of ol) (i := (0 : Int) + k) (v := rV ps[k]) (by rw [Int.zero_add]; exact atI_nat (by rw [List.getElem?_map, List.getElem?_eq_getElem hk]; rfl)) ?_
    cases hc : ps[k] with
    | some c =>
      rw [show rV (some c) = V.ref c.1 from rfl]
      walk_at "ev"
      refine ⟨rfl, ⟨_, rfl⟩, fun j hjk => ?_⟩
      by_cases z : j < k
      · exact hj j z
      · have : j = k := by omega
        subst this
        exact ⟨c, by rw [List.getElem?_eq_getElem hk, hc]⟩
    | none =>
      rw [show rV none = V.non from rfl]
      have hf : fst0 ps = k := fst0_first hj (by rw [List.getElem?_eq_getElem hk, hc])
      walk_at "ev"
      rw [Int.zero_add, ← hf]
      exact q1 (by omega)
  · rintro σ Hx ⟨rfl, ⟨v1, rfl⟩, hj⟩
    have hf : fst0 ps = ps.length := fst0_full fun j hjl => hj j (by omega)
    walk_at "ev"
    refine ⟨.inl ⟨rfl, _, SqL.of ol⟩, ?_⟩
    walk_at "ev"
    refine ⟨lp, _, _, rfl, rfl, ol, ?_, ?_⟩
    · rw [List.length_map]
      exact Nat.lt_of_le_of_lt (show _ ≤ 1000 by omega) (by decide)
    rw [show ps.map rV ++ [V.non] = (ps ++ [none]).map rV from by rw [List.map_append]; rfl]
    walk_at "ev"
    refine i_lenL (SqL.of upd_same) ?_
    rw [List.length_map, List.length_append]
    walk_at "ev"
    rw [show ((ps.length + [(none : Option (Addr × Addr))].length : Nat) : Int) - 1 = ps.length from by simp]
    exact q2 hf
end
structure Q3 (M : Wm) (ns : List Int) (room : Int) (i : Nat) : Prop where
  ph : M.sw.phase = "rest"
  rm : M.room = room
  cl : M.cells.length ≤ i
  ce : ∀ (k : Nat) c, M.cells[k]? = some (some c) → 1 ≤ c.birth ∧ c.birth ≤ M.born ∧ c.load = 0 ∧ c.fl.length ≤ 8
  un : ∀ (k k' : Nat) c c', M.cells[k]? = some (some c) → M.cells[k']? = some (some c') → c.birth = c'.birth → k = k'
  sl : ∀ m ∈ M.hands, ∀ y, some y ∈ m.2 → 0 ≤ y ∧ y < (M.cells.length : Int)
  fl : ∀ (k : Nat) c, M.cells[k]? = some (some c) → ∀ y, some y ∈ c.fl → 0 ≤ y ∧ y < (M.cells.length : Int)
  hl : M.hands.length = ns.length
  nl : ns.length ≤ 5
  n0 : 0 < ns.length
  nb : ∀ n ∈ ns, 3 ≤ n ∧ n ≤ 9
  hn : ∀ (k : Nat) m n, M.hands[k]? = some m → ns[k]? = some n → m.2.length = n.toNat
theorem Q3.hlen {M : Wm} {ns : List Int} {room : Int} {i : Nat} (p : Q3 M ns room i) : ∀ m ∈ M.hands, 3 ≤ m.2.length ∧ m.2.length ≤ 9 := fun m hm => by
  obtain ⟨k, hk, e⟩ := List.getElem_of_mem hm
  have hk2 : k < ns.length := by rw [← p.hl]; exact hk
  have := p.hn k m _ (by rw [List.getElem?_eq_getElem hk, e]) (List.getElem?_eq_getElem hk2)
  have nb := p.nb _ (List.getElem_mem hk2)
  omega
theorem held_len {M : Wm} : (heldOf M).length = M.hands.length := by unfold heldOf; rw [List.length_map]
theorem rows_held {M : Wm} : rowsOf M = (heldOf M).map fun x => x.map (bAt M) := by
  unfold rowsOf heldOf
  rw [List.map_map]; rfl
theorem Q3.held {M : Wm} {ns : List Int} {room : Int} {i : Nat} (p : Q3 M ns room i) : ∀ x ∈ heldOf M, (3 ≤ x.length ∧ x.length ≤ 9) ∧ ∀ y, some y ∈ x → 0 ≤ y ∧ y < (M.cells.length : Int) := fun x hx => by
  obtain ⟨m, hm, rfl⟩ := List.mem_map.mp hx
  exact ⟨p.hlen m hm, p.sl m hm⟩
def treeOf (M : Wm) (w : Int) : Tr := if w = 0 then rowsT (heldOf M) else if w = 1 then rowsT (rowsOf M) else toldT M
def S_dueL : Sp := fun vs H Q E => ∃ lp lr w, vs = [.ref lp, .ref lr, .int w] ∧ ∃ T ps rs, ∃ M : Wm, ∃ ns room i, WT H T ∧ Pw H T lp ps M.cells ∧ Rw H T lr rs (heldOf M) ∧ Q3 M ns room i ∧ i ≤ 100 ∧ ∀ l H', Same H H' → Rp H' T 3 (.ref l) (treeOf M w) → Q (.ref l) H'
def S_foundL (X : Cs) : Sp := fun vs H Q E => ∃ wo w, vs = [.ref wo, .int w] ∧ ∃ T A, ∃ M : Wm, ∃ s ns room i, WT H T ∧ WJ X H T s A M ∧ A.wo = wo ∧ Q3 M ns room i ∧ i ≤ 100 ∧ 0 ≤ w ∧ ∀ l H', Same H H' → H l = none → Rp H' T 3 (.ref l) (treeOf M w) → (∃ xs, H' l = some (.lst xs) ∧ xs.length ≤ 1000 ∧ (w < 2 → ∃ r0 ys, xs.head? = some (.ref r0) ∧ H r0 = none ∧ r0 ≠ l ∧ H' r0 = some (.lst ys) ∧ ys.length ≤ 1000)) → Q (.ref l) H'
section
variable {K : PySem.W.Frag} {X : Cs} {rf : Rf → Addr} {H : Hp} {Q : VK} {E : XK} {n : St → Hp → Prop} {bk ct : St → Hp → Prop}
theorem rows_out {T : Tg} {A : Wa} {M : Wm} {ns : List Int} {room : Int} {i : Nat} (w : WT H T) (p : Q3 M ns room i) {rows : List (List (Option Int))} (hr : ∀ x ∈ rows, 3 ≤ x.length ∧ x.length ≤ 9) (hn : rows.length = M.hands.length) {l : Addr} {ls : List Addr} {H' : Hp} (s : Same H H') (nl : H l = none) (ol : H' l = some (.lst (ls.map V.ref))) (hl : ls.length = rows.length) (nn : ∀ r ∈ ls, H r = none) (nls : l ∉ ls)
    (g : ∀ (j : Nat) r x, ls[j]? = some r → rows[j]? = some x → H' r = some (.lst (x.map oV))) :
    Rp H' T 3 (.ref l) (rowsT rows) ∧ ∃ xs, H' l = some (.lst xs) ∧ xs.length ≤ 1000 ∧ ∃ r0 ys, xs.head? = some (.ref r0) ∧ H r0 = none ∧ r0 ≠ l ∧ H' r0 = some (.lst ys) ∧ ys.length ≤ 1000 := by
  have h1 := p.hl
  have h2 := p.nl
  have h3 := p.n0
  refine ⟨rp_rows (w _ nl) ol hl (by omega) (fun x hx => by have := hr x hx; omega) (fun r hr => w _ (nn r hr)) g, _, ol, by rw [List.length_map]; omega, ?_⟩
  have hl0 : 0 < ls.length := by omega
  have hr0 : 0 < rows.length := by omega
  refine ⟨ls[0], rows[0].map oV, ?_, nn _ (List.getElem_mem hl0), fun z => nls (by rw [← z]; exact List.getElem_mem hl0), g 0 _ _ (List.getElem?_eq_getElem hl0) (List.getElem?_eq_getElem hr0), ?_⟩
  · rw [List.head?_map, List.head?_eq_getElem?, List.getElem?_eq_getElem hl0]; rfl
  · rw [List.length_map]
    have := hr _ (List.getElem_mem hr0)
    omega
theorem _law_found_rd {wo : Addr} {w : Int} (q : ∃ T A, ∃ M : Wm, ∃ s ns room i, WT H T ∧ WJ X H T s A M ∧ A.wo = wo ∧ Q3 M ns room i ∧ i ≤ 100 ∧ 0 ≤ w ∧ ∀ l H', Same H H' → H l = none → Rp H' T 3 (.ref l) (treeOf M w) → (∃ xs, H' l = some (.lst xs) ∧ xs.length ≤ 1000 ∧ (w < 2 → ∃ r0 ys, xs.head? = some (.ref r0) ∧ H r0 = none ∧ r0 ≠ l ∧ H' r0 = some (.lst ys) ∧ ys.length ≤ 1000)) → Q (.ref l) H') :
    rd__law_found (S_births X) (S_held X) (S_told X) ⟨n, Q, bk, ct⟩ [some (.ref wo), some (.int w)] H := by
  obtain ⟨T, A, M, s, ns, room, i, wt, j, aw, p, hi, hw, q⟩ := q
  have hcl := p.cl
  have h1 := p.hl
  have h2 := p.nl
  unfold rd__law_found
  walk_at "ev"
  refine ifd (fun w0 => ?_) (fun w0 => ?_)
  · walk_at "ev"
    refine ⟨wo, rfl, T, s, A, M, j, aw, by omega, fun l ls H' s1 nl ol hl nd nn nls g => ?_⟩
    obtain ⟨a1, xs, a2, a3, a4⟩ := rows_out (A := A) wt p (rows := heldOf M) (fun x hx => (p.held x hx).1) held_len s1 nl ol hl nn nls g
    exact q l H' s1 nl (by unfold treeOf; rw [if_pos w0]; exact a1) ⟨xs, a2, a3, fun _ => a4⟩
  · walk_at "ev"
    refine ifd (fun w1 => ?_) (fun w1 => ?_)
    · walk_at "ev"
      refine ⟨wo, rfl, T, s, A, M, j, aw, by omega, fun m hm => by have := p.hlen m hm; omega, fun l ls H' s1 ol hl g ⟨nl, nn, nls⟩ => ?_⟩
      obtain ⟨a1, xs, a2, a3, a4⟩ := rows_out (A := A) wt p (rows := rowsOf M) (fun x hx => by
        rw [rows_held] at hx
        obtain ⟨y, hy, rfl⟩ := List.mem_map.mp hx
        rw [List.length_map]
        exact (p.held y hy).1) (by unfold rowsOf; rw [List.length_map]) s1 nl ol hl nn nls g
      exact q l H' s1 nl (by unfold treeOf; rw [if_neg w0, if_pos w1]; exact a1) ⟨xs, a2, a3, fun _ => a4⟩
    · walk_at "ev"
      refine ⟨wo, rfl, T, s, A, M, j, aw, by omega, fun c hc => ?_, fun l ls H' s1 ol hl g nl => ?_⟩
      · obtain ⟨k, hk, e⟩ := List.getElem_of_mem hc
        have := (p.ce k c (by rw [List.getElem?_eq_getElem hk, e])).2.2.2
        omega
      have tl : (toldM M).length ≤ 1000 := by
        have := List.length_filterMap_le (fun (i : Nat) => ((M.cells[i]?).join).map fun c => ((i : Int), c)) (List.range M.cells.length)
        rw [List.length_range] at this
        exact Nat.le_trans this (by omega)
      refine q l H' s1 nl ?_ ⟨_, ol, by rw [List.length_map]; omega, fun z => ?_⟩
      · unfold treeOf
        rw [if_neg w0, if_neg w1]
        refine .inr ⟨l, _, _, rfl, wt _ nl, .inl ⟨ol, rfl⟩, by rw [List.length_map]; omega, al_of (by rw [List.length_map, List.length_map]; exact hl) fun k u v e1 e2 => ?_⟩
        rw [List.getElem?_map] at e1 e2
        obtain ⟨r, hr, rfl⟩ := Option.map_eq_some_iff.mp e1
        obtain ⟨t, ht, rfl⟩ := Option.map_eq_some_iff.mp e2
        obtain ⟨f, ⟨o1, o2⟩, nf, nr⟩ := g k r t hr ht
        obtain ⟨t0, tc⟩ := told_at ht
        have hfl := (p.ce _ _ tc).2.2.2
        exact .inr ⟨r, _, _, rfl, wt _ nr, .inr ⟨o1, rfl⟩, by simp, .cons (rp_flat rfl) (.cons (rp_flat rfl) (.cons (rp_flat rfl) (.cons (rp_flat rfl) (.cons (rp_row (wt _ nf) o2 (by rw [List.length_map]; omega)) (.cons (rp_flat rfl) .nil)))))⟩
      · exact absurd z (by omega)
theorem Rp.tg {H : Hp} {T T' : Tg} (k : ∀ a, T a = (0, 0) → T' a = (0, 0)) : ∀ {d : Nat} {v : V} {t : Tr}, Rp H T d v t → Rp H T' d v t := by
  intro d
  induction d with
  | zero => intro v t h; exact h
  | succ d ih =>
    rintro v t (h | ⟨a, xs, ts, rfl, ta, h, hl, al⟩)
    · exact .inl h
    · exact .inr ⟨a, xs, ts, rfl, k a ta, h, hl, al_mono (fun _ _ z => ih z) al⟩
theorem al_app {α β : Type} {P : α → β → Prop} : ∀ {xs : List α} {ys : List β} {x : α} {y : β}, Al P xs ys → P x y → Al P (xs ++ [x]) (ys ++ [y])
  | _, _, _, _, .nil, h => .cons h .nil
  | _, _, _, _, .cons h0 t, h => .cons h0 (al_app t h)
theorem told_succ {M : Wm} (k : Nat) : (List.range (k + 1)).filterMap (fun (i : Nat) => ((M.cells[i]?).join).map fun c => ((i : Int), c)) = (List.range k).filterMap (fun (i : Nat) => ((M.cells[i]?).join).map fun c => ((i : Int), c)) ++ (((M.cells[k]?).join).map fun c => ((k : Int), c)).toList := by
  rw [List.range_succ, List.filterMap_append]
  congr 1
theorem _law_due_rd {lp lr : Addr} {w : Int} (q : ∃ T ps rs, ∃ M : Wm, ∃ ns room i, WT H T ∧ Pw H T lp ps M.cells ∧ Rw H T lr rs (heldOf M) ∧ Q3 M ns room i ∧ i ≤ 100 ∧ ∀ l H', Same H H' → Rp H' T 3 (.ref l) (treeOf M w) → Q (.ref l) H') :
    rd__law_due K S_birthsL ⟨n, Q, bk, ct⟩ [some (.ref lp), some (.ref lr), some (.int w), none, none, none] H := by
  obtain ⟨T, ps, rs, M, ns, room, i, wt, pw, rw', p, hi, q⟩ := q
  have hcl := p.cl
  have h1 := p.hl
  have h2 := p.nl
  have hh := held_len (M := M)
  have hrs := rw'.ln
  unfold rd__law_due
  walk_at "ev"
  refine ifd (fun w0 => ?_) (fun w0 => ?_)
  · walk_at "ev"
    refine i_lcg ?_
    walk_at "ev"
    refine ⟨lr, rfl, ⟨_, SqL.of rw'.ol⟩, ?_⟩
    refine lc_newDL (SqL.of rw'.ol) (by rw [List.length_map]; omega) (fun i r Hx => ∃ x, (heldOf M)[i]? = some x ∧ Hx r = some (.lst (x.map oV))) (fun _ _ _ _ ⟨x, e, z⟩ s => ⟨x, e, s _ _ z⟩) (fun _ _ _ ⟨_, _, z⟩ => ⟨_, z⟩) (fun x H1 q hq => i_true hq) (fun i x H1 hi s1 q' hq => ?_) ?_
    · rw [List.getElem?_map] at hi
      obtain ⟨r, hr, rfl⟩ := Option.map_eq_some_iff.mp hi
      have hil : i < (heldOf M).length := by rw [← hrs]; exact (List.getElem?_eq_some_iff.mp hr).1
      obtain ⟨_, o1⟩ := rw'.at_ i r _ hr (List.getElem?_eq_getElem hil)
      walk_at "caps"
      walk_at "ev"
      refine i_listL (SqL.of (s1 _ _ o1)) fun l hl => ?_
      exact hq l _ (same_new hl _) hl ⟨_, List.getElem?_eq_getElem hil, upd_same⟩
    · intro ls H' s1 hl nd nn hr l nl
      rw [List.length_map] at hl
      have s2 := same_new nl (.lst (ls.map V.ref))
      refine q l _ (s1.trans s2) ?_
      unfold treeOf
      rw [if_pos w0]
      refine rp_rows (wt _ (s1.free nl)) upd_same (by omega) (by omega) (fun x hx => by have := (p.held x hx).1; omega) (fun r hr => wt _ (nn r hr)) fun k r x e1 e2 => ?_
      obtain ⟨y, e3, z⟩ := hr k r e1
      rw [e2] at e3
      cases e3
      exact s2 _ _ z
  · walk_at "ev"
    refine ifd (fun w1 => ?_) (fun w1 => ?_)
    · walk_at "ev"
      refine i_lcg ?_
      walk_at "ev"
      refine ⟨lr, rfl, ⟨_, SqL.of rw'.ol⟩, ?_⟩
      refine lc_newDL (SqL.of rw'.ol) (by rw [List.length_map]; omega) (fun i r Hx => ∃ x, (rowsOf M)[i]? = some x ∧ Hx r = some (.lst (x.map oV))) (fun _ _ _ _ ⟨x, e, z⟩ s => ⟨x, e, s _ _ z⟩) (fun _ _ _ ⟨_, _, z⟩ => ⟨_, z⟩) (fun x H1 q hq => i_true hq) (fun i x H1 hi s1 q' hq => ?_) ?_
      · rw [List.getElem?_map] at hi
        obtain ⟨r, hr, rfl⟩ := Option.map_eq_some_iff.mp hi
        have hil : i < (heldOf M).length := by rw [← hrs]; exact (List.getElem?_eq_some_iff.mp hr).1
        obtain ⟨_, o1⟩ := rw'.at_ i r _ hr (List.getElem?_eq_getElem hil)
        obtain ⟨a1, a2⟩ := p.held _ (List.getElem_mem hil)
        walk_at "caps"
        walk_at "ev"
        refine ⟨_, _, rfl, T, ps, M, _, pw.same s1, s1 _ _ o1, by omega, a2, fun l nl => ?_⟩
        exact hq l _ (same_new nl _) nl ⟨_, by rw [rows_held, List.getElem?_map, List.getElem?_eq_getElem hil]; rfl, upd_same⟩
      · intro ls H' s1 hl nd nn hr l nl
        rw [List.length_map] at hl
        have s2 := same_new nl (.lst (ls.map V.ref))
        refine q l _ (s1.trans s2) ?_
        unfold treeOf
        rw [if_neg w0, if_pos w1]
        have hrl : (rowsOf M).length = (heldOf M).length := by rw [rows_held, List.length_map]
        refine rp_rows (wt _ (s1.free nl)) upd_same (by omega) (by omega) (fun x hx => ?_) (fun r hr => wt _ (nn r hr)) fun k r x e1 e2 => ?_
        · rw [rows_held] at hx
          obtain ⟨y, hy, rfl⟩ := List.mem_map.mp hx
          have := (p.held y hy).1
          rw [List.length_map]; omega
        · obtain ⟨y, e3, z⟩ := hr k r e1
          rw [e2] at e3
          cases e3
          exact s2 _ _ z
    · walk_at "ev"
      refine ⟨by decide, fun lt nlt => ?_⟩
      have s1 := same_new nlt (.lst [])
      have g1 : upd H lt (.lst []) lt = some (.lst []) := upd_same
      generalize upd H lt (.lst []) = H1 at s1 g1 ⊢
      have hps := pw.ln
      walk_at "ev"
      refine i_lenL (SqL.of (s1 _ _ pw.ol)) ?_
      rw [List.length_map, hps]
      walk_at "ev"
      refine ⟨_, rfl, by omega, by omega, ?_⟩
      refine forR (fun k σ Hx => ∃ (xs : List V) (v4 v5 : Option V), σ = [some (.ref lp), some (.ref lr), some (.int w), some (.ref lt), v4, v5] ∧ Same H Hx ∧ Hx lt = some (.lst xs) ∧ xs.length ≤ k ∧ Al (Rp Hx (setT T lt (3, 9)) 2) xs (((List.range k).filterMap fun (i : Nat) => ((M.cells[i]?).join).map fun c => ((i : Int), c)).map (cellT M))) ⟨[], _, _, rfl, s1, g1, Nat.le_refl _, .nil⟩ ?_ ?_
      · rintro k σ Hx hk ⟨xs, v4, v5, rfl, s2, g2, hxl, al⟩
        have hk : k < M.cells.length := by omega
        have pw2 := pw.same s2
        rw [Int.zero_add, told_succ]
        walk_at "ev"
        rcases pw2.get hk with ⟨e1, e2⟩ | ⟨c, pp, e1, e2, e3⟩
        · refine i_ixL (SqL.of pw2.ol) (atI_nat e2) ?_
          rw [e1]
          walk_at "ev"
          refine ⟨xs, _, _, rfl, s2, g2, by omega, ?_⟩
          simpa using al
        · obtain ⟨_, _, o1, o2⟩ := pw2.at_ k pp c e2 e1
          obtain ⟨b1, b2, b3, b4⟩ := p.ce k c e1
          refine i_ixL (SqL.of pw2.ol) (atI_nat e3) ?_
          rw [e1]
          walk_at "ev"
          refine i_ixL (SqL.of pw2.ol) (atI_nat e3) ?_
          walk_at "ev"
          refine ⟨.inl ⟨rfl, _, SqL.of g2⟩, ?_⟩
          walk_at "ev"
          refine i_ixL (SqL.of o1) (atI_nat (j := 0) (v := .int c.birth) rfl) ?_
          walk_at "ev"
          refine i_ixL (SqL.of o1) (atI_nat (j := 1) (v := .int c.bulk) rfl) ?_
          walk_at "ev"
          refine i_ixL (SqL.of o1) (atI_nat (j := 2) (v := .ref pp.2) rfl) ?_
          walk_at "ev"
          refine ⟨_, _, rfl, T, ps, M, c.fl, pw2, o2, by omega, p.fl k c e1, fun f nf => ?_⟩
          have s3 := same_new nf (.lst ((c.fl.map (bAt M)).map oV))
          have g3 : upd Hx f (.lst ((c.fl.map (bAt M)).map oV)) f = some (.lst ((c.fl.map (bAt M)).map oV)) := upd_same
          generalize upd Hx f (.lst ((c.fl.map (bAt M)).map oV)) = H3 at s3 g3 ⊢
          walk_at "ev"
          refine ⟨len_ok (by simp), fun r nr => ?_⟩
          have s4 := same_new nr (.tup [.int k, .int c.birth, .int c.bulk, .int 0, .ref f, .str "kept"])
          have g4 : upd H3 r (.tup [.int k, .int c.birth, .int c.bulk, .int 0, .ref f, .str "kept"]) r = some (.tup [.int k, .int c.birth, .int c.bulk, .int 0, .ref f, .str "kept"]) := upd_same
          generalize upd H3 r (.tup [.int k, .int c.birth, .int c.bulk, .int 0, .ref f, .str "kept"]) = H4 at s4 g4 ⊢
          have s34 := s3.trans s4
          have s04 := s2.trans s34
          walk_at "ev"
          refine ⟨lt, _, _, rfl, rfl, s34 _ _ g2, ?_, ?_⟩
          · exact Nat.lt_of_le_of_lt (show _ ≤ 1000 by omega) (by decide)
          have nlf : f ≠ lt := fun z => by rw [z, g2] at nf; cases nf
          have nlr : r ≠ lt := fun z => by
            rw [z, s3 _ _ g2] at nr; cases nr
          have ne9 : ∀ b, (setT T lt (3, 9) b).1 = 0 ∨ 6 ≤ (setT T lt (3, 9) b).1 → b ≠ lt := fun b t z => by
            rw [z, setT_same] at t
            rcases t with t | t
            · cases t
            · exact absurd t (by decide)
          have kp : Kp H4 (upd H4 lt (.lst (xs ++ [.ref r]))) (setT T lt (3, 9)) (setT T lt (3, 9)) := ⟨fun b o hb t => by rw [upd_ne (ne9 b t)]; exact hb, fun _ _ _ => rfl, fun b o hb => by
            by_cases z : b = lt
            · exact ⟨_, by rw [z]; exact upd_same⟩
            · exact ⟨o, by rw [upd_ne z]; exact hb⟩⟩
          have tf : setT T lt (3, 9) f = (0, 0) := by rw [setT_ne nlf]; exact wt _ (s2.free nf)
          have tr : setT T lt (3, 9) r = (0, 0) := by rw [setT_ne nlr]; exact wt _ (s2.free (s3.free nr))
          walk_at "ev"
          refine ⟨xs ++ [.ref r], _, _, rfl, fun b o hb => by rw [upd_ne (ne_of_none hb nlt)]; exact s04 _ _ hb, upd_same, by rw [List.length_append]; simp; omega, ?_⟩
          have hmk : markM M (k : Int) c = "kept" := by
            unfold markM
            rw [if_pos p.ph]
          rw [List.map_append]
          refine al_app (al_mono (fun _ _ z => (Rp.kp (Kp.same s34) z).kp kp) al) ?_
          show Rp _ _ 2 (.ref r) (cellT M ((k : Int), c))
          refine Rp.kp kp ?_
          unfold cellT
          rw [hmk, b3]
          exact .inr ⟨r, _, _, rfl, tr, .inr ⟨g4, rfl⟩, by simp, .cons (rp_flat rfl) (.cons (rp_flat rfl) (.cons (rp_flat rfl) (.cons (rp_flat rfl) (.cons (rp_row tf (s4 _ _ g3) (by rw [List.length_map]; show c.fl.length ≤ 1000; omega)) (.cons (rp_flat rfl) .nil)))))⟩
      · rintro σ Hx ⟨xs, v4, v5, rfl, s2, g2, hxl, al⟩
        have hxl : xs.length ≤ M.cells.length := by omega
        walk_at "ev"
        refine q lt Hx s2 ?_
        unfold treeOf
        rw [if_neg w0, if_neg w1]
        exact .inr ⟨lt, xs, _, rfl, wt _ nlt, .inl ⟨g2, rfl⟩, by omega, by
          rw [Int.toNat_natCast] at al
          refine al_mono (fun _ _ z => Rp.tg (fun b tb => ?_) z) al
          by_cases e : b = lt
          · rw [e, setT_same] at tb; cases tb
          · rw [setT_ne e] at tb; exact tb⟩
end
section
variable {H H' : Hp} {T T' : Tg} {lp : Addr} {ps : List (Option (Addr × Addr))} {cells : List (Option Ce)}
theorem Pw.push (w : Pw H T lp ps cells) : Pw (upd H lp (.lst ((ps ++ [none]).map rV))) T lp (ps ++ [none]) (cells ++ [none]) := by
  refine ⟨w.tl, upd_same, by rw [List.length_append, List.length_append, w.ln]; rfl, fun k p c e1 e2 => ?_, fun k p c e1 e2 => ?_⟩
  · by_cases hk : k < ps.length
    · rw [List.getElem?_append_left hk] at e1
      rw [List.getElem?_append_left (by rw [← w.ln]; exact hk)] at e2
      exact w.no k p c e1 e2
    · have h1 := (List.getElem?_eq_some_iff.mp e1).1
      rw [List.length_append, List.length_singleton] at h1
      have ek : k = ps.length := by omega
      subst ek
      rw [List.getElem?_append_right (Nat.le_refl _), Nat.sub_self] at e1
      rw [w.ln, List.getElem?_append_right (Nat.le_refl _), Nat.sub_self] at e2
      cases e1
      cases e2
      simp
  · have hk : k < ps.length := by
      have h1 := (List.getElem?_eq_some_iff.mp e1).1
      rw [List.length_append, List.length_singleton] at h1
      by_cases z : k < ps.length
      · exact z
      · have ek : k = ps.length := by omega
        subst ek
        rw [List.getElem?_append_right (Nat.le_refl _), Nat.sub_self] at e1
        cases e1
    rw [List.getElem?_append_left hk] at e1
    rw [List.getElem?_append_left (by rw [← w.ln]; exact hk)] at e2
    obtain ⟨b1, b2, b3, b4⟩ := w.at_ k p c e1 e2
    exact ⟨b1, b2, by rw [upd_ne (ne_tag b1 w.tl (by simp))]; exact b3, by rw [upd_ne (ne_tag b2 w.tl (by simp))]; exact b4⟩
theorem Pw.put (w : Pw H T lp ps cells) {k : Nat} {r f : Addr} {c : Ce} (hk : k < ps.length) (tr : T r = (4, 2 * c.birth.toNat)) (tf : T f = (4, 2 * c.birth.toNat + 1)) (hr : H r = some (.lst [.int c.birth, .int c.bulk, .ref f])) (hf : H f = some (.lst (c.fl.map oV))) :
    Pw (upd H lp (.lst ((ps.set k (some (r, f))).map rV))) T lp (ps.set k (some (r, f))) (cells.set k (some c)) := by
  refine ⟨w.tl, upd_same, by rw [List.length_set, List.length_set, w.ln], fun j p d e1 e2 => ?_, fun j p d e1 e2 => ?_⟩
  · by_cases z : k = j
    · subst z
      rw [List.getElem?_set_self hk] at e1
      rw [List.getElem?_set_self (by rw [← w.ln]; exact hk)] at e2
      cases e1
      cases e2
      simp
    · rw [List.getElem?_set_ne z] at e1 e2
      exact w.no j p d e1 e2
  · by_cases z : k = j
    · subst z
      rw [List.getElem?_set_self hk] at e1
      rw [List.getElem?_set_self (by rw [← w.ln]; exact hk)] at e2
      cases e1
      cases e2
      exact ⟨tr, tf, by rw [upd_ne (ne_tag tr w.tl (by simp))]; exact hr, by rw [upd_ne (ne_tag tf w.tl (by simp))]; exact hf⟩
    · rw [List.getElem?_set_ne z] at e1 e2
      obtain ⟨b1, b2, b3, b4⟩ := w.at_ j p d e1 e2
      exact ⟨b1, b2, by rw [upd_ne (ne_tag b1 w.tl (by simp))]; exact b3, by rw [upd_ne (ne_tag b2 w.tl (by simp))]; exact b4⟩
theorem Pw.drop (w : Pw H T lp ps cells) {k : Nat} : Pw (upd H lp (.lst ((ps.set k none).map rV))) T lp (ps.set k none) (cells.set k none) := by
  refine ⟨w.tl, upd_same, by rw [List.length_set, List.length_set, w.ln], fun j p d e1 e2 => ?_, fun j p d e1 e2 => ?_⟩
  · by_cases z : k = j
    · subst z
      have h1 := (List.getElem?_eq_some_iff.mp e1).1
      rw [List.length_set] at h1
      rw [List.getElem?_set_self h1] at e1
      rw [List.getElem?_set_self (by rw [← w.ln]; exact h1)] at e2
      cases e1
      cases e2
      simp
    · rw [List.getElem?_set_ne z] at e1 e2
      exact w.no j p d e1 e2
  · have z : k ≠ j := fun z => by
      subst z
      have h1 := (List.getElem?_eq_some_iff.mp e1).1
      rw [List.length_set] at h1
      rw [List.getElem?_set_self h1] at e1
      cases e1
    rw [List.getElem?_set_ne z] at e1 e2
    obtain ⟨b1, b2, b3, b4⟩ := w.at_ j p d e1 e2
    exact ⟨b1, b2, by rw [upd_ne (ne_tag b1 w.tl (by simp))]; exact b3, by rw [upd_ne (ne_tag b2 w.tl (by simp))]; exact b4⟩
theorem Pw.field (w : Pw H T lp ps cells) {M : Wm} (hM : M.cells = cells) {ns : List Int} {room : Int} {i : Nat} (q : Q3 M ns room i) {k g : Nat} {p : Addr × Addr} {c : Ce} {x : Option Int} (hp : ps[k]? = some (some p)) (hc : cells[k]? = some (some c)) :
    Pw (upd H p.2 (.lst ((c.fl.map oV).set g (oV x)))) T lp ps (cells.set k (some { c with fl := c.fl.set g x })) := by
  subst hM
  obtain ⟨b1, b2, b3, b4⟩ := w.at_ k p c hp hc
  have hk := (List.getElem?_eq_some_iff.mp hc).1
  refine ⟨w.tl, by rw [upd_ne (ne_tag w.tl b2 (by simp))]; exact w.ol, by rw [List.length_set, w.ln], fun j p' d e1 e2 => ?_, fun j p' d e1 e2 => ?_⟩
  · by_cases z : k = j
    · subst z
      rw [List.getElem?_set_self hk] at e2
      rw [hp] at e1
      cases e1
      cases e2
      simp
    · rw [List.getElem?_set_ne z] at e2
      exact w.no j p' d e1 e2
  · by_cases z : k = j
    · subst z
      rw [List.getElem?_set_self hk] at e2
      rw [hp] at e1
      cases e1
      cases e2
      exact ⟨b1, b2, by rw [upd_ne (ne_tag b1 b2 (by simp))]; exact b3, by rw [upd_same, List.map_set]⟩
    · rw [List.getElem?_set_ne z] at e2
      obtain ⟨d1, d2, d3, d4⟩ := w.at_ j p' d e1 e2
      have n1 := (q.ce k c hc).1
      have n2 := (q.ce j d e2).1
      have nb : d.birth.toNat ≠ c.birth.toNat := fun e => z (q.un k j c d hc e2 (by omega))
      exact ⟨d1, d2, by rw [upd_ne (ne_tag d1 b2 (by simp; omega))]; exact d3, by rw [upd_ne (ne_tag d2 b2 (by simp; omega))]; exact d4⟩
end
structure L3 (X : Cs) (H : Hp) (T : Tg) (A : Wa) (M : Wm) (wo lp lr ls : Addr) (rs : List Addr) (ps : List (Option (Addr × Addr))) (held : List (List (Option Int))) (cells : List (Option Ce)) (used room born : Int) : Prop where
  w : WT H T
  j : WJ X H T 1 A M
  aw : A.wo = wo
  r : Rw H T lr rs held
  p : Pw H T lp ps cells
  ts : T ls = (5, 0)
  os : H ls = some (.lst [.int used, .int room, .int born])
section
variable {X : Cs} {H H' : Hp} {T T' : Tg} {A A' : Wa} {M M' : Wm} {wo lp lr ls : Addr} {rs : List Addr} {ps : List (Option (Addr × Addr))} {held : List (List (Option Int))} {cells : List (Option Ce)} {used room born : Int}
theorem L3.same (l : L3 X H T A M wo lp lr ls rs ps held cells used room born) (s : Same H H') : L3 X H' T A M wo lp lr ls rs ps held cells used room born := ⟨l.w.same s, l.j.same s, l.aw, l.r.same s, l.p.same s, l.ts, s _ _ l.os⟩
theorem L3.deed (l : L3 X H T A M wo lp lr ls rs ps held cells used room born) (st : Stp 1 H H' T T') (j : WJ X H' T' 1 A' M') (aw : A'.wo = wo) : L3 X H' T' A' M' wo lp lr ls rs ps held cells used room born :=
  ⟨st.wt, j, aw, l.r.other st (by decide), l.p.other st (by decide) (by decide), (st.tg _ _ l.os).trans l.ts, st.kp _ _ l.os (by rw [l.ts]; decide)⟩
theorem L3.row (l : L3 X H T A M wo lp lr ls rs ps held cells used room born) {j k : Nat} {r : Addr} {x : List (Option Int)} {y : Option Int} (hr : rs[j]? = some r) (hx : held[j]? = some x) :
    Stp 2 H (upd H r (.lst ((x.map oV).set k (oV y)))) T T ∧ L3 X (upd H r (.lst ((x.map oV).set k (oV y)))) T A M wo lp lr ls rs ps (held.set j (x.set k y)) cells used room born := by
  obtain ⟨st, r1⟩ := l.r.set l.w (k := k) (y := y) hr hx
  exact ⟨st, st.wt, l.j.other st (by decide) (by decide), l.aw, r1, l.p.other st (by decide) (by decide), l.ts, st.kp _ _ l.os (by rw [l.ts]; decide)⟩
theorem L3.state (l : L3 X H T A M wo lp lr ls rs ps held cells used room born) (u b : Int) : Stp 5 H (upd H ls (.lst [.int u, .int room, .int b])) T T ∧ L3 X (upd H ls (.lst [.int u, .int room, .int b])) T A M wo lp lr ls rs ps held cells u room b := by
  have st : Stp 5 H (upd H ls (.lst [.int u, .int room, .int b])) T T := Stp.upd l.w l.os (by rw [l.ts])
  exact ⟨st, st.wt, l.j.other st (by decide) (by decide), l.aw, l.r.other st (by decide), l.p.other st (by decide) (by decide), l.ts, upd_same⟩
theorem L3.tag (l : L3 X H T A M wo lp lr ls rs ps held cells used room born) {r : Addr} {o : HO} {v : Nat × Nat} (n : H r = none) : L3 X (upd H r o) (setT T r v) A M wo lp lr ls rs ps held cells used room born := by
  have s := same_new n o
  have f : ∀ b u, H b = some u → setT T r v b = T b := fun b u hb => setT_ne (ne_of_none hb n)
  exact ⟨wt_set (l.w.same s) upd_same, l.j.fresh n, l.aw, l.r.mv (fun b u hb _ => s _ _ hb) f, l.p.mv (fun b u hb _ => s _ _ hb) f, (f _ _ l.os).trans l.ts, s _ _ l.os⟩
theorem L3.place (l : L3 X H T A M wo lp lr ls rs ps held cells used room born) {o : HO} {ps' : List (Option (Addr × Addr))} {cells' : List (Option Ce)} (p' : Pw (upd H lp o) T lp ps' cells') : Stp 3 H (upd H lp o) T T ∧ L3 X (upd H lp o) T A M wo lp lr ls rs ps' held cells' used room born := by
  have st : Stp 3 H (upd H lp o) T T := Stp.upd l.w l.p.ol (by rw [l.p.tl])
  exact ⟨st, st.wt, l.j.other st (by decide) (by decide), l.aw, l.r.other st (by decide), p', l.ts, st.kp _ _ l.os (by rw [l.ts]; decide)⟩
end
def S_madeL (X : Cs) : Sp := fun vs H Q E => ∃ wo lp ls many bulk, vs = [.ref wo, .ref lp, .ref ls, .int many, .int bulk] ∧ ∃ T A M lr rs ps ns room i, L3 X H T A M wo lp lr ls rs ps (heldOf M) M.cells M.used room M.born ∧ Q3 M ns room i ∧ i ≤ 100 ∧ (0 ≤ many ∧ many ≤ 8) ∧ 0 ≤ bulk ∧ M.sw.sense = 0 ∧ 0 ≤ M.born ∧
  ∀ H' T' A' M' ps', L3 X H' T' A' M' wo lp lr ls rs ps' (heldOf M') M'.cells M'.used room M'.born → Q3 M' ns room (i + 1) → M'.sw.sense = 0 → 0 ≤ M'.born → Kp H H' T T' → Q (.bl true) H'
def S_backL (X : Cs) : Sp := fun vs H Q E => ∃ wo lp ls k, vs = [.ref wo, .ref lp, .ref ls, .int k] ∧ ∃ T A M lr rs ps ns room i c, L3 X H T A M wo lp lr ls rs ps (heldOf M) M.cells M.used room M.born ∧ Q3 M ns room i ∧ i ≤ 100 ∧ 0 ≤ k ∧ M.cells[k.toNat]? = some (some c) ∧
  ∀ H' T' A' M' ps', L3 X H' T' A' M' wo lp lr ls rs ps' (heldOf M') M'.cells M'.used room M'.born → Q3 M' ns room (i + 1) → M'.sw.sense = M.sw.sense → M'.born = M.born → Kp H H' T T' → Q (.bl true) H'
section
variable {K : PySem.W.Frag} {X : Cs} {rf : Rf → Addr} {H : Hp} {Q : VK} {E : XK} {n : St → Hp → Prop} {bk ct : St → Hp → Prop}
theorem Q3.mono {M : Wm} {ns : List Int} {room : Int} {i : Nat} (p : Q3 M ns room i) : Q3 M ns room (i + 1) := by
  obtain ⟨a1, a2, a3, a4, a5, a6, a7, a8, a9, a10, a11, a12⟩ := p
  exact ⟨a1, a2, by omega, a4, a5, a6, a7, a8, a9, a10, a11, a12⟩
theorem putO_cases {c : Ce} {cells : List (Option Ce)} {k : Nat} {d : Ce} (h : (K13.putO cells c)[k]? = some (some d)) : (k = fst0 cells ∧ d = c) ∨ (k ≠ fst0 cells ∧ cells[k]? = some (some d)) := by
  by_cases z : k = fst0 cells
  · subst z
    rw [putO_at] at h
    cases h
    exact .inl ⟨rfl, rfl⟩
  · exact .inr ⟨z, putO_ne z h⟩
theorem putO_ge {c : Ce} {cells : List (Option Ce)} : cells.length ≤ (K13.putO cells c).length := by
  unfold K13.putO
  split
  · rw [List.length_set]; exact Nat.le_refl _
  · rw [List.length_append]; exact Nat.le_add_right _ _
theorem Q3.make {M : Wm} {ns : List Int} {room : Int} {i : Nat} (p : Q3 M ns room i) (b0 : 0 ≤ M.born) {many bulk u : Int} (m0 : 0 ≤ many) (m1 : many ≤ 8) : Q3 { M with used := u, born := M.born + 1, cells := K13.putO M.cells ⟨M.born + 1, bulk, 0, 0, List.replicate many.toNat none⟩ } ns room (i + 1) := by
  have ge := putO_ge (c := ⟨M.born + 1, bulk, 0, 0, List.replicate many.toNat none⟩) (cells := M.cells)
  have le := putO_le M.cells (⟨M.born + 1, bulk, 0, 0, List.replicate many.toNat none⟩ : Ce)
  obtain ⟨a1, a2, a3, a4, a5, a6, a7, a8, a9, a10, a11, a12⟩ := p
  refine ⟨a1, a2, ?_, fun k c hk => ?_, fun k k' c c' hk hk' e => ?_, fun m hm y hy => ?_, fun k c hk y hy => ?_, a8, a9, a10, a11, a12⟩
  · show (K13.putO M.cells _).length ≤ _
    omega
  · show 1 ≤ c.birth ∧ c.birth ≤ M.born + 1 ∧ _
    rcases putO_cases hk with ⟨_, rfl⟩ | ⟨_, hk⟩
    · exact ⟨by show 1 ≤ M.born + 1; omega, Int.le_refl _, rfl, by show (List.replicate many.toNat (none : Option Int)).length ≤ 8; rw [List.length_replicate]; omega⟩
    · obtain ⟨b1, b2, b3, b4⟩ := a4 k c hk
      exact ⟨b1, by omega, b3, b4⟩
  · rcases putO_cases hk with ⟨rfl, rfl⟩ | ⟨z, hk⟩
    · rcases putO_cases hk' with ⟨rfl, rfl⟩ | ⟨z', hk'⟩
      · rfl
      · have := (a4 k' c' hk').2.1
        have e : M.born + 1 = c'.birth := e
        omega
    · rcases putO_cases hk' with ⟨rfl, rfl⟩ | ⟨z', hk'⟩
      · have := (a4 k c hk).2.1
        have e : c.birth = M.born + 1 := e
        omega
      · exact a5 k k' c c' hk hk' e
  · obtain ⟨y0, y1⟩ := a6 m hm y hy
    exact ⟨y0, by show y < ((K13.putO M.cells _).length : Int); omega⟩
  · show 0 ≤ y ∧ y < ((K13.putO M.cells _).length : Int)
    rcases putO_cases hk with ⟨_, rfl⟩ | ⟨_, hk⟩
    · have := List.eq_of_mem_replicate (show some y ∈ List.replicate many.toNat none from hy)
      cases this
    · obtain ⟨y0, y1⟩ := a7 k c hk y hy
      exact ⟨y0, by omega⟩
theorem rep_non (m : Nat) : (List.replicate m [V.non]).flatten = (List.replicate m (none : Option Int)).map oV := by
  induction m with
  | zero => rfl
  | succ m ih => rw [List.replicate_succ, List.replicate_succ, List.flatten_cons, ih]; rfl
theorem _law_lies_rd {lp : Addr} {c : Int} (q : ∃ T ps, ∃ M : Wm, Pw H T lp ps M.cells ∧ M.cells.length ≤ 1000 ∧ 0 ≤ c ∧ ∀ H', Same H H' → Q .non H' ∧ ∀ (k : Nat) (c : Ce), M.cells[k]? = some (some c) → Q (.int k) H') :
    rd__law_lies K ⟨n, Q, bk, ct⟩ [some (.ref lp), some (.int c), none] H := by
  obtain ⟨T, ps, M, pw, hl, c0, q⟩ := q
  have hps := pw.ln
  unfold rd__law_lies
  walk_at "ev"
  refine i_lcg ?_
  walk_at "ev"
  refine i_lenL (SqL.of pw.ol) ?_
  rw [List.length_map, hps]
  walk_at "ev"
  refine ⟨_, rfl, by omega, by omega, ?_⟩
  refine lc_range (n := M.cells.length) (by omega) (p := fun i => !decide ((ps.map rV)[i]? = some V.non)) (f := fun i => .int i) (by omega) ?_ ?_ ?_
  · intro i hi k hk
    walk_at "caps"
    walk_at "ev"
    have hi' : i < (ps.map rV).length := by rw [List.length_map, hps]; exact hi
    refine i_ixL (SqL.of pw.ol) (atI_nat (List.getElem?_eq_getElem hi')) ?_
    walk_at "ev"
    refine i_notN ?_
    rw [List.getElem?_eq_getElem hi'] at hk
    walk_at "ev"
    simpa using hk
  · intro i hi _ k hk
    walk_at "caps"
    walk_at "ev"
    exact hk
  · intro l nl
    have e : (((List.range M.cells.length).filter fun i => !decide ((ps.map rV)[i]? = some V.non)).map fun (i : Nat) => V.int i) = ((((List.range M.cells.length).filter fun i => !decide ((ps.map rV)[i]? = some V.non)).map fun (i : Nat) => (i : Int)).map V.int) := by rw [List.map_map]; rfl
    rw [e]
    have hall : ∀ k ∈ ((List.range M.cells.length).filter fun i => !decide ((ps.map rV)[i]? = some V.non)), ∃ cc, M.cells[k]? = some (some cc) := fun k hk => by
      obtain ⟨h1, h2⟩ := List.mem_filter.mp hk
      have h1 := List.mem_range.mp h1
      rcases pw.get h1 with ⟨e1, e2⟩ | ⟨cc, p, e1, _, _⟩
      · rw [e2] at h2
        simp at h2
      · exact ⟨cc, e1⟩
    generalize ((List.range M.cells.length).filter fun i => !decide ((ps.map rV)[i]? = some V.non)) = ks at hall ⊢
    have s1 := same_new nl (.lst ((ks.map fun (i : Nat) => (i : Int)).map V.int))
    have g1 : upd H l (.lst ((ks.map fun (i : Nat) => (i : Int)).map V.int)) l = some (.lst ((ks.map fun (i : Nat) => (i : Int)).map V.int)) := upd_same
    generalize upd H l (.lst ((ks.map fun (i : Nat) => (i : Int)).map V.int)) = H1 at s1 g1 ⊢
    walk_at "ev"
    refine ⟨by decide, fun l0 nl0 => ?_⟩
    have s2 := same_new nl0 (.lst [])
    have g2 : upd H1 l0 (.lst []) l0 = some (.lst []) := upd_same
    have f2 := s2 _ _ g1
    generalize upd H1 l0 (.lst []) = H2 at s2 g2 f2 ⊢
    have s02 := s1.trans s2
    obtain ⟨q1, q2⟩ := q H2 s02
    refine ⟨l, l0, _, _, rfl, rfl, SqL.of f2, SqL.of g2, fun _ => ⟨flat_ints _, rfl⟩, ?_⟩
    cases ks with
    | nil =>
      rw [show (if false = true then !eqL (List.map V.int (List.map (fun (i : Nat) => (i : Int)) [])) [] else eqL (List.map V.int (List.map (fun (i : Nat) => (i : Int)) [])) []) = true from rfl]
      walk_at "ev"
      exact q1
    | cons k0 ks =>
      rw [show (if false = true then !eqL (List.map V.int (List.map (fun (i : Nat) => (i : Int)) (k0 :: ks))) [] else eqL (List.map V.int (List.map (fun (i : Nat) => (i : Int)) (k0 :: ks))) []) = false from rfl]
      walk_at "ev"
      refine i_lenL (SqL.of f2) ?_
      rw [List.length_map, List.length_map]
      have hl : 0 < ((k0 :: ks).length : Int) := by simp
      walk_at "ev"
      obtain ⟨w, ew⟩ := toN (x := c % ((k0 :: ks).length : Int)) (Int.emod_nonneg _ (by omega))
      have hw : w < (k0 :: ks).length := by
        have := Int.emod_lt_of_pos c hl
        omega
      rw [ew]
      obtain ⟨cc, ec⟩ := hall _ (List.getElem_mem hw)
      refine i_ixL (SqL.of f2) (atI_nat (v := .int ((k0 :: ks)[w] : Nat)) (by rw [List.getElem?_map, List.getElem?_map, List.getElem?_eq_getElem hw]; rfl)) ?_
      exact q2 _ cc ec
theorem _law_back_rd {wo lp ls : Addr} {k : Int} (Tx : TxW K X) (q : ∃ T A M lr rs ps ns room i c, L3 X H T A M wo lp lr ls rs ps (heldOf M) M.cells M.used room M.born ∧ Q3 M ns room i ∧ i ≤ 100 ∧ 0 ≤ k ∧ M.cells[k.toNat]? = some (some c) ∧
  ∀ H' T' A' M' ps', L3 X H' T' A' M' wo lp lr ls rs ps' (heldOf M') M'.cells M'.used room M'.born → Q3 M' ns room (i + 1) → M'.sw.sense = M.sw.sense → M'.born = M.born → Kp H H' T T' → Q (.bl true) H') :
    rd__law_back K X.H (S_Heap_back X.C X.H) (S_same 3) ⟨n, Q, bk, ct⟩ [some (.ref wo), some (.ref lp), some (.ref ls), some (.int k), none] H := by
  obtain ⟨T, A, M, lr, rs, ps, ns, room, i, c, l, p, hi, k0, hc, q⟩ := q
  obtain ⟨k, rfl⟩ := toN k0
  rw [Int.toNat_natCast] at hc
  have hkl := (List.getElem?_eq_some_iff.mp hc).1
  have hps := l.p.ln
  rcases l.p.get hkl with ⟨e1, _⟩ | ⟨c', pp, e1, e2, e3⟩
  · rw [hc] at e1; cases e1
  rw [hc] at e1
  cases e1
  obtain ⟨_, _, o1, o2⟩ := l.p.at_ k pp c e2 hc
  unfold rd__law_back
  walk_at "ev"
  refine i_ixL (SqL.of l.p.ol) (atI_nat e3) ?_
  walk_at "ev"
  refine i_ixL (SqL.of l.os) (atI_nat (j := 0) (v := .int M.used) rfl) ?_
  walk_at "ev"
  refine i_ixL (SqL.of o1) (atI_nat (j := 2) (v := .ref pp.2) rfl) ?_
  walk_at "ev"
  refine i_lenL (SqL.of o2) ?_
  walk_at "ev"
  refine i_ixL (SqL.of o1) (atI_nat (j := 1) (v := .int c.bulk) rfl) ?_
  walk_at "ev"
  refine ⟨ls, _, _, 0, rfl, rfl, l.os, rfl, ?_⟩
  obtain ⟨st1, l1⟩ := l.state (M.used - 1 - ((c.fl.map oV).length : Int) - c.bulk) M.born
  show tSeq _ _ _ _ (upd H ls (.lst [.int (M.used - 1 - ((c.fl.map oV).length : Int) - c.bulk), .int room, .int M.born]))
  generalize upd H ls (.lst [.int (M.used - 1 - ((c.fl.map oV).length : Int) - c.bulk), .int room, .int M.born]) = H1 at st1 l1 ⊢
  walk_at "ev"
  refine ⟨lp, _, _, k, rfl, rfl, l1.p.ol, ixN_nat (by rw [List.length_map, hps]; exact hkl), ?_⟩
  obtain ⟨st2, l2⟩ := l1.place (l1.p.drop (k := k))
  rw [show (ps.map rV).set k V.non = (ps.set k none).map rV from by rw [List.map_set]; rfl]
  have o1' := st2.kp _ _ (st1.kp _ _ o1 (by rw [(l.p.at_ k pp c e2 hc).1]; show (4 : Nat) ≠ 5; decide)) (by rw [(l.p.at_ k pp c e2 hc).1]; show (4 : Nat) ≠ 3; decide)
  generalize upd H1 lp (.lst ((ps.set k none).map rV)) = H2 at st2 l2 o1' ⊢
  obtain ⟨dx, ow⟩ := l2.j.jb.ow
  obtain ⟨dh, oh⟩ := l2.j.jh.oh
  rw [l2.aw] at ow
  walk_at "ev"
  refine i_fldK ow Tx.cW Tx.nWh worldF_lk_heap ?_
  walk_at "ev"
  refine ⟨A.hp, dh, _, rfl, oh, rfl, ?_⟩
  walk_at "ev"
  obtain ⟨pc, hpc, ce⟩ := l2.j.jc.at hc
  obtain ⟨_, _, ⟨dc, oc⟩, ofl⟩ := id ce
  refine ⟨A.hp, k, rfl, A.ca, dh, M.room, M.used, M.born, A.cs.map pV, pc.1, pc.2, c.birth, c.bulk, c.tone, c.load, c.fl.map oV, by omega, oh, l2.j.jh.oc, by rw [Int.toNat_natCast, List.getElem?_map, hpc]; rfl, ⟨⟨dc, oc⟩, ofl⟩, ?_⟩
  rw [Int.toNat_natCast]
  have nhc : A.hp ≠ A.ca := ne_of oh l2.j.jh.oc (fun z => by cases z)
  obtain ⟨st5, j5⟩ := l2.j.back l2.w (by decide) (i := k) (used' := M.used - (1 + (c.fl.map oV).length + c.bulk)) (by rw [l2.j.jc.lc]; exact hkl) (upd (upd H2 A.hp (.ins X.H dh (heapF M.room A.ca (M.used - (1 + (c.fl.map oV).length + c.bulk)) M.born))) A.ca (.lst ((A.cs.map pV).set k V.non)))
    (fun b o hb n1 n2 => by rw [upd_ne n2, upd_ne n1]; exact hb) (by rw [upd_ne nhc]; exact upd_same) upd_same
  have tpp : T pp.1 = (4, 2 * c.birth.toNat) := (l.p.at_ k pp c e2 hc).1
  have o5 := st5.kp _ _ o1' (by rw [tpp]; show (4 : Nat) ≠ 1; decide)
  generalize upd (upd H2 A.hp (.ins X.H dh (heapF M.room A.ca (M.used - (1 + (c.fl.map oV).length + c.bulk)) M.born))) A.ca (.lst ((A.cs.map pV).set k V.non)) = H5 at st5 j5 o5 ⊢
  have l5 := l2.deed (A' := { A with cs := A.cs.set k none }) st5 j5 l2.aw
  walk_at "ev"
  refine i_ixL (SqL.of o5) (atI_nat (j := 0) (v := .int c.birth) rfl) ?_
  walk_at "ev"
  refine ⟨_, _, rfl, sm_flat rfl, ?_⟩
  rw [show M.used - 1 - ((c.fl.map oV).length : Int) - c.bulk = M.used - (1 + (c.fl.map oV).length + c.bulk) from by omega] at l5
  refine q _ T _ _ _ l5 ?_ rfl rfl ((Kp.stp st1 (by decide)).trans ((Kp.stp st2 (by decide)).trans (Kp.stp st5 (by decide))))
  have sub : ∀ (j : Nat) d, (M.cells.set k none)[j]? = some (some d) → M.cells[j]? = some (some d) := fun j d hj => by
    by_cases z : k = j
    · subst z
      rw [List.getElem?_set_self hkl] at hj
      cases hj
    · rw [List.getElem?_set_ne z] at hj; exact hj
  have hlen : (M.cells.set k none).length = M.cells.length := List.length_set
  obtain ⟨a1, a2, a3, a4, a5, a6, a7, a8, a9, a10, a11, a12⟩ := p
  exact ⟨a1, a2, by show (M.cells.set k none).length ≤ _; omega, fun j d hj => a4 j d (sub j d hj), fun j j' d d' hj hj' e => a5 j j' d d' (sub j d hj) (sub j' d' hj') e, fun m hm y hy => by show _ ∧ y < ((M.cells.set k none).length : Int); rw [hlen]; exact a6 m hm y hy, fun j d hj y hy => by show _ ∧ y < ((M.cells.set k none).length : Int); rw [hlen]; exact a7 j d (sub j d hj) y hy, a8, a9, a10, a11, a12⟩
end
section
variable {K : PySem.W.Frag} {X : Cs} {rf : Rf → Addr} {H : Hp} {Q : VK} {E : XK} {n : St → Hp → Prop} {bk ct : St → Hp → Prop}
theorem _law_made_rd {wo lp ls CF : Addr} {many bulk : Int} (Tx : TxW K X) (q : ∃ T A M lr rs ps ns room i, L3 X H T A M wo lp lr ls rs ps (heldOf M) M.cells M.used room M.born ∧ Q3 M ns room i ∧ i ≤ 100 ∧ (0 ≤ many ∧ many ≤ 8) ∧ 0 ≤ bulk ∧ M.sw.sense = 0 ∧ 0 ≤ M.born ∧
  ∀ H' T' A' M' ps', L3 X H' T' A' M' wo lp lr ls rs ps' (heldOf M') M'.cells M'.used room M'.born → Q3 M' ns room (i + 1) → M'.sw.sense = 0 → 0 ≤ M'.born → Kp H H' T T' → Q (.bl true) H') :
    rd__law_made K CF X.H (S_Heap_make K X.C X.H CF) S_leastL (S_same 3) ⟨n, Q, bk, ct⟩ [some (.ref wo), some (.ref lp), some (.ref ls), some (.int many), some (.int bulk), none, none, none] H := by
  obtain ⟨T, A, M, lr, rs, ps, ns, room, i, l, p, hi, ⟨m0, m1⟩, b0, se, bn0, q⟩ := q
  have hcl := p.cl
  have hps := l.p.ln
  obtain ⟨d1, ow⟩ := l.j.jb.ow
  obtain ⟨th, tc, ⟨d3, oh⟩, oc⟩ := l.j.jh
  rw [l.aw] at ow
  have hcs : A.cs.length ≤ 900 := by rw [l.j.jc.lc]; omega
  unfold rd__law_made
  walk_at "ev"
  refine i_fldK ow Tx.cW Tx.nWh worldF_lk_heap ?_
  refine ⟨A.hp, d3, _, rfl, oh, heapF_no_make, ?_⟩
  walk_at "ev"
  refine ⟨_, _, _, _, rfl, A.ca, d3, _, _, _, _, oh, oc, ?_, by rw [List.length_map]; omega, m0, by omega, fun hf H' sm => ?_, fun hf pc fa H1 npc nfa fm a1 a2 co => ?_⟩
  · intro y hy
    obtain ⟨o, ho, rfl⟩ := List.mem_map.mp hy
    cases o with
    | none => exact .inl rfl
    | some g =>
      obtain ⟨i, hi, ei⟩ := List.getElem_of_mem ho
      have e := l.j.jc.ce i _ _ (List.getElem?_eq_getElem hi) (List.getElem?_eq_getElem (by rw [← l.j.jc.lc]; exact hi))
      rw [ei] at e
      cases hcc : M.cells[i]'(by rw [← l.j.jc.lc]; exact hi) with
      | none => rw [hcc] at e; exact e.elim
      | some c =>
        rw [hcc] at e
        obtain ⟨_, _, ⟨dx, o1⟩, _⟩ := (show CeO X.C H T 1 i g c from e)
        exact .inr ⟨g.1, X.C, dx, _, rfl, o1, Tx.c.cl_Cell, Tx.c.eq_Cell⟩
  · refine ⟨rfl, ?_⟩
    have l1 := l.same sm
    walk_at "ev"
    refine i_ixL (SqL.of l1.os) (atI_nat (j := 0) (v := .int M.used) rfl) ?_
    walk_at "ev"
    refine i_ixL (SqL.of l1.os) (atI_nat (j := 1) (v := .int room) rfl) ?_
    walk_at "ev"
    have hr := p.rm
    refine ifd (fun _ => ?_) (fun z => absurd (show room < M.used + 1 + many + bulk by omega) z)
    walk_at "ev"
    exact q _ T A M ps l1 p.mono se bn0 (Kp.same sm)
  · obtain ⟨⟨dp, c1⟩, c2⟩ := co
    have npf : pc ≠ fa := ne_of c1 c2 (fun z => by cases z)
    obtain ⟨T1, st1, j1⟩ := l.j.put l.w (by decide) (H' := H1) (dx := d3) (used' := M.used + (1 + many + bulk)) (p := pc) (fa := fa) (c := ⟨M.born + 1, bulk, 0, 0, List.replicate many.toNat none⟩)
      (fun b o hb n1 n2 => fm b o hb (by simp [n1, n2])) a1 a2 npc nfa npf ⟨dp, c1⟩ (by rw [c2, List.map_replicate]; rfl)
    have ei : ((A.cs.map pV).idxOf V.non : Int) = (fst0 M.cells : Nat) := by rw [(fst0_idx pV_non A.cs).1, l.j.jc.fst]
    have l1 := l.deed (A' := { A with cs := putO A.cs (pc, fa) }) st1 j1 l.aw
    have p' := p.make bn0 (u := M.used + (1 + many + bulk)) (bulk := bulk) m0 m1
    have hr := p.rm
    have hfp : fst0 ps = fst0 M.cells := fst0_eq _ _ hps l.p.no
    walk_at "ev"
    rw [ei]
    walk_at "ev"
    refine i_ixL (SqL.of l1.os) (atI_nat (j := 0) (v := .int M.used) rfl) ?_
    walk_at "ev"
    refine i_ixL (SqL.of l1.os) (atI_nat (j := 1) (v := .int room) rfl) ?_
    walk_at "ev"
    refine ifd (fun z => absurd z (by omega)) (fun _ => ?_)
    walk_at "ev"
    have rest : ∀ {H2 : Hp} {ps2 : List (Option (Addr × Addr))} {cells2 : List (Option Ce)}, L3 X H2 T1 { A with cs := putO A.cs (pc, fa) } { M with used := M.used + (1 + many + bulk), born := M.born + 1, cells := K13.putO M.cells ⟨M.born + 1, bulk, 0, 0, List.replicate many.toNat none⟩ } wo lp lr ls rs ps2 (heldOf M) cells2 M.used room M.born → fst0 M.cells < ps2.length → cells2.set (fst0 M.cells) (some ⟨M.born + 1, bulk, 0, 0, List.replicate many.toNat none⟩) = K13.putO M.cells ⟨M.born + 1, bulk, 0, 0, List.replicate many.toNat none⟩ → Kp H H2 T T1 →
        tSeq (tAsg (tOp (rI0 fun i j => .int (i + j)) (tOp (rI0 fun i j => .int (i + j)) (tOp (rI0 fun i j => .int (i + j)) (tOp (rIxL K) (tVar 2) (tC (.int 0))) (tC (.int 1))) (tVar 3)) (tVar 4)) (gSub (tVar 2) (tC (.int 0)) rSetL))
      (tSeq (tAsg (tOp (rI0 fun i j => .int (i + j)) (tOp (rIxL K) (tVar 2) (tC (.int 2))) (tC (.int 1))) (gSub (tVar 2) (tC (.int 2)) rSetL))
      (tSeq (tAsg (tLst (tCons (tOp (rIxL K) (tVar 2) (tC (.int 2))) (tCons (tVar 4) (tCons (tOp (rRep) (tLst (tCons (tC .non) tNil)) (tVar 3)) tNil)))) (gSub (tVar 1) (tVar 7) rSetL))
      (tRet ((tAndV (tNotV (tVar 5)) (tCall (S_same 3) [] E0 (tCons (tVar 6) (tCons (tVar 7) tNil)))))))) ⟨n, Q, bk, ct⟩ [some (.ref wo), some (.ref lp), some (.ref ls), some (.int many), some (.int bulk), some (.bl false), some (.int (fst0 M.cells : Nat)), some (.int (fst0 M.cells : Nat))] H2 := by
      intro H2 ps2 cells2 l2 hlt hcells k2
      walk_at "ev"
      refine i_ixL (SqL.of l2.os) (atI_nat (j := 0) (v := .int M.used) rfl) ?_
      walk_at "ev"
      refine ⟨ls, _, _, 0, rfl, rfl, l2.os, rfl, ?_⟩
      obtain ⟨st3, l3⟩ := l2.state (M.used + 1 + many + bulk) M.born
      show tSeq _ _ _ _ (upd H2 ls (.lst [.int (M.used + 1 + many + bulk), .int room, .int M.born]))
      generalize upd H2 ls (.lst [.int (M.used + 1 + many + bulk), .int room, .int M.born]) = H3 at st3 l3 ⊢
      walk_at "ev"
      refine i_ixL (SqL.of l3.os) (atI_nat (j := 2) (v := .int M.born) rfl) ?_
      walk_at "ev"
      refine ⟨ls, _, _, 2, rfl, rfl, l3.os, rfl, ?_⟩
      obtain ⟨st4, l4⟩ := l3.state (M.used + 1 + many + bulk) (M.born + 1)
      show tSeq _ _ _ _ (upd H3 ls (.lst [.int (M.used + 1 + many + bulk), .int room, .int (M.born + 1)]))
      generalize upd H3 ls (.lst [.int (M.used + 1 + many + bulk), .int room, .int (M.born + 1)]) = H4 at st4 l4 ⊢
      walk_at "ev"
      refine i_ixL (SqL.of l4.os) (atI_nat (j := 2) (v := .int (M.born + 1)) rfl) ?_
      walk_at "ev"
      refine ⟨by decide, fun l0 hl0 => ?_⟩
      have s5 := same_new hl0 (.lst [V.non])
      have g5 : upd H4 l0 (.lst [V.non]) l0 = some (.lst [V.non]) := upd_same
      generalize upd H4 l0 (.lst [V.non]) = H5 at s5 g5 ⊢
      have l5 := l4.same s5
      walk_at "ev"
      refine ⟨l0, many, _, rfl, rfl, g5, by omega, by omega, by show 1 * many.toNat ≤ sizeLine; exact len_ok (by omega), fun f nf => ?_⟩
      rw [rep_non]
      have l6 := l5.tag (o := .lst ((List.replicate many.toNat none).map oV)) (v := (4, 2 * (M.born + 1).toNat + 1)) nf
      have s6 := same_new nf (.lst ((List.replicate many.toNat none).map oV))
      have k6 : Kp H5 (upd H5 f (.lst ((List.replicate many.toNat none).map oV))) T1 (setT T1 f (4, 2 * (M.born + 1).toNat + 1)) := Kp.tag nf s6
      have g6 : upd H5 f (.lst ((List.replicate many.toNat none).map oV)) f = some (.lst ((List.replicate many.toNat none).map oV)) := upd_same
      have t6 : setT T1 f (4, 2 * (M.born + 1).toNat + 1) f = (4, 2 * (M.born + 1).toNat + 1) := setT_same
      generalize upd H5 f (.lst ((List.replicate many.toNat none).map oV)) = H6 at l6 k6 g6 s6 ⊢
      generalize setT T1 f (4, 2 * (M.born + 1).toNat + 1) = T6 at l6 k6 t6
      walk_at "ev"
      refine ⟨len_ok (by simp), fun r nr => ?_⟩
      have l7 := l6.tag (o := .lst [.int (M.born + 1), .int bulk, .ref f]) (v := (4, 2 * (M.born + 1).toNat)) nr
      have s7 := same_new nr (.lst [.int (M.born + 1), .int bulk, .ref f])
      have k7 : Kp H6 (upd H6 r (.lst [.int (M.born + 1), .int bulk, .ref f])) T6 (setT T6 r (4, 2 * (M.born + 1).toNat)) := Kp.tag nr s7
      have g7 : upd H6 r (.lst [.int (M.born + 1), .int bulk, .ref f]) r = some (.lst [.int (M.born + 1), .int bulk, .ref f]) := upd_same
      have t7 : setT T6 r (4, 2 * (M.born + 1).toNat) r = (4, 2 * (M.born + 1).toNat) := setT_same
      have t7f : setT T6 r (4, 2 * (M.born + 1).toNat) f = (4, 2 * (M.born + 1).toNat + 1) := by rw [setT_ne (ne_of_none g6 nr)]; exact t6
      have g7f := s7 _ _ g6
      generalize upd H6 r (.lst [.int (M.born + 1), .int bulk, .ref f]) = H7 at l7 k7 g7 g7f s7 ⊢
      generalize setT T6 r (4, 2 * (M.born + 1).toNat) = T7 at l7 k7 t7 t7f
      walk_at "ev"
      refine ⟨lp, _, _, fst0 M.cells, rfl, rfl, l7.p.ol, ixN_nat (by rw [List.length_map]; exact hlt), ?_⟩
      obtain ⟨st8, l8⟩ := l7.place (l7.p.put (k := fst0 M.cells) (c := ⟨M.born + 1, bulk, 0, 0, List.replicate many.toNat none⟩) hlt t7 t7f g7 g7f)
      rw [show (ps2.map rV).set (fst0 M.cells) (.ref r) = (ps2.set (fst0 M.cells) (some (r, f))).map rV from by rw [List.map_set]; rfl]
      generalize upd H7 lp (.lst ((ps2.set (fst0 M.cells) (some (r, f))).map rV)) = H8 at st8 l8 ⊢
      walk_at "ev"
      refine ⟨_, _, rfl, sm_flat rfl, ?_⟩
      rw [hcells, show M.used + 1 + many + bulk = M.used + (1 + many + bulk) from by omega] at l8
      exact q _ T7 _ _ _ l8 p' se (by show 0 ≤ M.born + 1; omega) ((((k2.trans (Kp.stp st3 (by decide))).trans (Kp.stp st4 (by decide))).trans ((Kp.same s5).trans k6)).trans (k7.trans (Kp.stp st8 (by decide))))
    refine ⟨lp, rfl, ps, l1.p.ol, by omega, fun hlt => ?_, fun heq => ?_⟩
    · walk_at "es"
      rw [hfp]
      refine rest l1 (by omega) ?_ (Kp.stp st1 (by decide))
      unfold K13.putO
      rw [if_pos (by omega)]
    · obtain ⟨st2, l2⟩ := l1.place l1.p.push
      generalize upd H1 lp (.lst ((ps ++ [none]).map rV)) = H2 at st2 l2 ⊢
      walk_at "es"
      rw [← heq, hfp]
      refine rest l2 (by rw [List.length_append]; simp; omega) ?_ ((Kp.stp st1 (by decide)).trans (Kp.stp st2 (by decide)))
      have hf2 : fst0 M.cells = M.cells.length := by omega
      unfold K13.putO
      rw [if_neg (by omega), hf2, List.set_append_right _ _ (Nat.le_refl _), Nat.sub_self]; rfl
end
def S_turn (X : Cs) : Sp := fun vs H Q E => ∃ wo lp lr ls c, vs = [.ref wo, .ref lp, .ref lr, .ref ls, .int c] ∧ Builtin.Int.intBits c ≤ 2 ^ 20 ∧ ∃ T A M rs ps ns room i, L3 X H T A M wo lp lr ls rs ps (heldOf M) M.cells M.used room M.born ∧ Q3 M ns room i ∧ i ≤ 100 ∧ M.sw.sense = 0 ∧ 0 ≤ M.born ∧
  ∀ H' T' A' M' ps', L3 X H' T' A' M' wo lp lr ls rs ps' (heldOf M') M'.cells M'.used room M'.born → Q3 M' ns room (i + 1) → M'.sw.sense = 0 → 0 ≤ M'.born → Kp H H' T T' → Q (.bl true) H'
section
variable {K : PySem.W.Frag} {X : Cs} {rf : Rf → Addr} {H : Hp} {Q : VK} {E : XK} {n : St → Hp → Prop} {bk ct : St → Hp → Prop}
theorem Q3.slot {M : Wm} {ns : List Int} {room : Int} {i h s : Nat} {m : Str × List (Option Int)} {x : Option Int} (p : Q3 M ns room i) (hm : M.hands[h]? = some m) (hx : ∀ y, x = some y → 0 ≤ y ∧ y < (M.cells.length : Int)) : Q3 { M with hands := M.hands.set h (m.1, m.2.set s x) } ns room (i + 1) ∧ heldOf { M with hands := M.hands.set h (m.1, m.2.set s x) } = (heldOf M).set h (m.2.set s x) := by
  have hh := (List.getElem?_eq_some_iff.mp hm).1
  obtain ⟨a1, a2, a3, a4, a5, a6, a7, a8, a9, a10, a11, a12⟩ := p
  refine ⟨⟨a1, a2, by show M.cells.length ≤ _; omega, a4, a5, fun m' hm' y hy => ?_, a7, by show (M.hands.set _ _).length = _; rw [List.length_set]; exact a8, a9, a10, a11, fun k m' n e1 e2 => ?_⟩, ?_⟩
  · rcases List.mem_or_eq_of_mem_set (show m' ∈ M.hands.set h (m.1, m.2.set s x) from hm') with z | z
    · exact a6 m' z y hy
    · subst z
      rcases List.mem_or_eq_of_mem_set (show some y ∈ m.2.set s x from hy) with z | z
      · exact a6 m (List.mem_of_getElem? hm) y z
      · exact hx y z.symm
  · have e1 : (M.hands.set h (m.1, m.2.set s x))[k]? = some m' := e1
    by_cases z : h = k
    · subst z
      rw [List.getElem?_set_self hh] at e1
      cases e1
      show (m.2.set s x).length = _
      rw [List.length_set]
      exact a12 h m n hm e2
    · rw [List.getElem?_set_ne z] at e1
      exact a12 k m' n e1 e2
  · unfold heldOf
    show (M.hands.set _ _).map _ = _
    rw [List.map_set]
theorem Q3.field {M : Wm} {ns : List Int} {room : Int} {i k g : Nat} {c : Ce} {x : Option Int} (p : Q3 M ns room i) (hc : M.cells[k]? = some (some c)) (hx : ∀ y, x = some y → 0 ≤ y ∧ y < (M.cells.length : Int)) : Q3 { M with cells := M.cells.set k (some { c with fl := c.fl.set g x }) } ns room (i + 1) := by
  have hk := (List.getElem?_eq_some_iff.mp hc).1
  have hlen : (M.cells.set k (some { c with fl := c.fl.set g x })).length = M.cells.length := List.length_set
  obtain ⟨a1, a2, a3, a4, a5, a6, a7, a8, a9, a10, a11, a12⟩ := p
  have ge : ∀ (j : Nat) d, (M.cells.set k (some { c with fl := c.fl.set g x }))[j]? = some (some d) → (j = k ∧ d = { c with fl := c.fl.set g x }) ∨ (j ≠ k ∧ M.cells[j]? = some (some d)) := fun j d hj => by
    by_cases z : k = j
    · subst z
      rw [List.getElem?_set_self hk] at hj
      cases hj
      exact .inl ⟨rfl, rfl⟩
    · rw [List.getElem?_set_ne z] at hj
      exact .inr ⟨fun w => z w.symm, hj⟩
  refine ⟨a1, a2, by show (M.cells.set k _).length ≤ _; omega, fun j d hj => ?_, fun j j' d d' hj hj' e => ?_, fun m hm y hy => by show _ ∧ y < ((M.cells.set k _).length : Int); rw [hlen]; exact a6 m hm y hy, fun j d hj y hy => ?_, a8, a9, a10, a11, a12⟩
  · rcases ge j d hj with ⟨_, rfl⟩ | ⟨_, hj⟩
    · obtain ⟨b1, b2, b3, b4⟩ := a4 k c hc
      exact ⟨b1, b2, b3, by show (c.fl.set g x).length ≤ 8; rw [List.length_set]; exact b4⟩
    · exact a4 j d hj
  · rcases ge j d hj with ⟨rfl, rfl⟩ | ⟨z, hj3⟩
    · rcases ge j' d' hj' with ⟨rfl, rfl⟩ | ⟨z', hj2⟩
      · rfl
      · exact a5 j j' c d' hc hj2 e
    · rcases ge j' d' hj' with ⟨rfl, rfl⟩ | ⟨z', hj2⟩
      · exact a5 j j' d c hj3 hc e
      · exact a5 j j' d d' hj3 hj2 e
  · show 0 ≤ y ∧ y < ((M.cells.set k _).length : Int)
    rw [hlen]
    rcases ge j d hj with ⟨rfl, rfl⟩ | ⟨z, hj⟩
    · rcases List.mem_or_eq_of_mem_set (show some y ∈ c.fl.set g x from hy) with z | z
      · exact a7 _ c hc y z
      · exact hx y z.symm
    · exact a7 j d hj y hy
theorem turn2 {T : Tg} {A : Wa} {M : Wm} {wo lp lr ls : Addr} {rs : List Addr} {ps : List (Option (Addr × Addr))} {ns : List Int} {room : Int} {i : Nat} {c one two : Int} {v7 : Option V} {x : Option Int} {z : Option Nat} (Tx : TxW K X) (l : L3 X H T A M wo lp lr ls rs ps (heldOf M) M.cells M.used room M.born) (p : Q3 M ns room i) (hi : i ≤ 100) (se : M.sw.sense = 0) (bn0 : 0 ≤ M.born) (h1 : 0 ≤ one) (h2 : 0 ≤ two) (hx : ∀ y, x = some y → 0 ≤ y ∧ y < (M.cells.length : Int)) (hz : ∀ k, z = some k → ∃ cc, M.cells[k]? = some (some cc))
    (q : ∀ H' T' A' M' ps', L3 X H' T' A' M' wo lp lr ls rs ps' (heldOf M') M'.cells M'.used room M'.born → Q3 M' ns room (i + 1) → M'.sw.sense = 0 → 0 ≤ M'.born → Kp H H' T T' → Q (.bl true) H') :
    (tSeq (tIfS (tTest (tOp (rEq) (tOp (rI (fun _ j => 0 < j) fun i j => .int (i % j)) (tVar 5) (tC (.int 5))) (tC (.int 2)))) (tSeq (tAsg (tOp (rI (fun _ j => 0 < j) fun i j => .int (i % j)) (tOp (rI CDiv fun i j => .int (i / j)) (tVar 5) (tC (.int 5))) (tCB (G.cLenL K) (tCons (tVar 2) tNil))) (gName 10)) (tSeq (tAsg (tOp (rI (fun _ j => 0 < j) fun i j => .int (i % j)) (tOp (rI CDiv fun i j => .int (i / j)) (tVar 5) (tC (.int 25))) (tCB (G.cLenL K) (tCons (tOp (rIxL K) (tVar 2) (tVar 10)) tNil))) (gName 11)) (tSeq (tAsg (tVar 8) (gSub (tOp (rIxL K) (tVar 2) (tVar 10)) (tVar 11) rSetL)) (tAsg (tVar 8) (gSub (tFld K (tOp (rIxL K) (tFld K (tVar 0) "hands") (tVar 10)) "slots") (tVar 11) rSetL))))) tNext) (tSeq (tIfS ((tAnd (tTest (tOp (rEq) (tOp (rI (fun _ j => 0 < j) fun i j => .int (i % j)) (tVar 5) (tC (.int 5))) (tC (.int 3)))) (tAnd (tTest (tOp (G.rNotN) (tVar 9) (tC .non))) (tTest (tOp (rI0 fun i j => .bl (decide (j < i))) (tCB (G.cLenL K) (tCons (tOp (rIxL K) (tOp (rIxL K) (tVar 1) (tVar 9)) (tC (.int 2))) tNil)) (tC (.int 0))))))) (tSeq (tAsg (tOp (rI (fun _ j => 0 < j) fun i j => .int (i % j)) (tOp (rI CDiv fun i j => .int (i / j)) (tVar 5) (tC (.int 5))) (tCB (G.cLenL K) (tCons (tOp (rIxL K) (tOp (rIxL K) (tVar 1) (tVar 9)) (tC (.int 2))) tNil))) (gName 12)) (tSeq (tAsg (tVar 8) (gSub (tOp (rIxL K) (tOp (rIxL K) (tVar 1) (tVar 9)) (tC (.int 2))) (tVar 12) rSetL)) (tAsg (tVar 8) (gSub (tFld K (tOp (rIxL K) (tFld K (tFld K (tVar 0) "heap") "cells") (tVar 9)) "fields") (tVar 12) rSetL)))) tNext) (tSeq (tIfS ((tAnd (tTest (tOp (rEq) (tOp (rI (fun _ j => 0 < j) fun i j => .int (i % j)) (tVar 5) (tC (.int 5))) (tC (.int 4)))) (tTest (tOp (G.rNotN) (tVar 9) (tC .non))))) (tRet (tCall (S_backL X) [] E0 (tCons (tVar 0) (tCons (tVar 1) (tCons (tVar 3) (tCons (tVar 9) tNil)))))) tNext) (tRet (tC (.bl true)))))) ⟨n, Q, bk, ct⟩ [some (.ref wo), some (.ref lp), some (.ref lr), some (.ref ls), some (.int c), some (.int one), some (.int two), v7, some (oV x), some (oV (z.map fun (k : Nat) => (k : Int))), none, none, none] H := by
  have hcl := p.cl
  have hh := held_len (M := M)
  have nl := p.nl
  have n0 := p.n0
  have hl' := p.hl
  have hrs := l.r.ln
  walk_at "ev"
  refine ifd (fun w2 => ?_) (fun w2 => ?_)
  · -- a slot
    walk_at "ev"
    refine i_lenL (SqL.of l.r.ol) ?_
    rw [List.length_map]
    have hlp : 0 < (rs.length : Int) := by omega
    walk_at "ev"
    obtain ⟨h, eh⟩ := toN (x := one / 5 % (rs.length : Int)) (Int.emod_nonneg _ (by omega))
    have hhl : h < rs.length := by
      have := Int.emod_lt_of_pos (one / 5) hlp
      omega
    rw [eh]
    have hhm : h < M.hands.length := by omega
    obtain ⟨m, hm⟩ : ∃ m, M.hands[h]? = some m := ⟨_, List.getElem?_eq_getElem hhm⟩
    have hx1 : (heldOf M)[h]? = some m.2 := by unfold heldOf; rw [List.getElem?_map, hm]; rfl
    obtain ⟨rh, a1, a2, a3⟩ := l.r.get hx1
    have hml := p.hlen m (List.mem_of_getElem? hm)
    refine i_ixL (SqL.of l.r.ol) (atI_nat (v := .ref rh) (by rw [List.getElem?_map, a1]; rfl)) ?_
    walk_at "ev"
    refine i_lenL (SqL.of a3) ?_
    rw [List.length_map]
    have hlm : 0 < (m.2.length : Int) := by omega
    walk_at "ev"
    obtain ⟨s, es⟩ := toN (x := one / 25 % (m.2.length : Int)) (Int.emod_nonneg _ (by omega))
    have hsl : s < m.2.length := by
      have := Int.emod_lt_of_pos (one / 25) hlm
      omega
    rw [es]
    walk_at "ev"
    refine i_ixL (SqL.of l.r.ol) (atI_nat (v := .ref rh) (by rw [List.getElem?_map, a1]; rfl)) ?_
    walk_at "ev"
    refine ⟨rh, _, _, s, rfl, rfl, a3, ixN_nat (by rw [List.length_map]; exact hsl), ?_⟩
    obtain ⟨st1, l1⟩ := l.row (k := s) (y := x) a1 hx1
    generalize upd H rh (.lst ((m.2.map oV).set s (oV x))) = H1 at st1 l1 ⊢
    obtain ⟨d1, ow⟩ := l1.j.jb.ow
    rw [l1.aw] at ow
    have hpl : h < A.hs.length := by rw [l1.j.jd.lh]; exact hhm
    obtain ⟨pp, hpp⟩ : ∃ pp, A.hs[h]? = some pp := ⟨_, List.getElem?_eq_getElem hpl⟩
    have hd := l1.j.jd.hd h pp m hpp hm
    obtain ⟨dx, o1⟩ := hd.o1
    walk_at "ev"
    refine i_fldK ow Tx.cW Tx.nWd worldF_lk_hands ?_
    walk_at "ev"
    refine i_ixL (SqL.of l1.j.jb.on) (atI_nat (v := .ref pp.1) (by rw [List.getElem?_map, hpp]; rfl)) ?_
    refine i_fldK o1 Tx.cD Tx.nDs handF_lk_slots ?_
    walk_at "ev"
    refine ⟨pp.2, _, _, s, rfl, rfl, hd.o2, ixN_nat (by rw [List.length_map]; exact hsl), ?_⟩
    obtain ⟨st2, j2⟩ := l1.j.slot l1.w (by decide) (k := s) (x := x) hpp hm
    generalize upd H1 pp.2 (.lst ((m.2.map oV).set s (oV x))) = H2 at st2 j2 ⊢
    have l2 := l1.deed (A' := A) st2 j2 l1.aw
    obtain ⟨p', eh'⟩ := p.slot (s := s) hm hx
    rw [← eh'] at l2
    walk_at "ev"
    refine ifd (fun z => absurd z (by omega)) (fun _ => ?_)
    walk_at "ev"
    refine ifd (fun z => absurd z (by omega)) (fun _ => ?_)
    walk_at "ev"
    exact q _ T A _ ps l2 p' se bn0 ((Kp.stp st1 (by decide)).trans (Kp.stp st2 (by decide)))
  · walk_at "ev"
    have last : ∀ {H2 : Hp} {v10 v11 v12 : Option V}, one % 5 = 4 ∨ one % 5 ≠ 4 → H2 = H → True := fun _ _ => trivial
    refine ifd (fun w3 => ?_) (fun w3 => ?_)
    · walk_at "ev"
      cases z with
      | none =>
        rw [show oV ((none : Option Nat).map fun (k : Nat) => (k : Int)) = V.non from rfl]
        walk_at "ev"
        refine ifd (fun z => absurd z (by omega)) (fun _ => ?_)
        walk_at "ev"
        exact q _ T A M ps l p.mono se bn0 (Kp.same (Same.refl _))
      | some k =>
        obtain ⟨cc, hc⟩ := hz k rfl
        have hkl := (List.getElem?_eq_some_iff.mp hc).1
        rw [show oV ((some k : Option Nat).map fun (k : Nat) => (k : Int)) = V.int k from rfl]
        rcases l.p.get hkl with ⟨e1, _⟩ | ⟨c', pp, e1, e2, e3⟩
        · rw [hc] at e1; cases e1
        rw [hc] at e1
        cases e1
        obtain ⟨tp1, tp2, o1, o2⟩ := l.p.at_ k pp cc e2 hc
        walk_at "ev"
        refine i_ixL (SqL.of l.p.ol) (atI_nat e3) ?_
        walk_at "ev"
        refine i_ixL (SqL.of o1) (atI_nat (j := 2) (v := .ref pp.2) rfl) ?_
        walk_at "ev"
        refine i_lenL (SqL.of o2) ?_
        rw [List.length_map]
        walk_at "ev"
        refine ifd (fun f0 => ?_) (fun f0 => ?_)
        · walk_at "ev"
          refine i_ixL (SqL.of l.p.ol) (atI_nat e3) ?_
          walk_at "ev"
          refine i_ixL (SqL.of o1) (atI_nat (j := 2) (v := .ref pp.2) rfl) ?_
          walk_at "ev"
          refine i_lenL (SqL.of o2) ?_
          rw [List.length_map]
          walk_at "ev"
          obtain ⟨g, eg⟩ := toN (x := one / 5 % (cc.fl.length : Int)) (Int.emod_nonneg _ (by omega))
          have hgl : g < cc.fl.length := by
            have := Int.emod_lt_of_pos (one / 5) f0
            omega
          rw [eg]
          walk_at "ev"
          refine i_ixL (SqL.of l.p.ol) (atI_nat e3) ?_
          walk_at "ev"
          refine i_ixL (SqL.of o1) (atI_nat (j := 2) (v := .ref pp.2) rfl) ?_
          walk_at "ev"
          refine ⟨pp.2, _, _, g, rfl, rfl, o2, ixN_nat (by rw [List.length_map]; exact hgl), ?_⟩
          have st1 : Stp 4 H (upd H pp.2 (.lst ((cc.fl.map oV).set g (oV x)))) T T := Stp.upd l.w o2 (by rw [tp2])
          have l1 : L3 X (upd H pp.2 (.lst ((cc.fl.map oV).set g (oV x)))) T A M wo lp lr ls rs ps (heldOf M) (M.cells.set k (some { cc with fl := cc.fl.set g x })) M.used room M.born :=
            ⟨st1.wt, l.j.other st1 (by decide) (by decide), l.aw, l.r.other st1 (by decide), l.p.field rfl p e2 hc, l.ts, st1.kp _ _ l.os (by rw [l.ts]; decide)⟩
          generalize upd H pp.2 (.lst ((cc.fl.map oV).set g (oV x))) = H1 at st1 l1 ⊢
          obtain ⟨d1, ow⟩ := l1.j.jb.ow
          obtain ⟨th, tc, ⟨d3, oh⟩, oc⟩ := l1.j.jh
          rw [l1.aw] at ow
          obtain ⟨pc, hpc, ce⟩ := l1.j.jc.at hc
          obtain ⟨_, _, ⟨dc, oc1⟩, ofl⟩ := id ce
          walk_at "ev"
          refine i_fldK ow Tx.cW Tx.nWh worldF_lk_heap ?_
          refine i_fldK oh Tx.c.cl_Heap Tx.c.n_Heap_cells heapF_lk_cells ?_
          walk_at "ev"
          refine i_ixL (SqL.of oc) (atI_nat (v := .ref pc.1) (by rw [List.getElem?_map, hpc]; rfl)) ?_
          refine i_fldK oc1 Tx.c.cl_Cell Tx.c.n_Cell_fields cellF_lk_fields ?_
          walk_at "ev"
          refine ⟨pc.2, _, _, g, rfl, rfl, ofl, ixN_nat (by rw [List.length_map]; exact hgl), ?_⟩
          obtain ⟨st2, j2⟩ := l1.j.field l1.w (by decide) (k := g) (x := x) hpc ce
          generalize upd H1 pc.2 (.lst ((cc.fl.map oV).set g (oV x))) = H2 at st2 j2 ⊢
          have l2 := l1.deed (A' := A) st2 j2 l1.aw
          walk_at "ev"
          refine ifd (fun z => absurd z (by omega)) (fun _ => ?_)
          walk_at "ev"
          exact q _ T A _ ps l2 (p.field hc hx) se bn0 ((Kp.stp st1 (by decide)).trans (Kp.stp st2 (by decide)))
        · walk_at "ev"
          refine ifd (fun z => absurd z (by omega)) (fun _ => ?_)
          walk_at "ev"
          exact q _ T A M ps l p.mono se bn0 (Kp.same (Same.refl _))
    · walk_at "ev"
      refine ifd (fun w4 => ?_) (fun w4 => ?_)
      · cases z with
        | none =>
          rw [show oV ((none : Option Nat).map fun (k : Nat) => (k : Int)) = V.non from rfl]
          walk_at "ev"
          exact q _ T A M ps l p.mono se bn0 (Kp.same (Same.refl _))
        | some k =>
          obtain ⟨cc, hc⟩ := hz k rfl
          rw [show oV ((some k : Option Nat).map fun (k : Nat) => (k : Int)) = V.int k from rfl]
          walk_at "ev"
          exact ⟨_, _, _, _, rfl, T, A, M, lr, rs, ps, ns, room, i, cc, l, p, hi, by omega, by rw [Int.toNat_natCast]; exact hc, fun H' T' A' M' ps' l' p' se' bn' kp => q H' T' A' M' ps' l' p' (se'.trans se) (by rw [bn']; exact bn0) kp⟩
      · walk_at "ev"
        exact q _ T A M ps l p.mono se bn0 (Kp.same (Same.refl _))
theorem turn1 {T : Tg} {A : Wa} {M : Wm} {wo lp lr ls : Addr} {rs : List Addr} {ps : List (Option (Addr × Addr))} {ns : List Int} {room : Int} {i : Nat} {c one two : Int} {v7 : Option V} {x : Option Int} (Tx : TxW K X) (l : L3 X H T A M wo lp lr ls rs ps (heldOf M) M.cells M.used room M.born) (p : Q3 M ns room i) (hi : i ≤ 100) (se : M.sw.sense = 0) (bn0 : 0 ≤ M.born) (h1 : 0 ≤ one) (h2 : 0 ≤ two) (hx : ∀ y, x = some y → 0 ≤ y ∧ y < (M.cells.length : Int))
    (q : ∀ H' T' A' M' ps', L3 X H' T' A' M' wo lp lr ls rs ps' (heldOf M') M'.cells M'.used room M'.born → Q3 M' ns room (i + 1) → M'.sw.sense = 0 → 0 ≤ M'.born → Kp H H' T T' → Q (.bl true) H') :
    (tSeq (tAsg (tCall S_liesL [] E0 (tCons (tVar 1) (tCons (tOp (rI CDiv fun i j => .int (i / j)) (tVar 6) (tC (.int 300))) tNil))) (gName 9)) (tSeq (tIfS (tTest (tOp (rEq) (tOp (rI (fun _ j => 0 < j) fun i j => .int (i % j)) (tVar 5) (tC (.int 5))) (tC (.int 2)))) (tSeq (tAsg (tOp (rI (fun _ j => 0 < j) fun i j => .int (i % j)) (tOp (rI CDiv fun i j => .int (i / j)) (tVar 5) (tC (.int 5))) (tCB (G.cLenL K) (tCons (tVar 2) tNil))) (gName 10)) (tSeq (tAsg (tOp (rI (fun _ j => 0 < j) fun i j => .int (i % j)) (tOp (rI CDiv fun i j => .int (i / j)) (tVar 5) (tC (.int 25))) (tCB (G.cLenL K) (tCons (tOp (rIxL K) (tVar 2) (tVar 10)) tNil))) (gName 11)) (tSeq (tAsg (tVar 8) (gSub (tOp (rIxL K) (tVar 2) (tVar 10)) (tVar 11) rSetL)) (tAsg (tVar 8) (gSub (tFld K (tOp (rIxL K) (tFld K (tVar 0) "hands") (tVar 10)) "slots") (tVar 11) rSetL))))) tNext) (tSeq (tIfS ((tAnd (tTest (tOp (rEq) (tOp (rI (fun _ j => 0 < j) fun i j => .int (i % j)) (tVar 5) (tC (.int 5))) (tC (.int 3)))) (tAnd (tTest (tOp (G.rNotN) (tVar 9) (tC .non))) (tTest (tOp (rI0 fun i j => .bl (decide (j < i))) (tCB (G.cLenL K) (tCons (tOp (rIxL K) (tOp (rIxL K) (tVar 1) (tVar 9)) (tC (.int 2))) tNil)) (tC (.int 0))))))) (tSeq (tAsg (tOp (rI (fun _ j => 0 < j) fun i j => .int (i % j)) (tOp (rI CDiv fun i j => .int (i / j)) (tVar 5) (tC (.int 5))) (tCB (G.cLenL K) (tCons (tOp (rIxL K) (tOp (rIxL K) (tVar 1) (tVar 9)) (tC (.int 2))) tNil))) (gName 12)) (tSeq (tAsg (tVar 8) (gSub (tOp (rIxL K) (tOp (rIxL K) (tVar 1) (tVar 9)) (tC (.int 2))) (tVar 12) rSetL)) (tAsg (tVar 8) (gSub (tFld K (tOp (rIxL K) (tFld K (tFld K (tVar 0) "heap") "cells") (tVar 9)) "fields") (tVar 12) rSetL)))) tNext) (tSeq (tIfS ((tAnd (tTest (tOp (rEq) (tOp (rI (fun _ j => 0 < j) fun i j => .int (i % j)) (tVar 5) (tC (.int 5))) (tC (.int 4)))) (tTest (tOp (G.rNotN) (tVar 9) (tC .non))))) (tRet (tCall (S_backL X) [] E0 (tCons (tVar 0) (tCons (tVar 1) (tCons (tVar 3) (tCons (tVar 9) tNil)))))) tNext) (tRet (tC (.bl true))))))) ⟨n, Q, bk, ct⟩ [some (.ref wo), some (.ref lp), some (.ref lr), some (.ref ls), some (.int c), some (.int one), some (.int two), v7, some (oV x), none, none, none, none] H := by
  have hcl := p.cl
  walk_at "ev"
  refine ⟨lp, _, rfl, T, ps, M, l.p, by omega, by omega, fun H' s => ⟨?_, fun k cc hc => ?_⟩⟩
  · refine i_g9 ?_
    exact turn2 (z := none) Tx (l.same s) p hi se bn0 h1 h2 hx (fun k e => (nomatch e)) fun H2 T' A' M' ps' l' p' se' bn' kp => q H2 T' A' M' ps' l' p' se' bn' ((Kp.same s).trans kp)
  · refine i_g9 ?_
    exact turn2 (z := some k) Tx (l.same s) p hi se bn0 h1 h2 hx (fun k' e => by cases e; exact ⟨cc, hc⟩) fun H2 T' A' M' ps' l' p' se' bn' kp => q H2 T' A' M' ps' l' p' se' bn' ((Kp.same s).trans kp)
end
section
variable {K : PySem.W.Frag} {X : Cs} {rf : Rf → Addr} {H : Hp} {Q : VK} {E : XK} {n : St → Hp → Prop} {bk ct : St → Hp → Prop}
theorem _law_turn_rd {wo lp lr ls : Addr} {c : Int} (Tx : TxW K X) (q : Builtin.Int.intBits c ≤ 2 ^ 20 ∧ ∃ T A M rs ps ns room i, L3 X H T A M wo lp lr ls rs ps (heldOf M) M.cells M.used room M.born ∧ Q3 M ns room i ∧ i ≤ 100 ∧ M.sw.sense = 0 ∧ 0 ≤ M.born ∧
  ∀ H' T' A' M' ps', L3 X H' T' A' M' wo lp lr ls rs ps' (heldOf M') M'.cells M'.used room M'.born → Q3 M' ns room (i + 1) → M'.sw.sense = 0 → 0 ≤ M'.born → Kp H H' T T' → Q (.bl true) H') :
    rd__law_turn K (S_backL X) S_liesL (S_madeL X) S_mix ⟨n, Q, bk, ct⟩ [some (.ref wo), some (.ref lp), some (.ref lr), some (.ref ls), some (.int c), none, none, none, none, none, none, none, none] H := by
  obtain ⟨hb, T, A, M, rs, ps, ns, room, i, l, p, hi, se, bn0, q⟩ := q
  have hcl := p.cl
  have hps := l.p.ln
  unfold rd__law_turn
  walk_at "ev"
  refine ⟨_, _, rfl, by decide, by decide, fun one h1 => ?_⟩
  walk_at "ev"
  refine ⟨_, _, rfl, by decide, by decide, fun two h2 => ?_⟩
  walk_at "ev"
  refine ifd (fun _ => ?_) (fun _ => ?_)
  · walk_at "ev"
    refine ifd (fun _ => ?_) (fun _ => ?_)
    · walk_at "ev"
      refine i_I (mulW _ hb (by decide)) ?_
      walk_at "ev"
      exact ⟨_, _, _, _, _, rfl, T, A, M, lr, rs, ps, ns, room, i, l, p, hi, by omega, Int.emod_nonneg _ (by decide), se, bn0, q⟩
    · walk_at "ev"
      exact ⟨_, _, _, _, _, rfl, T, A, M, lr, rs, ps, ns, room, i, l, p, hi, by omega, by omega, se, bn0, q⟩
  · walk_at "ev"
    refine i_lenL (SqL.of l.p.ol) ?_
    rw [List.length_map, hps]
    walk_at "ev"
    refine ifd (fun z0 => ?_) (fun z0 => ?_)
    · walk_at "ev"
      refine ifd (fun z1 => ?_) (fun z1 => ?_)
      · walk_at "ev"
        refine i_lenL (SqL.of l.p.ol) ?_
        rw [List.length_map, hps]
        walk_at "es"
        refine turn1 (x := some (two / 7 % (M.cells.length : Int))) Tx l p hi se bn0 h1 h2 (fun y ey => ?_) q
        cases ey
        exact ⟨Int.emod_nonneg _ (by omega), Int.emod_lt_of_pos _ z0⟩
      · refine i_next ?_
        exact turn1 (x := none) Tx l p hi se bn0 h1 h2 (fun y ey => (nomatch ey)) q
    · refine i_next ?_
      exact turn1 (x := none) Tx l p hi se bn0 h1 h2 (fun y ey => (nomatch ey)) q
end
def S_new (X : Cs) : Sp := fun vs H Q E => ∃ wo lq room, vs = [.ref wo, .ref lq, .int room] ∧ ∃ T s A, ∃ hands : List (Str × Int), ∃ w t ts, WT H T ∧ WJ X H T s A (newW room hands w t) ∧ A.wo = wo ∧ H lq = some (.lst (ts.map V.ref)) ∧ Al (fun (a : Addr) (m : Str × Int) => H a = some (.tup [.str m.1, .int m.2])) ts hands ∧ hands.length ≤ 5 ∧ (∀ m ∈ hands, 3 ≤ m.2 ∧ m.2 ≤ 9) ∧ ∀ H', Same H H' → Q (.bl true) H'
section
variable {K : PySem.W.Frag} {X : Cs} {rf : Rf → Addr} {H : Hp} {Q : VK} {E : XK} {n : St → Hp → Prop} {bk ct : St → Hp → Prop}
theorem _law_cell_at_rd {a : Addr} {k : Int} (q : ∃ ns : List Int, SqL K H a (ns.map V.int) ∧ BitsOk ns ∧ 0 ≤ k ∧ ∀ z : Int, Builtin.Int.intBits z ≤ 2 ^ 20 → Q (.int z) H) : rd__law_cell_at K ⟨n, Q, bk, ct⟩ [some (.ref a), some (.int k)] H := by
  obtain ⟨ns, hS, hb, h0, h⟩ := q
  unfold rd__law_cell_at
  walk_at "ev"
  refine i_lenL hS ?_
  walk_at "ev"
  refine ifd (fun h1 => ?_) (fun h1 => ?_)
  · walk_at "ev"
    rw [List.length_map] at h1
    have hk : k.toNat < ns.length := by omega
    exact i_ixL hS (atI_int h0 (v := .int ns[k.toNat]) (by rw [List.getElem?_map, List.getElem?_eq_getElem hk] <;> rfl)) (h _ (hb _ (List.getElem_mem hk)))
  · walk_at "ev"
    exact h _ (by decide)
theorem slen1 (c : Nat) : (⟨#[c]⟩ : Str).length = 1 := rfl
theorem slenA (a b : Str) : (a ++ b).length = a.length + b.length := by
  show (a.cps ++ b.cps).size = _
  rw [Array.size_append]; rfl
theorem _law_names_rd {c m : Int} (q : (0 ≤ m ∧ m ≤ 100) ∧ ∀ (l : Addr) (ws : List Str) H', Same H H' → H' l = some (.lst (ws.map V.str)) → ws.length = m.toNat → H l = none → Q (.ref l) H') :
    rd__law_names K S_mix ⟨n, Q, bk, ct⟩ [some (.int c), some (.int m), none, none, none, none, none, none, none, none] H := by
  obtain ⟨⟨m0, m1⟩, q⟩ := q
  unfold rd__law_names
  walk_at "ev"
  refine ⟨_, _, rfl, by decide, by decide, fun z1 h1 => ?_⟩
  walk_at "ev"
  have c1 := Int.emod_nonneg z1 (show (12 : Int) ≠ 0 by decide)
  have c2 := Int.emod_lt_of_pos z1 (show (0 : Int) < 12 by decide)
  obtain ⟨size, es⟩ := toN (x := 1 + z1 % 12) (by omega)
  have hs : 1 ≤ size ∧ size ≤ 12 := by omega
  rw [es]
  refine ⟨_, rfl, by omega, by omega, ?_⟩
  refine forR (fun k σ Hx => Hx = H ∧ ∃ (w : Str) (v5 : Option V), σ = [some (.int c), some (.int m), some (.str "abcdefghijklmnopqrstuvwxyz"), some (.int size), some (.str w), v5, none, none, none, none] ∧ w.length ≤ k) ⟨rfl, _, _, rfl, Nat.le_refl _⟩ ?_ ?_
  · rintro k σ Hx hk ⟨rfl, w, v5, rfl, hw⟩
    have hk12 : k ≤ 12 := by omega
    have hii : (k : Int) * k ≤ 144 := by
      have := Nat.mul_le_mul hk12 hk12
      have e : ((k * k : Nat) : Int) = (k : Int) * k := by push_cast; rfl
      omega
    have hi0 : 0 ≤ (k : Int) * k := Int.mul_nonneg (by omega) (by omega)
    rw [Int.zero_add]
    walk_at "ev"
    refine ⟨_, _, rfl, by omega, by omega, fun z2 h2 => ?_⟩
    walk_at "ev"
    have d1 := Int.emod_nonneg z2 (show (26 : Int) ≠ 0 by decide)
    have d2 := Int.emod_lt_of_pos z2 (show (0 : Int) < 26 by decide)
    refine i_ixSx (by decide) d1 (by show z2 % 26 < 26; exact d2) fun ch => ?_
    walk_at "ev"
    refine ⟨w, ⟨#[ch]⟩, rfl, rfl, by rw [slen1]; exact len_ok (by omega), ?_⟩
    walk_at "ev"
    exact ⟨rfl, _, _, rfl, by rw [slenA, slen1]; omega⟩
  · rintro σ Hx ⟨rfl, w, v5, rfl, hw⟩
    have hw : w.length ≤ 12 := by omega
    walk_at "ev"
    refine ⟨_, _, rfl, by decide, by decide, fun z3 h3 => ?_⟩
    walk_at "ev"
    refine ⟨_, _, rfl, by decide, by decide, fun z4 h4 => ?_⟩
    walk_at "ev"
    have e1 := Int.emod_nonneg z3 (show (size : Int) ≠ 0 by omega)
    have f1 := Int.emod_nonneg z4 (show (26 : Int) ≠ 0 by decide)
    generalize z3 % (size : Int) = at' at e1 ⊢
    generalize z4 % 26 = start at f1 ⊢
    refine ⟨by decide, fun wl nwl => ?_⟩
    have s1 := same_new nwl (.lst [])
    have g1 : upd Hx wl (.lst []) wl = some (.lst (([] : List Str).map V.str)) := upd_same
    generalize upd Hx wl (.lst []) = H1 at s1 g1 ⊢
    walk_at "ev"
    refine ⟨_, rfl, by omega, by omega, ?_⟩
    refine forR (fun k σ H2 => ∃ (ws : List Str) (v5 v9 : Option V), σ = [some (.int c), some (.int m), some (.str "abcdefghijklmnopqrstuvwxyz"), some (.int size), some (.str w), v5, some (.int at'), some (.int start), some (.ref wl), v9] ∧ Same Hx H2 ∧ H2 wl = some (.lst (ws.map V.str)) ∧ ws.length = k) ⟨[], _, _, rfl, s1, g1, rfl⟩ ?_ ?_
    · rintro k σ H2 hk ⟨ws, v5, v9, rfl, s2, g2, hl⟩
      have hk : k < 101 := by omega
      rw [Int.zero_add]
      have fin : ∀ (one : Str) (v5 : Option V), ∀ (nn : St → Hp → Prop) (rr : VK) (bb cc : St → Hp → Prop), (∀ σ H', (∃ (ws : List Str) (v5 v9 : Option V), σ = [some (.int c), some (.int m), some (.str "abcdefghijklmnopqrstuvwxyz"), some (.int size), some (.str w), v5, some (.int at'), some (.int start), some (.ref wl), v9] ∧ Same Hx H' ∧ H' wl = some (.lst (ws.map V.str)) ∧ ws.length = k + 1) → nn σ H') →
          tDrop (tBM K "list" rAppend (tVar 8) (tCons (tVar 9) tNil)) ⟨nn, rr, bb, cc⟩ [some (.int c), some (.int m), some (.str "abcdefghijklmnopqrstuvwxyz"), some (.int size), some (.str w), v5, some (.int at'), some (.int start), some (.ref wl), some (.str one)] H2 := by
        intro one v5 nn rr bb cc hD
        walk_at "ev"
        refine ⟨.inl ⟨rfl, _, SqL.of g2⟩, ?_⟩
        walk_at "ev"
        refine ⟨wl, _, _, rfl, rfl, g2, ?_, ?_⟩
        · rw [List.length_map]
          exact Nat.lt_of_le_of_lt (show _ ≤ 1000 by omega) (by decide)
        rw [show ws.map V.str ++ [V.str one] = (ws ++ [one]).map V.str from by rw [List.map_append]; rfl]
        walk_at "ev"
        exact hD _ _ ⟨ws ++ [one], _, _, rfl, fun b o hb => by rw [upd_ne (ne_of_none hb nwl)]; exact s2 _ _ hb, upd_same, by rw [List.length_append, hl]; rfl⟩
      have l1 := cutS_length w none (some at')
      have l2 := cutS_length w (some (at' + 1)) none
      walk_at "ev"
      refine i_slS (len_ok (by omega)) ?_
      walk_at "ev"
      have d1 := Int.emod_nonneg (start + k) (show (26 : Int) ≠ 0 by decide)
      have d2 := Int.emod_lt_of_pos (start + k) (show (0 : Int) < 26 by decide)
      refine i_ixSx (by decide) d1 (by show (start + k) % 26 < 26; exact d2) fun ch => ?_
      walk_at "ev"
      refine ⟨_, ⟨#[ch]⟩, rfl, rfl, by rw [slen1]; exact len_ok (by omega), ?_⟩
      walk_at "ev"
      refine i_slS (len_ok (by omega)) ?_
      walk_at "ev"
      refine ⟨_, _, rfl, rfl, by rw [slenA, slen1]; exact len_ok (by omega), ?_⟩
      walk_at "ev"
      refine ifd (fun _ => ?_) (fun _ => ?_)
      · refine i_asg ?_
        refine i_C ?_
        refine i_g9 ?_
        exact fin _ _ _ _ _ _ fun σ H' h => h
      · refine i_next ?_
        exact fin _ _ _ _ _ _ fun σ H' h => h
    · rintro σ H2 ⟨ws, v5, v9, rfl, s2, g2, hl⟩
      walk_at "ev"
      exact q wl ws H2 s2 g2 hl nwl
theorem al_len {α β : Type} {P : α → β → Prop} : ∀ {xs : List α} {ys : List β}, Al P xs ys → xs.length = ys.length
  | _, _, .nil => rfl
  | _, _, .cons _ t => by rw [List.length_cons, List.length_cons, al_len t]
theorem al_get {α β : Type} {P : α → β → Prop} : ∀ {xs : List α} {ys : List β} {i : Nat} {x : α} {y : β}, Al P xs ys → xs[i]? = some x → ys[i]? = some y → P x y
  | _, _, 0, _, _, .cons h _, e1, e2 => by cases e1; cases e2; exact h
  | _, _, i + 1, _, _, .cons _ t, e1, e2 => al_get t (by simpa using e1) (by simpa using e2)
theorem _law_new_rd {wo lq : Addr} {room : Int} (Tx : TxW K X) (q : ∃ T s A, ∃ hands : List (Str × Int), ∃ w t ts, WT H T ∧ WJ X H T s A (newW room hands w t) ∧ A.wo = wo ∧ H lq = some (.lst (ts.map V.ref)) ∧ Al (fun (a : Addr) (m : Str × Int) => H a = some (.tup [.str m.1, .int m.2])) ts hands ∧ hands.length ≤ 5 ∧ (∀ m ∈ hands, 3 ≤ m.2 ∧ m.2 ≤ 9) ∧ ∀ H', Same H H' → Q (.bl true) H') :
    rd__law_new K (S_same 3) (S_held X) ⟨n, Q, bk, ct⟩ [some (.ref wo), some (.ref lq), some (.int room), none, none] H := by
  obtain ⟨T, s, A, hands, w, t, ts, wt, j, aw, oq, al, hl, hb, q⟩ := q
  have lts := al_len al
  obtain ⟨dw, ow⟩ := j.jb.ow
  rw [aw] at ow
  obtain ⟨ds, os⟩ := j.js.os
  have os : H A.sw = some (.ins X.S ds (sweepF 0 "rest" A.gr 0 0 0 0 0 0 0 .non)) := os
  have og : H A.gr = some (.lst []) := j.js.og
  obtain ⟨dh, oh⟩ := j.jh.oh
  have oh : H A.hp = some (.ins X.H dh (heapF room A.ca 0 0)) := oh
  have om : H A.nm = some (.dK []) := j.jn.om
  have lhs : A.hs.length = hands.length := by
    have := j.jd.lh
    rw [this]
    show (hands.map _).length = _
    rw [List.length_map]
  unfold rd__law_new
  walk_at "ev"
  refine i_fldK ow Tx.cW Tx.nWs worldF_lk_sweeper ?_
  walk_at "ev"
  refine i_fldK os Tx.cS Tx.n1 sweepF_lk_sense ?_
  walk_at "ev"
  refine i_fldK os Tx.cS Tx.n2 sweepF_lk_phase ?_
  walk_at "ev"
  refine i_fldK os Tx.cS Tx.n3 sweepF_lk_grey ?_
  walk_at "ev"
  refine i_fldK os Tx.cS Tx.n4 sweepF_lk_looked ?_
  walk_at "ev"
  refine i_fldK os Tx.cS Tx.n5 sweepF_lk_turn ?_
  walk_at "ev"
  refine i_fldK os Tx.cS Tx.n6 sweepF_lk_at ?_
  walk_at "ev"
  refine i_fldK os Tx.cS Tx.n7 sweepF_lk_stop ?_
  walk_at "ev"
  refine ⟨len_ok (by simp), fun l1 nl1 => ?_⟩
  generalize hH1 : upd H l1 _ = H1
  have s1 : Same H H1 := by rw [← hH1]; exact same_new nl1 _
  have g1 : H1 l1 = some (.lst [.int 0, .str "rest", .ref A.gr, .int 0, .int 0, .int 0, .int 0]) := by rw [← hH1]; exact upd_same
  clear hH1
  walk_at "ev"
  refine ⟨by decide, fun l2 nl2 => ⟨len_ok (by simp), fun l3 nl3 => ?_⟩⟩
  have s2 := same_new nl2 (.lst [])
  have g2 : upd H1 l2 (.lst []) l2 = some (.lst []) := upd_same
  generalize upd H1 l2 (.lst []) = H2 at s2 g2 nl3 ⊢
  have s3 := same_new nl3 (.lst [.int 0, .str "rest", .ref l2, .int 0, .int 0, .int 0, .int 0])
  have g3 : upd H2 l3 (.lst [.int 0, .str "rest", .ref l2, .int 0, .int 0, .int 0, .int 0]) l3 = some (.lst [.int 0, .str "rest", .ref l2, .int 0, .int 0, .int 0, .int 0]) := upd_same
  generalize upd H2 l3 (.lst [.int 0, .str "rest", .ref l2, .int 0, .int 0, .int 0, .int 0]) = H3 at s3 g3 ⊢
  have s03 := s1.trans (s2.trans s3)
  refine ⟨.ref l1, .ref l3, rfl, .inr ⟨l1, l3, _, _, rfl, rfl, .inl ⟨s3 _ _ (s2 _ _ g1), g3⟩, by simp, .cons (sm_flat rfl) (.cons (sm_flat rfl) (.cons (.inr ⟨A.gr, l2, _, _, rfl, rfl, .inl ⟨s03 _ _ og, s3 _ _ g2⟩, by simp [newW], .nil⟩) (.cons (sm_flat rfl) (.cons (sm_flat rfl) (.cons (sm_flat rfl) (.cons (sm_flat rfl) .nil))))))⟩, ?_⟩
  walk_at "ev"
  refine i_fldK (s03 _ _ os) Tx.cS Tx.n11 sweepF_lk_loss ?_
  walk_at "ev"
  refine i_fldK (s03 _ _ os) Tx.cS Tx.n8 sweepF_lk_walks ?_
  walk_at "ev"
  refine i_fldK (s03 _ _ os) Tx.cS Tx.n9 sweepF_lk_looks ?_
  walk_at "ev"
  refine i_fldK (s03 _ _ os) Tx.cS Tx.n10 sweepF_lk_passes ?_
  walk_at "ev"
  refine ⟨len_ok (by simp), fun l4 nl4 => ?_⟩
  have s4 := same_new nl4 (.lst [.int 0, .int 0, .int 0])
  have g4 : upd H3 l4 (.lst [.int 0, .int 0, .int 0]) l4 = some (.lst [.int 0, .int 0, .int 0]) := upd_same
  generalize upd H3 l4 (.lst [.int 0, .int 0, .int 0]) = H4 at s4 g4 ⊢
  walk_at "ev"
  refine ⟨len_ok (by simp), fun l5 nl5 => ?_⟩
  have s5 := same_new nl5 (.lst [.int 0, .int 0, .int 0])
  have g5 : upd H4 l5 (.lst [.int 0, .int 0, .int 0]) l5 = some (.lst [.int 0, .int 0, .int 0]) := upd_same
  generalize upd H4 l5 (.lst [.int 0, .int 0, .int 0]) = H5 at s5 g5 ⊢
  have s05 := s03.trans (s4.trans s5)
  walk_at "ev"
  refine ⟨.ref l4, .ref l5, rfl, .inr ⟨l4, l5, _, _, rfl, rfl, .inl ⟨s5 _ _ g4, g5⟩, by simp, sm_flats rfl⟩, ?_⟩
  walk_at "ev"
  refine i_fldK (s05 _ _ ow) Tx.cW Tx.nWh worldF_lk_heap ?_
  walk_at "ev"
  refine i_fldK (s05 _ _ oh) Tx.c.cl_Heap Tx.c.n_Heap_room heapF_lk_room ?_
  walk_at "ev"
  refine i_fldK (s05 _ _ ow) Tx.cW Tx.nWh worldF_lk_heap ?_
  walk_at "ev"
  refine i_fldK (s05 _ _ oh) Tx.c.cl_Heap Tx.c.n_Heap_used heapF_lk_used ?_
  walk_at "ev"
  refine i_fldK (s05 _ _ ow) Tx.cW Tx.nWh worldF_lk_heap ?_
  walk_at "ev"
  refine i_fldK (s05 _ _ oh) Tx.c.cl_Heap Tx.c.n_Heap_born heapF_lk_born ?_
  walk_at "ev"
  refine ⟨len_ok (by simp), fun l6 nl6 => ?_⟩
  have s6 := same_new nl6 (.lst [.int room, .int 0, .int 0])
  have g6 : upd H5 l6 (.lst [.int room, .int 0, .int 0]) l6 = some (.lst [.int room, .int 0, .int 0]) := upd_same
  generalize upd H5 l6 (.lst [.int room, .int 0, .int 0]) = H6 at s6 g6 ⊢
  walk_at "ev"
  refine ⟨len_ok (by simp), fun l7 nl7 => ?_⟩
  have s7 := same_new nl7 (.lst [.int room, .int 0, .int 0])
  have g7 : upd H6 l7 (.lst [.int room, .int 0, .int 0]) l7 = some (.lst [.int room, .int 0, .int 0]) := upd_same
  generalize upd H6 l7 (.lst [.int room, .int 0, .int 0]) = H7 at s7 g7 ⊢
  have s07 := s05.trans (s6.trans s7)
  walk_at "ev"
  refine ⟨.ref l6, .ref l7, rfl, .inr ⟨l6, l7, _, _, rfl, rfl, .inl ⟨s7 _ _ g6, g7⟩, by simp, sm_flats rfl⟩, ?_⟩
  walk_at "ev"
  refine i_fldK (s07 _ _ ow) Tx.cW Tx.nWn worldF_lk_names ?_
  walk_at "ev"
  intro le nle
  have s8 := same_new nle (.dK [])
  have g8 : upd H7 le (.dK []) le = some (.dK []) := upd_same
  generalize upd H7 le (.dK []) = H8 at s8 g8 ⊢
  have s08 := s07.trans s8
  refine i_eqD0 (s08 _ _ om) g8 ?_
  rw [show (if true = true then !(([] : List (L2.Key × V)).length == 0) else ([] : List (L2.Key × V)).length == 0) = false from rfl]
  walk_at "ev"
  refine i_lcg ?_
  walk_at "ev"
  refine i_fldK (s08 _ _ ow) Tx.cW Tx.nWd worldF_lk_hands ?_
  refine ⟨_, rfl, ⟨_, SqL.of (s08 _ _ j.jb.on)⟩, ?_⟩
  refine lc_newDL (SqL.of (s08 _ _ j.jb.on)) (by rw [List.length_map]; omega) (fun i r Hx => ∃ m, hands[i]? = some m ∧ Hx r = some (.tup [.str m.1, .int m.2])) (fun _ _ _ _ ⟨x, e, z⟩ s => ⟨x, e, s _ _ z⟩) (fun _ _ _ ⟨_, _, z⟩ => ⟨_, z⟩) (fun x H1 q hq => i_true hq) (fun i x H9 hi s9 q' hq => ?_) ?_
  · rw [List.getElem?_map] at hi
    obtain ⟨pp, hp, rfl⟩ := Option.map_eq_some_iff.mp hi
    have j1 := j.same (s08.trans s9)
    have hil : i < hands.length := by rw [← lhs]; exact (List.getElem?_eq_some_iff.mp hp).1
    have hm : (newW room hands w t).hands[i]? = some (hands[i].1, List.replicate hands[i].2.toNat none) := by
      show (hands.map _)[i]? = _
      rw [List.getElem?_map, List.getElem?_eq_getElem hil]; rfl
    have hd := j1.jd.hd i pp _ hp hm
    obtain ⟨dx, o1⟩ := hd.o1
    have b3 := hb _ (List.getElem_mem hil)
    walk_at "caps"
    walk_at "ev"
    refine i_fldK o1 Tx.cD Tx.nDn handF_lk_name ?_
    walk_at "ev"
    refine i_fldK o1 Tx.cD Tx.nDs handF_lk_slots ?_
    walk_at "ev"
    refine i_lenL (SqL.of hd.o2) ?_
    rw [List.length_map, List.length_replicate, show ((hands[i].2.toNat : Nat) : Int) = hands[i].2 from by omega]
    walk_at "ev"
    exact ⟨len_ok (by simp), fun r nr => hq r _ (same_new nr _) nr ⟨_, List.getElem?_eq_getElem hil, upd_same⟩⟩
  · intro rs H9 s9 hl9 nd nn hr la nla
    rw [List.length_map] at hl9
    have s10 := same_new nla (.lst (rs.map V.ref))
    have g10 : upd H9 la (.lst (rs.map V.ref)) la = some (.lst (rs.map V.ref)) := upd_same
    generalize upd H9 la (.lst (rs.map V.ref)) = H10 at s10 g10 ⊢
    have s010 := s08.trans (s9.trans s10)
    walk_at "ev"
    refine ⟨.ref la, .ref lq, rfl, .inr ⟨la, lq, _, _, rfl, rfl, .inl ⟨g10, s010 _ _ oq⟩, by rw [List.length_map]; omega, al_of (by rw [List.length_map, List.length_map]; omega) fun i u v e1 e2 => ?_⟩, ?_⟩
    · rw [List.getElem?_map] at e1 e2
      obtain ⟨r, h1, rfl⟩ := Option.map_eq_some_iff.mp e1
      obtain ⟨r', h2, rfl⟩ := Option.map_eq_some_iff.mp e2
      obtain ⟨m, e3, z⟩ := hr i r h1
      have z' := al_get al h2 e3
      exact .inr ⟨r, r', _, _, rfl, rfl, .inr ⟨s10 _ _ z, s010 _ _ z'⟩, by simp, .cons (sm_flat rfl) (.cons (sm_flat rfl) .nil)⟩
    · walk_at "ev"
      refine ⟨wo, rfl, T, s, A, _, j.same s010, aw, by show (hands.map _).length ≤ _; rw [List.length_map]; omega, fun lh ls H11 s11 _ oh11 hl11 _ _ _ g11 => ?_⟩
      have hlen : (heldOf (newW room hands w t)).length = hands.length := by
        unfold heldOf
        show ((hands.map _).map _).length = _
        rw [List.length_map, List.length_map]
      have hat : ∀ (k : Nat) m, hands[k]? = some m → (heldOf (newW room hands w t))[k]? = some (List.replicate m.2.toNat none) := fun k m e => by
        unfold heldOf
        show ((hands.map _).map _)[k]? = _
        rw [List.getElem?_map, List.getElem?_map, e]; rfl
      have s011 := s010.trans s11
      walk_at "ev"
      refine ⟨lq, rfl, ⟨_, SqL.of (s011 _ _ oq)⟩, lcg2_of ?_⟩
      refine lc_newDL (SqL.of (s011 _ _ oq)) (by rw [List.length_map]; omega) (fun i r Hx => ∃ m, hands[i]? = some m ∧ Hx r = some (.lst (List.replicate m.2.toNat V.non))) (fun _ _ _ _ ⟨x, e, z⟩ s => ⟨x, e, s _ _ z⟩) (fun _ _ _ ⟨_, _, z⟩ => ⟨_, z⟩) (fun x H1 q hq => i_true hq) (fun i x H12 hi s12 q' hq => ?_) ?_
      · rw [List.getElem?_map] at hi
        obtain ⟨r, hr1, rfl⟩ := Option.map_eq_some_iff.mp hi
        have hil : i < hands.length := by rw [← lts]; exact (List.getElem?_eq_some_iff.mp hr1).1
        have z' := al_get al hr1 (List.getElem?_eq_getElem hil)
        have b3 := hb _ (List.getElem_mem hil)
        refine ⟨r, _, _, _, rfl, SqT.of (s12 _ _ (s011 _ _ z')), ?_⟩
        walk_at "caps"
        walk_at "ev"
        refine ⟨by decide, fun l0 hl0 => ?_⟩
        have s13 := same_new hl0 (.lst [V.non])
        have g13 : upd H12 l0 (.lst [V.non]) l0 = some (.lst [V.non]) := upd_same
        generalize upd H12 l0 (.lst [V.non]) = H13 at s13 g13 ⊢
        walk_at "ev"
        refine ⟨l0, hands[i].2, _, rfl, rfl, g13, by omega, by omega, by show 1 * hands[i].2.toNat ≤ sizeLine; exact len_ok (by omega), fun f nf => ?_⟩
        rw [rep_non, List.map_replicate]
        exact hq f _ (s13.trans (same_new nf _)) (s13.free nf) ⟨_, List.getElem?_eq_getElem hil, upd_same⟩
      · intro rs2 H12 s12 hl12 _ _ hr2 lb nlb
        rw [List.length_map] at hl12
        have s13 := same_new nlb (.lst (rs2.map V.ref))
        have g13 : upd H12 lb (.lst (rs2.map V.ref)) lb = some (.lst (rs2.map V.ref)) := upd_same
        generalize upd H12 lb (.lst (rs2.map V.ref)) = H13 at s13 g13 ⊢
        have s1113 := s12.trans s13
        walk_at "ev"
        refine ⟨.ref lh, .ref lb, rfl, .inr ⟨lh, lb, _, _, rfl, rfl, .inl ⟨s1113 _ _ oh11, g13⟩, by rw [List.length_map]; omega, al_of (by rw [List.length_map, List.length_map]; omega) fun i u v e1 e2 => ?_⟩, q _ (s011.trans s1113)⟩
        rw [List.getElem?_map] at e1 e2
        obtain ⟨r, h1, rfl⟩ := Option.map_eq_some_iff.mp e1
        obtain ⟨r', h2, rfl⟩ := Option.map_eq_some_iff.mp e2
        obtain ⟨m, e3, z⟩ := hr2 i r' h2
        have z1 := g11 i r _ h1 (hat i m e3)
        rw [List.map_replicate] at z1
        have b3 := hb m (List.mem_of_getElem? e3)
        exact .inr ⟨r, r', _, _, rfl, rfl, .inl ⟨s1113 _ _ z1, s13 _ _ z⟩, by rw [List.length_replicate]; omega, sm_flats (by
          rw [List.all_eq_true]
          intro x hx
          rw [List.eq_of_mem_replicate hx]; rfl)⟩
end
structure E3 (X : Cs) (H : Hp) (T : Tg) (lk lq : Addr) (ks ts : List Addr) (hands : List (Str × Int)) (B : Wa) (room wB uB : Int) : Prop where
  tk : T lk = (6, 0)
  ok : H lk = some (.lst (ks.map V.ref))
  ke : ∀ r ∈ ks, ∃ f d t, T r = (0, 0) ∧ H r = some (.tup [.ref f, .ref d]) ∧ Rp H T 3 (.ref f) t ∧ Rp H T 3 (.ref d) t
  jb : WJ X H T 7 B (newW room hands wB uB)
  tq : T lq = (0, 0)
  oq : H lq = some (.lst (ts.map V.ref))
  al : Al (fun (a : Addr) (m : Str × Int) => T a = (0, 0) ∧ H a = some (.tup [.str m.1, .int m.2])) ts hands
theorem E3.kp {X : Cs} {H H' : Hp} {T T' : Tg} {lk lq : Addr} {ks ts : List Addr} {hands : List (Str × Int)} {B : Wa} {room wB uB : Int} (e : E3 X H T lk lq ks ts hands B room wB uB) (k : Kp H H' T T') : E3 X H' T' lk lq ks ts hands B room wB uB := by
  refine ⟨(k.tg _ _ e.ok).trans e.tk, k.k _ _ e.ok (.inr (by rw [e.tk]; decide)), fun r hr => ?_, e.jb.mv ⟨fun b o hb ht _ => k.k b o hb (.inr (by rw [ht]; decide)), k.tg⟩ fun b o hb ht => k.k b o hb (.inl (by rw [ht])), (k.tg _ _ e.oq).trans e.tq, k.k _ _ e.oq (.inl (by rw [e.tq])), al_mono (fun a m z => ⟨(k.tg _ _ z.2).trans z.1, k.k _ _ z.2 (.inl (by rw [z.1]))⟩) e.al⟩
  obtain ⟨f, d, t, a1, a2, a3, a4⟩ := e.ke r hr
  exact ⟨f, d, t, (k.tg _ _ a2).trans a1, k.k _ _ a2 (.inl (by rw [a1])), a3.kp k, a4.kp k⟩
section
variable {K : PySem.W.Frag} {X : Cs} {rf : Rf → Addr} {H : Hp} {Q : VK} {E : XK} {n : St → Hp → Prop} {bk ct : St → Hp → Prop}
theorem law_loop {a wo wb lp lr ls lk lq : Addr} {T : Tg} {A B : Wa} {M : Wm} {rs ts : List Addr} {ps : List (Option (Addr × Addr))} {ns ns0 : List Int} {hands : List (Str × Int)} {room wB uB : Int} {v2 v3 v4 v6 : Option V} (Tx : TxW K X) (l : L3 X H T A M wo lp lr ls rs ps (heldOf M) M.cells M.used room M.born) (p : Q3 M ns room 0) (se : M.sw.sense = 0) (bn0 : 0 ≤ M.born) (e : E3 X H T lk lq [] ts hands B room wB uB) (bw : B.wo = wb) (hl5 : hands.length ≤ 5) (hb : ∀ m ∈ hands, 3 ≤ m.2 ∧ m.2 ≤ 9)
    (hS : SqL K H a (ns0.map V.int)) (hlen : ns0.length ≤ 63) (hbits : BitsOk ns0) (h : ∀ H', Q (.bl true) H') :
    (tSeq (tFor (iList K (tSl (rSlL K) (tVar 0) (tPart (tC (.int 3))) (tPart (tC (.int 40))))) (gName 13) (tSeq (tIfS (tNot (tB (tCall (S_turn X) [] E0 (tCons (tVar 7) (tCons (tVar 9) (tCons (tVar 10) (tCons (tVar 11) (tCons (tVar 13) tNil)))))))) (tRet (tC (.bl false))) tNext) (tSeq (tAsg (tOp (rI (fun _ j => 0 < j) fun i j => .int (i % j)) (tCall S_mix [] E0 (tCons (tVar 13) (tCons (tC (.int 39373)) tNil))) (tC (.int 3))) (gName 14)) (tSeq (tAsg (tCall (S_foundL X) [] E0 (tCons (tVar 7) (tCons (tVar 14) tNil))) (gName 15)) (tSeq (tAsg (tCall S_dueL [] E0 (tCons (tVar 9) (tCons (tVar 10) (tCons (tVar 14) tNil)))) (gName 16)) (tSeq (tIfS (tNot (tB (tCall (S_same 3) [] E0 (tCons (tVar 15) (tCons (tVar 16) tNil))))) (tRet (tC (.bl false))) tNext) (tSeq (tDrop (tBM K "list" rAppend (tVar 12) (tCons (tTup (tCons (tVar 15) (tCons (tVar 16) tNil))) tNil))) (tSeq (tAsg (tCall (S_foundL X) [] E0 (tCons (tVar 7) (tCons (tVar 14) tNil))) (gName 17)) (tSeq (tDrop (tBM K "list" rAppend (tVar 17) (tCons (tC .non) tNil))) (tIfS (tTest (tOp (rI0 fun i j => .bl (decide (i < j))) (tVar 14) (tC (.int 2)))) (tDrop (tBM K "list" rAppend (tOp (rIxL K) (tVar 17) (tC (.int 0))) (tCons (tC (.int 5)) tNil))) tNext)))))))))) (tSeq (tFor (iRng1 (tCons (tC (.int 3)) tNil)) (gName 14) (tIfS (tNot (tB (tCall (S_same 3) [] E0 (tCons (tCall (S_foundL X) [] E0 (tCons (tVar 7) (tCons (tVar 14) tNil))) (tCons (tCall S_dueL [] E0 (tCons (tVar 9) (tCons (tVar 10) (tCons (tVar 14) tNil)))) tNil))))) (tRet (tC (.bl false))) tNext)) (tSeq (tFor (iList K (tVar 12)) (gTup K 2 (gCons (gName 15) (gCons (gName 16) gNil))) (tIfS (tNot (tB (tCall (S_same 3) [] E0 (tCons (tVar 15) (tCons (tVar 16) tNil))))) (tRet (tC (.bl false))) tNext)) (tRet ((tAndV (tCall (S_new X) [] E0 (tCons (tVar 8) (tCons (tVar 5) (tCons (tVar 1) tNil)))) (tCall (S_same 3) [] E0 (tCons (tCall (S_told X) [] E0 (tCons (tVar 8) tNil)) (tCons (tLst tNil) tNil))))))))) ⟨n, Q, bk, ct⟩ [some (.ref a), some (.int room), v2, v3, v4, some (.ref lq), v6, some (.ref wo), some (.ref wb), some (.ref lp), some (.ref lr), some (.ref ls), some (.ref lk), none, none, none, none, none] H := by
  walk_at "ev"
  refine ⟨a, _, rfl, hS, fun src hsrc => ?_⟩
  have zints : ∃ zs : List Int, cutV (ns0.map V.int) (some 3) (some 40) = zs.map V.int ∧ zs.length ≤ 63 ∧ ∀ z ∈ zs, z ∈ ns0 := by
    refine ⟨(ns0.drop (HT.sIx ns0.length 0 (some 3))).take (HT.sIx ns0.length ns0.length (some 40) - HT.sIx ns0.length 0 (some 3)), ?_, ?_, fun z hz => List.mem_of_mem_drop (List.mem_of_mem_take hz)⟩
    · unfold cutV
      rw [List.map_take, List.map_drop, List.length_map]
    · rw [List.length_take, List.length_drop]
      omega
  obtain ⟨zs, ez, lz, mz⟩ := zints
  rw [ez]
  have tsrc := l.w _ hsrc
  have s13 := same_new hsrc (.lst (zs.map V.int))
  have g13 : upd H src (.lst (zs.map V.int)) src = some (.lst (zs.map V.int)) := upd_same
  have l13 := l.same s13
  have e13 := e.kp (Kp.same s13)
  generalize upd H src (.lst (zs.map V.int)) = H13 at s13 g13 l13 e13 ⊢
  refine ⟨src, rfl, ⟨_, SqL.of g13⟩, forL (zs.map V.int) (fun i σ Hx => ∃ T A M ps ks v13 v14 v15 v16 v17, σ = [some (.ref a), some (.int room), v2, v3, v4, some (.ref lq), v6, some (.ref wo), some (.ref wb), some (.ref lp), some (.ref lr), some (.ref ls), some (.ref lk), v13, v14, v15, v16, v17] ∧ L3 X Hx T A M wo lp lr ls rs ps (heldOf M) M.cells M.used room M.born ∧ Q3 M ns room i ∧ M.sw.sense = 0 ∧ 0 ≤ M.born ∧ E3 X Hx T lk lq ks ts hands B room wB uB ∧ ks.length ≤ i ∧ Hx src = some (.lst (zs.map V.int)) ∧ T src = (0, 0)) ⟨T, A, M, ps, [], _, _, _, _, _, rfl, l13, p, se, bn0, e13, Nat.le_refl _, g13, tsrc⟩ (fun _ _ _ _ ⟨_, _, _, _, _, _, _, _, _, _, _, _, _, _, _, _, _, z, _⟩ => SqL.of z) ?_ ?_⟩
  · rintro i x σ Hx hi ⟨T, A, M, ps, ks, v13, v14, v15, v16, v17, rfl, l, p, se, bn0, e, hks, os, tso⟩
    have hil := (List.getElem?_eq_some_iff.mp hi).1
    rw [List.length_map] at hil
    obtain ⟨c, hc, rfl⟩ := List.mem_map.mp (List.mem_of_getElem? hi)
    walk_at "ev"
    refine ⟨_, _, _, _, _, rfl, hbits c (mz c hc), T, A, M, rs, ps, ns, room, i, l, p, by omega, se, bn0, fun H1 T1 A1 M1 ps1 l1 p1 se1 bn1 k1 => ?_⟩
    have e1 := e.kp k1
    have os1 := k1.k _ _ os (.inl (by rw [tso]))
    have tso1 := (k1.tg _ _ os).trans tso
    walk_at "ev"
    refine ⟨_, _, rfl, by decide, by decide, fun z hz => ?_⟩
    walk_at "ev"
    have w0 := Int.emod_nonneg z (show (3 : Int) ≠ 0 by decide)
    generalize z % 3 = w at w0 ⊢
    refine ⟨_, _, rfl, T1, A1, M1, 1, ns, room, i + 1, l1.w, l1.j, l1.aw, p1, by omega, w0, fun lf H2 s2 nlf rf2 _ => ?_⟩
    have l2 := l1.same s2
    have e2 := e1.kp (Kp.same s2)
    walk_at "ev"
    refine ⟨_, _, _, rfl, T1, ps1, rs, M1, ns, room, i + 1, l2.w, l2.p, l2.r, p1, by omega, fun ld H3 s3 rd3 => ?_⟩
    have l3 := l2.same s3
    have e3 := e2.kp (Kp.same s3)
    have rf3 := rf2.kp (Kp.same s3)
    walk_at "ev"
    refine ⟨_, _, rfl, rf3.sm rd3, ?_⟩
    walk_at "ev"
    refine ⟨.inl ⟨rfl, _, SqL.of e3.ok⟩, ?_⟩
    walk_at "ev"
    refine ⟨len_ok (by simp), fun r nr => ?_⟩
    have s4 := same_new nr (.tup [.ref lf, .ref ld])
    have g4 : upd H3 r (.tup [.ref lf, .ref ld]) r = some (.tup [.ref lf, .ref ld]) := upd_same
    have tr := l3.w _ nr
    generalize upd H3 r (.tup [.ref lf, .ref ld]) = H4 at s4 g4 ⊢
    have l4 := l3.same s4
    have e4 := e3.kp (Kp.same s4)
    walk_at "ev"
    refine ⟨lk, _, _, rfl, rfl, e4.ok, ?_, ?_⟩
    · rw [List.length_map]
      exact Nat.lt_of_le_of_lt (show _ ≤ 1000 by omega) (by decide)
    have st5 : Stp 6 H4 (upd H4 lk (.lst ((ks ++ [r]).map V.ref))) T1 T1 := Stp.upd l4.w e4.ok (by rw [e4.tk])
    have ne6 : ∀ b, T1 b = (0, 0) → b ≠ lk := fun b t z => by
      rw [z, e4.tk] at t; cases t
    have rpk : ∀ {v : V} {t : Tr}, Rp H4 T1 3 v t → Rp (upd H4 lk (.lst ((ks ++ [r]).map V.ref))) T1 3 v t := fun {v t} z => by
      have z' : Rp H4 (setT T1 lk (3, 9)) 3 v t := Rp.tg (T := T1) (fun b tb => by rw [setT_ne (ne6 b tb)]; exact tb) z
      have kk : Kp H4 (upd H4 lk (.lst ((ks ++ [r]).map V.ref))) (setT T1 lk (3, 9)) (setT T1 lk (3, 9)) := ⟨fun b o hb t => by
        rw [upd_ne (fun z => by
          rw [z, setT_same] at t
          rcases t with t | t
          · cases t
          · exact absurd t (by decide))]
        exact hb, fun _ _ _ => rfl, fun b o hb => by
        by_cases z : b = lk
        · exact ⟨_, by rw [z]; exact upd_same⟩
        · exact ⟨o, by rw [upd_ne z]; exact hb⟩⟩
      refine Rp.tg (fun b tb => ?_) (z'.kp kk)
      by_cases e : b = lk
      · rw [e, setT_same] at tb; cases tb
      · rw [setT_ne e] at tb; exact tb
    have e5 : E3 X (upd H4 lk (.lst ((ks ++ [r]).map V.ref))) T1 lk lq (ks ++ [r]) ts hands B room wB uB := by
      refine ⟨e4.tk, upd_same, fun b hb => ?_, e4.jb.other st5 (by decide) (by decide), e4.tq, by rw [upd_ne (ne6 _ e4.tq)]; exact e4.oq, al_mono (fun a m z => ⟨z.1, by rw [upd_ne (ne6 _ z.1)]; exact z.2⟩) e4.al⟩
      rcases List.mem_append.mp hb with hb | hb
      · obtain ⟨f, d, t, a1, a2, a3, a4⟩ := e4.ke b hb
        exact ⟨f, d, t, a1, by rw [upd_ne (ne6 _ a1)]; exact a2, rpk a3, rpk a4⟩
      · rw [List.mem_singleton.mp hb]
        exact ⟨lf, ld, _, tr, by rw [upd_ne (ne6 _ tr)]; exact g4, rpk (rf3.kp (Kp.same s4)), rpk (rd3.kp (Kp.same s4))⟩
    have l5 : L3 X (upd H4 lk (.lst ((ks ++ [r]).map V.ref))) T1 A1 M1 wo lp lr ls rs ps1 (heldOf M1) M1.cells M1.used room M1.born :=
      ⟨st5.wt, l4.j.other st5 (by decide) (by decide), l4.aw, l4.r.other st5 (by decide), l4.p.other st5 (by decide) (by decide), l4.ts, st5.kp _ _ l4.os (by rw [l4.ts]; decide)⟩
    have os5 : upd H4 lk (.lst ((ks ++ [r]).map V.ref)) src = some (.lst (zs.map V.int)) := by
      rw [upd_ne (ne6 _ tso1)]
      exact s4 _ _ (s3 _ _ (s2 _ _ os1))
    rw [show ks.map V.ref ++ [V.ref r] = (ks ++ [r]).map V.ref from by rw [List.map_append]; rfl]
    generalize upd H4 lk (.lst ((ks ++ [r]).map V.ref)) = H5 at st5 e5 l5 os5 ⊢
    walk_at "ev"
    refine ⟨_, _, rfl, T1, A1, M1, 1, ns, room, i + 1, l5.w, l5.j, l5.aw, p1, by omega, w0, fun lg H6 s6 nlg _ ⟨xs, og, lxs, hg⟩ => ?_⟩
    walk_at "ev"
    refine ⟨.inl ⟨rfl, _, SqL.of og⟩, ?_⟩
    walk_at "ev"
    refine ⟨lg, _, _, rfl, rfl, og, Nat.lt_of_le_of_lt (show _ ≤ 1000 by omega) (by decide), ?_⟩
    have s7 : Same H5 (upd H6 lg (.lst (xs ++ [.non]))) := fun b o hb => by rw [upd_ne (ne_of_none hb nlg)]; exact s6 _ _ hb
    have og7 : upd H6 lg (.lst (xs ++ [.non])) lg = some (.lst (xs ++ [.non])) := upd_same
    have hg7 : w < 2 → ∃ r0 ys, xs.head? = some (.ref r0) ∧ H5 r0 = none ∧ upd H6 lg (.lst (xs ++ [.non])) r0 = some (.lst ys) ∧ ys.length ≤ 1000 := fun z => by
      obtain ⟨r0, ys, a1, a2, a3, a4, a5⟩ := hg z
      exact ⟨r0, ys, a1, a2, by rw [upd_ne a3]; exact a4, a5⟩
    generalize upd H6 lg (.lst (xs ++ [.non])) = H7 at s7 og7 hg7 ⊢
    walk_at "ev"
    refine ifd (fun w2 => ?_) (fun w2 => ?_)
    · obtain ⟨r0, ys, b1, b2, b3, b4⟩ := hg7 w2
      have hx0 : (xs ++ [V.non])[0]? = some (.ref r0) := by
        cases xs with
        | nil => cases b1
        | cons y ys => simpa using b1
      walk_at "ev"
      refine i_ixL (SqL.of og7) (atI_nat (j := 0) hx0) ?_
      refine ⟨.inl ⟨rfl, _, SqL.of b3⟩, ?_⟩
      walk_at "ev"
      refine ⟨r0, _, _, rfl, rfl, b3, Nat.lt_of_le_of_lt (show _ ≤ 1000 by omega) (by decide), ?_⟩
      have s8 : Same H5 (upd H7 r0 (.lst (ys ++ [.int 5]))) := fun b o hb => by rw [upd_ne (ne_of_none hb b2)]; exact s7 _ _ hb
      walk_at "ev"
      exact ⟨T1, A1, M1, ps1, ks ++ [r], _, _, _, _, _, rfl, l5.same s8, p1, se1, bn1, e5.kp (Kp.same s8), by rw [List.length_append]; simp; omega, s8 _ _ os5, tso1⟩
    · walk_at "ev"
      exact ⟨T1, A1, M1, ps1, ks ++ [r], _, _, _, _, _, rfl, l5.same s7, p1, se1, bn1, e5.kp (Kp.same s7), by rw [List.length_append]; simp; omega, s7 _ _ os5, tso1⟩
  · rintro σ Hx ⟨T, A, M, ps, ks, v13, v14, v15, v16, v17, rfl, l, p, se, bn0, e, hks, os, tso⟩
    rw [List.length_map] at p hks
    walk_at "ev"
    refine ⟨_, rfl, by decide, by decide, ?_⟩
    refine forR (fun k σ Hx => ∃ v14, σ = [some (.ref a), some (.int room), v2, v3, v4, some (.ref lq), v6, some (.ref wo), some (.ref wb), some (.ref lp), some (.ref lr), some (.ref ls), some (.ref lk), v13, v14, v15, v16, v17] ∧ L3 X Hx T A M wo lp lr ls rs ps (heldOf M) M.cells M.used room M.born ∧ E3 X Hx T lk lq ks ts hands B room wB uB) ⟨_, rfl, l, e⟩ ?_ ?_
    · rintro k σ H1 hk ⟨v14, rfl, l1, e1⟩
      walk_at "ev"
      refine ⟨_, _, rfl, T, A, M, 1, ns, room, zs.length, l1.w, l1.j, l1.aw, p, by omega, by omega, fun lf H2 s2 nlf rf2 _ => ?_⟩
      have l2 := l1.same s2
      walk_at "ev"
      refine ⟨_, _, _, rfl, T, ps, rs, M, ns, room, zs.length, l2.w, l2.p, l2.r, p, by omega, fun ld H3 s3 rd3 => ?_⟩
      walk_at "ev"
      refine ⟨_, _, rfl, (rf2.kp (Kp.same s3)).sm rd3, ?_⟩
      walk_at "ev"
      exact ⟨_, rfl, l2.same s3, e1.kp (Kp.same (s2.trans s3))⟩
    · rintro σ H1 ⟨v14, rfl, l1, e1⟩
      walk_at "ev"
      refine ⟨lk, rfl, ⟨_, SqL.of e1.ok⟩, forL (ks.map V.ref) (fun k σ Hx => ∃ v15 v16, σ = [some (.ref a), some (.int room), v2, v3, v4, some (.ref lq), v6, some (.ref wo), some (.ref wb), some (.ref lp), some (.ref lr), some (.ref ls), some (.ref lk), v13, v14, v15, v16, v17] ∧ Hx = H1) ⟨_, _, rfl, rfl⟩ (fun _ _ _ _ ⟨_, _, _, z⟩ => by rw [z]; exact SqL.of e1.ok) ?_ ?_⟩
      · rintro k x σ Hx hk ⟨v15, v16, rfl, rfl⟩
        obtain ⟨r, hr, rfl⟩ := List.mem_map.mp (List.mem_of_getElem? hk)
        obtain ⟨f, d, t, a1, a2, a3, a4⟩ := e1.ke r hr
        refine ⟨r, _, rfl, SqT.of a2, rfl, ?_⟩
        refine ⟨_, _, rfl, ?_⟩
        walk_at "ev"
        refine ⟨_, _, rfl, ?_⟩
        walk_at "ev"
        refine ⟨rfl, ?_⟩
        walk_at "ev"
        refine ⟨_, _, rfl, a3.sm a4, ?_⟩
        walk_at "ev"
        exact ⟨_, _, rfl, rfl⟩
      · rintro σ Hx ⟨v15, v16, rfl, rfl⟩
        walk_at "ev"
        refine ⟨wb, lq, room, rfl, T, 7, B, hands, wB, uB, ts, l1.w, e1.jb, bw, e1.oq, al_mono (fun a m z => z.2) e1.al, hl5, hb, fun H2 s2 => ?_⟩
        walk_at "ev"
        refine ⟨wb, rfl, T, 7, B, _, e1.jb.same s2, bw, Nat.zero_le _, fun c hc => (nomatch hc), fun lt lts H3 s3 g1 g2 _ _ => ?_⟩
        have hnil : lts = [] := by
          have : (toldM (newW room hands wB uB)).length = 0 := rfl
          exact List.eq_nil_of_length_eq_zero (g2.trans this)
        subst hnil
        walk_at "ev"
        refine ⟨by decide, fun l0 nl0 => ?_⟩
        have s4 := same_new nl0 (.lst [])
        refine ⟨.ref lt, .ref l0, rfl, .inr ⟨lt, l0, [], [], rfl, rfl, .inl ⟨s4 _ _ g1, upd_same⟩, by simp, .nil⟩, ?_⟩
        exact h _
end
theorem ints_R {ys : List V} {R : Nat → V → Prop} (h : ∀ (i : Nat) y, ys[i]? = some y → ∃ k : Int, y = .int k ∧ 3 ≤ k ∧ k ≤ 9) : ∃ ns : List Int, ys = ns.map V.int ∧ ∀ k ∈ ns, 3 ≤ k ∧ k ≤ 9 := by
  induction ys with
  | nil => exact ⟨[], rfl, fun k hk => (nomatch hk)⟩
  | cons y ys ih =>
    obtain ⟨k, e, hk⟩ := h 0 y rfl
    obtain ⟨ns, e2, hn⟩ := ih fun i z ez => h (i + 1) z (by simpa using ez)
    refine ⟨k :: ns, by rw [e, e2]; rfl, fun z hz => ?_⟩
    rcases List.mem_cons.mp hz with hz | hz
    · rw [hz]; exact hk
    · exact hn z hz
theorem names_R : ∀ {H : Hp} {ts : List Addr} {ns : List Int}, ts.length = ns.length → (∀ k ∈ ns, 3 ≤ k ∧ k ≤ 9) → (∀ (i : Nat) t, ts[i]? = some t → ∃ (nm : Str) (k : Int), ns[i]? = some k ∧ H t = some (.tup [.str nm, .int k])) →
    ∃ hands : List (Str × Int), hands.map (·.2) = ns ∧ Al (fun (t : Addr) (m : Str × Int) => H t = some (.tup [.str m.1, .int m.2]) ∧ 0 ≤ m.2 ∧ m.2 ≤ 1000) ts hands := by
  intro H ts
  induction ts with
  | nil =>
    intro ns hl _ _
    cases ns with
    | nil => exact ⟨[], rfl, .nil⟩
    | cons k ns => simp at hl
  | cons t ts ih =>
    intro ns hl hb h
    cases ns with
    | nil => simp at hl
    | cons k ns =>
      obtain ⟨nm, k', e1, e2⟩ := h 0 t rfl
      have ek : k = k' := by simpa using e1
      subst ek
      obtain ⟨hands, a1, a2⟩ := ih (ns := ns) (by simpa using hl) (fun z hz => hb z (List.mem_cons_of_mem _ hz)) fun i t' et => by
        obtain ⟨nm', k2, f1, f2⟩ := h (i + 1) t' (by simpa using et)
        exact ⟨nm', k2, by simpa using f1, f2⟩
      have := hb k List.mem_cons_self
      exact ⟨(nm, k) :: hands, by rw [List.map_cons, a1], .cons ⟨e2, by show 0 ≤ k; omega, by show k ≤ 1000; omega⟩ a2⟩
section
variable {K : PySem.W.Frag} {X : Cs} {rf : Rf → Addr} {H : Hp} {Q : VK} {E : XK} {n : St → Hp → Prop} {bk ct : St → Hp → Prop}
theorem law_tail {a : Addr} {room : Int} {ns0 : List Int} (Tx : TxW K X) (hS : SqL K H a (ns0.map V.int)) (hlen : ns0.length ≤ 63) (hbits : BitsOk ns0) (h : ∀ H', Q (.bl true) H') :
    (tSeq (tAsg (tOp (rI0 fun i j => .int (i + j)) (tC (.int 1)) (tOp (rI (fun _ j => 0 < j) fun i j => .int (i % j)) (tCall (S_atB K) [] E0 (tCons (tVar 0) (tCons (tC (.int 1)) tNil))) (tC (.int 5)))) (gName 2)) (tSeq (tAsg (tCall S_names [] E0 (tCons (tCall (S_atB K) [] E0 (tCons (tVar 0) (tCons (tC (.int 2)) tNil))) (tCons (tVar 2) tNil))) (gName 3)) (tSeq (tAsg (G.tLC (iRng1 (tCons (tVar 2) tNil)) [0] G.tTrue (tOp (rI0 fun i j => .int (i + j)) (tC (.int 3)) (tOp (rI (fun _ j => 0 < j) fun i j => .int (i % j)) (tCall S_mix [] E0 (tCons (tCall (S_atB K) [] E0 (tCons (tVar 1) (tCons (tC (.int 1)) tNil))) (tCons (tOp (rI0 fun i j => .int (i + j)) (tC (.int 48271)) (tOp (rI CMul fun i j => .int (i * j)) (tVar 0) (tVar 0))) tNil))) (tC (.int 7))))) (gName 4)) (tSeq (tAsg (G.tLC (iRng1 (tCons (tVar 2) tNil)) [3, 4] G.tTrue (tTup (tCons (tOp (rIxL K) (tVar 1) (tVar 0)) (tCons (tOp (rIxL K) (tVar 2) (tVar 0)) tNil)))) (gName 5)) (tSeq (tAsg (tCB (G.cListL K) (tCons (tVar 5) tNil)) (gName 6)) (tSeq (tAsg (tMake X.W (S_World_init X) [] E0 (tCons (tVar 1) (tCons (tCall (S_kind_of X) [] E0 (tCons (tC (.str "each old")) tNil)) (tCons (tVar 6) tNil)))) (gName 7)) (tSeq (tAsg (tMake X.W (S_World_init X) [] E0 (tCons (tVar 1) (tCons (tCall (S_kind_of X) [] E0 (tCons (tC (.str "first")) tNil)) (tCons (tVar 6) tNil)))) (gName 8)) (tSeq (tIfS ((tOr (tNot (tB (tCall (S_new X) [] E0 (tCons (tVar 7) (tCons (tVar 5) (tCons (tVar 1) tNil)))))) (tNot (tB (tCall (S_same 3) [] E0 (tCons (tVar 6) (tCons (tVar 5) tNil))))))) (tRet (tC (.bl false))) tNext) (tSeq (tAsg (tLst tNil) (gName 9)) (tSeq (tAsg (G.tLC (iList K (tVar 4)) [] G.tTrue (tOp (rRep) (tLst (tCons (tC .non) tNil)) (tVar 0))) (gName 10)) (tSeq (tAsg (tLst (tCons (tC (.int 0)) (tCons (tVar 1) (tCons (tC (.int 0)) tNil)))) (gName 11)) (tSeq (tAsg (tLst tNil) (gName 12)) (tSeq (tFor (iList K (tSl (rSlL K) (tVar 0) (tPart (tC (.int 3))) (tPart (tC (.int 40))))) (gName 13) (tSeq (tIfS (tNot (tB (tCall (S_turn X) [] E0 (tCons (tVar 7) (tCons (tVar 9) (tCons (tVar 10) (tCons (tVar 11) (tCons (tVar 13) tNil)))))))) (tRet (tC (.bl false))) tNext) (tSeq (tAsg (tOp (rI (fun _ j => 0 < j) fun i j => .int (i % j)) (tCall S_mix [] E0 (tCons (tVar 13) (tCons (tC (.int 39373)) tNil))) (tC (.int 3))) (gName 14)) (tSeq (tAsg (tCall (S_foundL X) [] E0 (tCons (tVar 7) (tCons (tVar 14) tNil))) (gName 15)) (tSeq (tAsg (tCall S_dueL [] E0 (tCons (tVar 9) (tCons (tVar 10) (tCons (tVar 14) tNil)))) (gName 16)) (tSeq (tIfS (tNot (tB (tCall (S_same 3) [] E0 (tCons (tVar 15) (tCons (tVar 16) tNil))))) (tRet (tC (.bl false))) tNext) (tSeq (tDrop (tBM K "list" rAppend (tVar 12) (tCons (tTup (tCons (tVar 15) (tCons (tVar 16) tNil))) tNil))) (tSeq (tAsg (tCall (S_foundL X) [] E0 (tCons (tVar 7) (tCons (tVar 14) tNil))) (gName 17)) (tSeq (tDrop (tBM K "list" rAppend (tVar 17) (tCons (tC .non) tNil))) (tIfS (tTest (tOp (rI0 fun i j => .bl (decide (i < j))) (tVar 14) (tC (.int 2)))) (tDrop (tBM K "list" rAppend (tOp (rIxL K) (tVar 17) (tC (.int 0))) (tCons (tC (.int 5)) tNil))) tNext)))))))))) (tSeq (tFor (iRng1 (tCons (tC (.int 3)) tNil)) (gName 14) (tIfS (tNot (tB (tCall (S_same 3) [] E0 (tCons (tCall (S_foundL X) [] E0 (tCons (tVar 7) (tCons (tVar 14) tNil))) (tCons (tCall S_dueL [] E0 (tCons (tVar 9) (tCons (tVar 10) (tCons (tVar 14) tNil)))) tNil))))) (tRet (tC (.bl false))) tNext)) (tSeq (tFor (iList K (tVar 12)) (gTup K 2 (gCons (gName 15) (gCons (gName 16) gNil))) (tIfS (tNot (tB (tCall (S_same 3) [] E0 (tCons (tVar 15) (tCons (tVar 16) tNil))))) (tRet (tC (.bl false))) tNext)) (tRet ((tAndV (tCall (S_new X) [] E0 (tCons (tVar 8) (tCons (tVar 5) (tCons (tVar 1) tNil)))) (tCall (S_same 3) [] E0 (tCons (tCall (S_told X) [] E0 (tCons (tVar 8) tNil)) (tCons (tLst tNil) tNil))))))))))))))))))))) ⟨n, Q, bk, ct⟩ [some (.ref a), some (.int room), none, none, none, none, none, none, none, none, none, none, none, none, none, none, none, none] H := by
  walk_at "ev"
  refine ⟨a, 1, rfl, ns0, hS, hbits, by decide, fun z0 hz0 => ?_⟩
  walk_at "ev"
  have b1 := Int.emod_nonneg z0 (show (5 : Int) ≠ 0 by decide)
  have b2 := Int.emod_lt_of_pos z0 (show (0 : Int) < 5 by decide)
  have d1 : 1 ≤ 1 + z0 % 5 ∧ 1 + z0 % 5 ≤ 5 := by omega
  generalize 1 + z0 % 5 = count at d1 ⊢
  clear b1 b2
  refine ⟨a, 2, rfl, ns0, hS, hbits, by decide, fun z1 _ => ?_⟩
  walk_at "ev"
  refine ⟨_, _, rfl, by omega, fun lw ws H1 s1 ow lws nlw => ?_⟩
  walk_at "ev"
  refine i_lcg ?_
  walk_at "ev"
  refine ⟨_, rfl, by omega, by omega, ?_⟩
  refine lc_newR (n := count.toNat) rfl (by omega) (fun _ y _ => ∃ k : Int, y = .int k ∧ 3 ≤ k ∧ k ≤ 9) (fun _ _ _ _ z _ => z) (fun i H1 q hq => i_true hq) (fun i H2 hi s2 q hq => ?_) ?_
  · walk_at "caps"
    walk_at "ev"
    refine ⟨a, 1, rfl, ns0, (s1.trans s2).seq hS, hbits, by decide, fun z1 hz1 => ?_⟩
    walk_at "ev"
    have hii : (i : Int) * i ≤ 25 := by
      have h5 : i ≤ 5 := by omega
      have := Nat.mul_le_mul h5 h5
      have e : ((i * i : Nat) : Int) = (i : Int) * i := by push_cast; rfl
      omega
    have hi0 : 0 ≤ (i : Int) * i := Int.mul_nonneg (by omega) (by omega)
    refine ⟨_, _, rfl, by omega, by omega, fun z2 h2 => ?_⟩
    walk_at "ev"
    have c1 := Int.emod_nonneg z2 (show (7 : Int) ≠ 0 by decide)
    have c2 := Int.emod_lt_of_pos z2 (show (0 : Int) < 7 by decide)
    exact hq _ _ (Same.refl _) ⟨_, rfl, by omega, by omega⟩
  intro ys H2 s2 ly hR lm hlm
  obtain ⟨ns, rfl, nb⟩ := ints_R (R := fun _ _ => True) hR
  have lns : ns.length = count.toNat := by rw [← ly, List.length_map]
  have s3 := same_new hlm (.lst (ns.map V.int))
  have om : upd H2 lm (.lst (ns.map V.int)) lm = some (.lst (ns.map V.int)) := upd_same
  generalize upd H2 lm (.lst (ns.map V.int)) = H3 at s3 om ⊢
  have s03 := s1.trans (s2.trans s3)
  have ow := s3 _ _ (s2 _ _ ow)
  walk_at "ev"
  refine i_lcg ?_
  walk_at "ev"
  refine ⟨_, rfl, by omega, by omega, ?_⟩
  refine lc_newDR (n := count.toNat) rfl (by omega) (fun i r Hx => ∃ (nm : Str) (k : Int), ns[i]? = some k ∧ Hx r = some (.tup [.str nm, .int k])) (fun _ _ _ _ ⟨nm, k, e, z⟩ s => ⟨nm, k, e, s _ _ z⟩) (fun _ _ _ ⟨_, _, _, z⟩ => ⟨_, z⟩) (fun i H1 q hq => i_true hq) (fun i H4 hi s4 q hq => ?_) ?_
  · walk_at "caps"
    walk_at "ev"
    have hw : i < ws.length := by rw [lws]; exact hi
    have hn : i < ns.length := by omega
    refine i_ixL (SqL.of (s4 _ _ ow)) (atI_nat (v := .str ws[i]) (by rw [List.getElem?_map, List.getElem?_eq_getElem hw]; rfl)) ?_
    walk_at "ev"
    refine i_ixL (SqL.of (s4 _ _ om)) (atI_nat (v := .int ns[i]) (by rw [List.getElem?_map, List.getElem?_eq_getElem hn]; rfl)) ?_
    walk_at "ev"
    exact ⟨len_ok (by simp), fun r nr => hq r _ (same_new nr _) nr ⟨_, ns[i], List.getElem?_eq_getElem hn, upd_same⟩⟩
  intro ts H4 s4 lts nd _ hT lq nlq
  have s5 := same_new nlq (.lst (ts.map V.ref))
  have oq : upd H4 lq (.lst (ts.map V.ref)) lq = some (.lst (ts.map V.ref)) := upd_same
  generalize upd H4 lq (.lst (ts.map V.ref)) = H5 at s5 oq ⊢
  obtain ⟨hands, eh, alh⟩ := names_R (H := H5) (ts := ts) (ns := ns) (by omega) nb fun i t et => by
    obtain ⟨nm, k, e1, e2⟩ := hT i t et
    exact ⟨nm, k, e1, s5 _ _ e2⟩
  have lh : hands.length = ns.length := by rw [← eh, List.length_map]
  have hb : ∀ m ∈ hands, 3 ≤ m.2 ∧ m.2 ≤ 9 := fun m hm => nb m.2 (by rw [← eh]; exact List.mem_map.mpr ⟨m, hm, rfl⟩)
  walk_at "ev"
  refine i_listL (SqL.of oq) fun lh0 nlh0 => ?_
  have s6 := same_new nlh0 (.lst (ts.map V.ref))
  have oh6 : upd H5 lh0 (.lst (ts.map V.ref)) lh0 = some (.lst (ts.map V.ref)) := upd_same
  generalize upd H5 lh0 (.lst (ts.map V.ref)) = H6 at s6 oh6 ⊢
  have oq := s6 _ _ oq
  have om := s6 _ _ (s5 _ _ (s4 _ _ om))
  have al6 : Al (fun (x : Addr) (m : Str × Int) => H6 x = some (.tup [.str m.1, .int m.2]) ∧ 0 ≤ m.2 ∧ m.2 ≤ 1000) ts hands := alh.mono fun x m ⟨z1, z2⟩ => ⟨s6 _ _ z1, z2⟩
  have s06 := s03.trans (s4.trans (s5.trans s6))
  clear alh s1 s2 s3 s4 s5 s6 s03
  walk_at "ev"
  refine ⟨_, rfl, 1, 1, by decide, by decide, by decide, by decide, by decide +kernel, fun ki lk H7 s7 nki nlk kd => ?_⟩
  walk_at "ev"
  intro wo dx nwo ndx ned
  have s8 : Same H7 (upd (upd H7 dx (.own wo)) wo (.ins X.W dx [])) := fun b o hb => by rw [upd_ne (ne_of_none hb nwo), upd_ne (ne_of_none hb ndx)]; exact hb
  have g8 : upd (upd H7 dx (.own wo)) wo (.ins X.W dx []) wo = some (.ins X.W dx []) := upd_same
  generalize upd (upd H7 dx (.own wo)) wo (.ins X.W dx []) = H8 at s8 g8 ⊢
  have nkw : ki ≠ wo := by
    obtain ⟨⟨_, e⟩, _⟩ := kd
    exact ne_of_none e nwo
  have nlw' : lk ≠ wo := by
    obtain ⟨_, ⟨_, e⟩⟩ := kd
    rcases e with ⟨_, e⟩ | ⟨_, e⟩ | ⟨_, e⟩
    · exact ne_of_none e nwo
    · exact ne_of_none e nwo
    · exact ne_of_none e nwo
  have s68 := s7.trans s8
  refine ⟨wo, _, ki, lh0, rfl, dx, fun _ => (0, 0), 1, lk, 1, 1, ts, hands, g8, fun _ _ => rfl, by decide, kd.same s8, rfl, rfl, nkw, nlw', s68 _ _ oh6, al6.mono fun x m ⟨z1, z2⟩ => ⟨s68 _ _ z1, z2⟩, by omega, fun H9 T9 A9 k9 t9 w9 aw9 j9 => ⟨rfl, ?_⟩⟩
  have nw6 : ∀ b o, H6 b = some o → b ≠ wo := fun b o hb => ne_of_none (s7 _ _ hb) nwo
  have s69 : Same H6 H9 := fun b o hb => k9 b o (s68 _ _ hb) (nw6 b o hb)
  have t69 : ∀ b o, H6 b = some o → T9 b = (0, 0) := fun b o hb => t9 b o (s68 _ _ hb) (nw6 b o hb)
  clear k9 t9 s8 g8 s7 nw6
  walk_at "ev"
  refine ⟨_, rfl, 0, 0, by decide, by decide, by decide, by decide, by decide +kernel, fun ki2 lk2 H10 s10 nki2 nlk2 kd2 => ?_⟩
  walk_at "ev"
  intro wb dy nwb ndy ned2
  have s11 : Same H10 (upd (upd H10 dy (.own wb)) wb (.ins X.W dy [])) := fun b o hb => by rw [upd_ne (ne_of_none hb nwb), upd_ne (ne_of_none hb ndy)]; exact hb
  have g11 : upd (upd H10 dy (.own wb)) wb (.ins X.W dy []) wb = some (.ins X.W dy []) := upd_same
  generalize upd (upd H10 dy (.own wb)) wb (.ins X.W dy []) = H11 at s11 g11 ⊢
  have nkb : ki2 ≠ wb := by
    obtain ⟨⟨_, e⟩, _⟩ := kd2
    exact ne_of_none e nwb
  have nlb : lk2 ≠ wb := by
    obtain ⟨_, ⟨_, e⟩⟩ := kd2
    rcases e with ⟨_, e⟩ | ⟨_, e⟩ | ⟨_, e⟩
    · exact ne_of_none e nwb
    · exact ne_of_none e nwb
    · exact ne_of_none e nwb
  have s911 := s10.trans s11
  have s611 := s69.trans s911
  refine ⟨wb, _, ki2, lh0, rfl, dy, T9, 7, lk2, 0, 0, ts, hands, g11, w9.same s911, by decide, kd2.same s11, w9 _ nki2, w9 _ nlk2, nkb, nlb, s611 _ _ oh6, al6.mono fun x m ⟨z1, z2⟩ => ⟨s611 _ _ z1, z2⟩, by omega, fun H12 T12 B k12 t12 w12 bw12 j12 => ⟨rfl, ?_⟩⟩
  have nb9 : ∀ b o, H9 b = some o → b ≠ wb := fun b o hb => ne_of_none (s10 _ _ hb) nwb
  have s912 : Same H9 H12 := fun b o hb => k12 b o (s911 _ _ hb) (nb9 b o hb)
  have t912 : ∀ b o, H9 b = some o → T12 b = T9 b := fun b o hb => t12 b o (s911 _ _ hb) (nb9 b o hb)
  have j9 : WJ X H12 T12 1 A9 (newW room hands 1 1) := j9.mv ⟨fun b o hb _ _ => s912 _ _ hb, t912⟩ fun b o hb _ => s912 _ _ hb
  have s612 := s69.trans s912
  have t612 : ∀ b o, H6 b = some o → T12 b = (0, 0) := fun b o hb => (t912 b o (s69 _ _ hb)).trans (t69 b o hb)
  clear k12 t12 s11 g11 s10 nb9 s911 s611 w9 t912
  have al12 : Al (fun (a : Addr) (m : Str × Int) => H12 a = some (.tup [.str m.1, .int m.2])) ts hands := al6.mono fun x m ⟨z1, _⟩ => s612 _ _ z1
  walk_at "ev"
  refine ⟨wo, lq, room, rfl, T12, 1, A9, hands, 1, 1, ts, w12, j9, aw9, s612 _ _ oq, al12, by omega, hb, fun H13 s13 => ?_⟩
  have s613 := s612.trans s13
  walk_at "ev"
  refine ⟨.ref lh0, .ref lq, rfl, .inr ⟨lh0, lq, _, _, rfl, rfl, .inl ⟨s613 _ _ oh6, s613 _ _ oq⟩, by rw [List.length_map]; omega, al_of rfl fun i u v e1 e2 => ?_⟩, ?_⟩
  · rw [e1] at e2
    cases e2
    rw [List.getElem?_map] at e1
    obtain ⟨r, hr, rfl⟩ := Option.map_eq_some_iff.mp e1
    have hil : i < hands.length := by rw [← al_len al12]; exact (List.getElem?_eq_some_iff.mp hr).1
    have z := al_get (P := fun (a : Addr) (m : Str × Int) => H12 a = some (.tup [.str m.1, .int m.2])) al12 hr (List.getElem?_eq_getElem hil)
    have z := s13 _ _ z
    exact .inr ⟨r, r, _, _, rfl, rfl, .inr ⟨z, z⟩, by simp, .cons (sm_flat rfl) (.cons (sm_flat rfl) .nil)⟩
  walk_at "ev"
  refine ⟨by decide, fun lp nlp => ?_⟩
  have s14 := same_new nlp (.lst [])
  have f14 : ∀ b o, H13 b = some o → setT T12 lp (3, 0) b = T12 b := fun b o hb => setT_ne (ne_of_none hb nlp)
  have w13 := w12.same s13
  have w14 : WT (upd H13 lp (.lst [])) (setT T12 lp (3, 0)) := wt_set (w13.same s14) upd_same
  have j14 : WJ X (upd H13 lp (.lst [])) (setT T12 lp (3, 0)) 1 A9 (newW room hands 1 1) := (j9.same s13).fresh nlp
  have jb14 : WJ X (upd H13 lp (.lst [])) (setT T12 lp (3, 0)) 7 B (newW room hands 0 0) := (j12.same s13).fresh nlp
  have pw14 : Pw (upd H13 lp (.lst [])) (setT T12 lp (3, 0)) lp [] ([] : List (Option Ce)) := ⟨setT_same, upd_same, rfl, fun k p c e => by simp at e, fun k p c e => by simp at e⟩
  have t614 : ∀ b o, H6 b = some o → setT T12 lp (3, 0) b = (0, 0) := fun b o hb => (f14 _ _ (s613 _ _ hb)).trans (t612 b o hb)
  have s614 := s613.trans s14
  generalize upd H13 lp (.lst []) = H14 at s14 w14 j14 jb14 pw14 s614 ⊢
  generalize setT T12 lp (3, 0) = T14 at w14 j14 jb14 pw14 t614
  clear f14 w13 w12 j9 j12 al12 s13 s14
  walk_at "ev"
  refine i_lcg ?_
  walk_at "ev"
  refine ⟨lm, rfl, ⟨_, SqL.of (s614 _ _ om)⟩, ?_⟩
  refine lc_newDL (SqL.of (s614 _ _ om)) (by rw [List.length_map]; omega) (fun i r Hx => ∃ k : Int, ns[i]? = some k ∧ Hx r = some (.lst (List.replicate k.toNat V.non))) (fun _ _ _ _ ⟨k, e, z⟩ s => ⟨k, e, s _ _ z⟩) (fun _ _ _ ⟨_, _, z⟩ => ⟨_, z⟩) (fun x H1 q hq => i_true hq) (fun i x H15 hx s15 q hq => ?_) ?_
  · rw [List.getElem?_map] at hx
    cases hk : ns[i]? with
    | none => rw [hk] at hx; cases hx
    | some k =>
      rw [hk] at hx
      cases hx
      have nbk := nb k (List.mem_of_getElem? hk)
      walk_at "caps"
      walk_at "ev"
      refine ⟨by decide, fun l0 hl0 => ?_⟩
      have s16 := same_new hl0 (.lst [V.non])
      have g16 : upd H15 l0 (.lst [V.non]) l0 = some (.lst [V.non]) := upd_same
      generalize upd H15 l0 (.lst [V.non]) = H16 at s16 g16 ⊢
      walk_at "ev"
      refine ⟨l0, k, _, rfl, rfl, g16, by omega, by omega, by show 1 * k.toNat ≤ sizeLine; exact len_ok (by omega), fun r hr => ?_⟩
      rw [rep_non, List.map_replicate]
      exact hq r _ (s16.trans (same_new hr _)) (s16.free hr) ⟨k, hk, upd_same⟩
  intro rs H15 s15 lrs ndr nnr hRr lr nlr
  rw [List.length_map] at lrs
  have s16 := same_new nlr (.lst (rs.map V.ref))
  have g16 : upd H15 lr (.lst (rs.map V.ref)) lr = some (.lst (rs.map V.ref)) := upd_same
  have nlrs : lr ∉ rs := fun z => by
    obtain ⟨i, hi, e⟩ := List.getElem_of_mem z
    obtain ⟨k, _, e2⟩ := hRr i lr (by rw [List.getElem?_eq_getElem hi, e])
    rw [nlr] at e2; cases e2
  generalize upd H15 lr (.lst (rs.map V.ref)) = H16 at s16 g16 ⊢
  have s1416 : Same H14 H16 := s15.trans s16
  have eheld : heldOf (newW room hands 1 1) = ns.map fun k => List.replicate k.toNat none := by
    unfold heldOf
    show (hands.map fun m => (m.1, List.replicate m.2.toNat (none : Option Int))).map _ = _
    rw [List.map_map, ← eh, List.map_map]; rfl
  obtain ⟨rw0, w16, tg16⟩ := Rw.init (H := H14) (T := T14) (lr := lr) (rs := rs) (rows := heldOf (newW room hands 1 1)) w14 s1416 ndr nnr (s15.free nlr) nlrs g16 (by rw [eheld, List.length_map]; exact lrs) fun i r x e1 e2 => by
    obtain ⟨k, f1, f2⟩ := hRr i r e1
    rw [eheld, List.getElem?_map, f1] at e2
    have e3 : List.replicate k.toNat none = x := Option.some.inj e2
    rw [← e3, List.map_replicate]
    exact s16 _ _ f2
  have j16 : WJ X H16 (tagR T14 lr rs) 1 A9 (newW room hands 1 1) := j14.mv ⟨fun b o hb _ _ => s1416 _ _ hb, tg16⟩ fun b o hb _ => s1416 _ _ hb
  have jb16 : WJ X H16 (tagR T14 lr rs) 7 B (newW room hands 0 0) := jb14.mv ⟨fun b o hb _ _ => s1416 _ _ hb, tg16⟩ fun b o hb _ => s1416 _ _ hb
  have pw16 := pw14.mv (H' := H16) (T' := tagR T14 lr rs) (fun b o hb _ => s1416 _ _ hb) tg16
  have t616 : ∀ b o, H6 b = some o → tagR T14 lr rs b = (0, 0) := fun b o hb => (tg16 _ _ (s614 _ _ hb)).trans (t614 b o hb)
  have s616 := s614.trans s1416
  generalize tagR T14 lr rs = T16 at rw0 w16 j16 jb16 pw16 t616
  clear tg16 s1416 j14 jb14 pw14 w14
  walk_at "ev"
  refine ⟨len_ok (by simp), fun ls nls => ?_⟩
  have s17 := same_new nls (.lst [.int 0, .int room, .int 0])
  have f17 : ∀ b o, H16 b = some o → setT T16 ls (5, 0) b = T16 b := fun b o hb => setT_ne (ne_of_none hb nls)
  have l17 : L3 X (upd H16 ls (.lst [.int 0, .int room, .int 0])) (setT T16 ls (5, 0)) A9 (newW room hands 1 1) wo lp lr ls rs [] (heldOf (newW room hands 1 1)) (newW room hands 1 1).cells (newW room hands 1 1).used room (newW room hands 1 1).born :=
    ⟨wt_set (w16.same s17) upd_same, j16.fresh nls, aw9, rw0.mv (fun b o hb _ => s17 _ _ hb) f17, pw16.mv (fun b o hb _ => s17 _ _ hb) f17, setT_same, upd_same⟩
  have jb17 : WJ X (upd H16 ls (.lst [.int 0, .int room, .int 0])) (setT T16 ls (5, 0)) 7 B (newW room hands 0 0) := jb16.fresh nls
  have t617 : ∀ b o, H6 b = some o → setT T16 ls (5, 0) b = (0, 0) := fun b o hb => (f17 _ _ (s616 _ _ hb)).trans (t616 b o hb)
  have s617 := s616.trans s17
  generalize upd H16 ls (.lst [.int 0, .int room, .int 0]) = H17 at s17 l17 jb17 s617 ⊢
  generalize setT T16 ls (5, 0) = T17 at l17 jb17 t617
  walk_at "ev"
  refine ⟨by decide, fun lk nlk => ?_⟩
  have s18 := same_new nlk (.lst [])
  have f18 : ∀ b o, H17 b = some o → setT T17 lk (6, 0) b = T17 b := fun b o hb => setT_ne (ne_of_none hb nlk)
  have l18 := l17.tag (o := .lst []) (v := (6, 0)) nlk
  have e18 : E3 X (upd H17 lk (.lst [])) (setT T17 lk (6, 0)) lk lq [] ts hands B room 0 0 :=
    ⟨setT_same, upd_same, fun r hr => (nomatch hr), jb17.fresh nlk, (f18 _ _ (s617 _ _ oq)).trans (t617 _ _ oq), s18 _ _ (s617 _ _ oq), al6.mono fun x m ⟨z1, _⟩ => ⟨(f18 _ _ (s617 _ _ z1)).trans (t617 _ _ z1), s18 _ _ (s617 _ _ z1)⟩⟩
  have s618 := s617.trans s18
  refine i_g12 ?_
  refine law_loop (ns := ns) Tx l18 ?_ rfl (Int.le_refl _) e18 bw12 (by omega) hb ((s06.trans s618).seq hS) hlen hbits h
  refine ⟨rfl, rfl, Nat.le_refl _, fun k c hk => (by simp [newW] at hk), fun k k' c c' hk => (by simp [newW] at hk), fun m hm y hy => ?_, fun k c hk => (by simp [newW] at hk), by show (hands.map _).length = _; rw [List.length_map]; exact lh, by omega, by omega, nb, fun k m x e1 e2 => ?_⟩
  · obtain ⟨m', _, rfl⟩ := List.mem_map.mp (show m ∈ hands.map _ from hm)
    have := List.eq_of_mem_replicate hy
    cases this
  · have e1' : (hands.map fun m => (m.1, List.replicate m.2.toNat (none : Option Int)))[k]? = some m := e1
    rw [List.getElem?_map] at e1'
    cases hk : hands[k]? with
    | none => rw [hk] at e1'; cases e1'
    | some m0 =>
      rw [hk] at e1'
      have e3 : (m0.1, List.replicate m0.2.toNat (none : Option Int)) = m := Option.some.inj e1'
      rw [← eh, List.getElem?_map, hk] at e2
      have e4 : m0.2 = x := Option.some.inj e2
      rw [← e3, ← e4]
      exact List.length_replicate
theorem law_rd {a : Addr} (Tx : TxW K X) (q : ∃ ns : List Int, SqL K H a (ns.map V.int) ∧ ns.length ≤ 63 ∧ BitsOk ns ∧ ∀ H', Q (.bl true) H') :
    rd_law K X.W (S_World_init X) (S_atB K) S_dueL (S_foundL X) S_mix S_names (S_new X) (S_same 3) (S_turn X) (S_kind_of X) (S_told X) ⟨n, Q, bk, ct⟩ [some (.ref a), none, none, none, none, none, none, none, none, none, none, none, none, none, none, none, none, none] H := by
  obtain ⟨ns0, hS, hlen, hbits, h⟩ := q
  unfold rd_law
  walk_at "ev"
  refine ⟨a, 0, rfl, ns0, hS, hbits, by decide, fun z0 hz0 => ?_⟩
  walk_at "ev"
  refine ⟨_, _, rfl, by decide, by decide, fun z1 h1 => ?_⟩
  walk_at "ev"
  refine ⟨a, 0, rfl, ns0, hS, hbits, by decide, fun z2 hz2 => ?_⟩
  walk_at "ev"
  refine ifd (fun _ => ?_) (fun _ => ?_)
  · walk_at "ev"
    refine ⟨a, 0, rfl, ns0, hS, hbits, by decide, fun z3 hz3 => ?_⟩
    walk_at "es"
    exact law_tail Tx hS hlen hbits h
  · refine i_next ?_
    exact law_tail Tx hS hlen hbits h
end

def top (i : Nat) : Stmt := PySem.Challenge.pw_greywalk_k13_a_world_told.main.body.getD i (.Pass ⟨0, 0, 0, 0⟩)
abbrev s_Cell___init__ : Stmt := inClass (top 5) 0
abbrev s_Cell_units : Stmt := inClass (top 5) 1
abbrev s_Heap___init__ : Stmt := inClass (top 6) 0
abbrev s_Heap_make : Stmt := inClass (top 6) 1
abbrev s_Heap_lay : Stmt := inClass (top 6) 2
abbrev s_Heap_back : Stmt := inClass (top 6) 3
abbrev s_Heap_free : Stmt := inClass (top 6) 4
abbrev s_Heap_there : Stmt := inClass (top 6) 5
abbrev s_cell_at : Stmt := top 7
abbrev s_birth_at : Stmt := top 8
abbrev s_Hand___init__ : Stmt := inClass (top 10) 0
abbrev s_Sweeper___init__ : Stmt := inClass (top 11) 0
abbrev s_World___init__ : Stmt := inClass (top 12) 0
abbrev s_held : Stmt := top 13
abbrev s_births_held : Stmt := top 14
abbrev s_births_at : Stmt := top 15
abbrev s_has_sense : Stmt := top 16
abbrev s_mark_of : Stmt := top 17
abbrev s_told_cells : Stmt := top 18
abbrev s_told_cell : Stmt := top 19
abbrev s_First_word : Stmt := inClass (top 24) 0
abbrev s_Each_word : Stmt := inClass (top 25) 0
abbrev s_Last_word : Stmt := inClass (top 26) 0
abbrev s_Kind___init__ : Stmt := inClass (top 27) 0
abbrev s_Kind_words : Stmt := inClass (top 27) 2
abbrev s_kind_of : Stmt := top 28
abbrev s__law_mix : Stmt := top 30
abbrev s__law_cell_at : Stmt := top 31
abbrev s__law_names : Stmt := top 32
abbrev s__law_same : Stmt := top 33
abbrev s__law_new : Stmt := top 34
abbrev s__law_birth : Stmt := top 35
abbrev s__law_births : Stmt := top 36
abbrev s__law_due : Stmt := top 37
abbrev s__law_found : Stmt := top 38
abbrev s__law_lies : Stmt := top 39
abbrev s__law_least : Stmt := top 40
abbrev s__law_made : Stmt := top 41
abbrev s__law_back : Stmt := top 42
abbrev s__law_turn : Stmt := top 43
abbrev s_law : Stmt := top 44
structure Txt (K : PySem.W.Frag) (mg : Str → Option Value) (C_Cell C_Heap C_Hand C_Sweeper C_World C_First C_Each C_Last C_Kind C_Full f_Cell___init__ f_Cell_units f_Heap___init__ f_Heap_make f_Heap_lay f_Heap_back f_Heap_free f_Heap_there f_cell_at f_birth_at f_Hand___init__ f_Sweeper___init__ f_World___init__ f_held f_births_held f_births_at f_has_sense f_mark_of f_told_cells f_told_cell f_First_word f_Each_word f_Last_word f_Kind___init__ f_Kind_words f_kind_of f__law_mix f__law_cell_at f__law_names f__law_same f__law_new f__law_birth f__law_births f__law_due f__law_found f__law_lies f__law_least f__law_made f__law_back f__law_turn : Addr) : Prop where
  cl_Cell : Cls K C_Cell
  m_Cell : mg "Cell" = some (.ref C_Cell)
  mk_Cell : Mk K C_Cell f_Cell___init__
  n_Cell_birth : NoAttr K C_Cell "birth"
  n_Cell_bulk : NoAttr K C_Cell "bulk"
  n_Cell_tone : NoAttr K C_Cell "tone"
  n_Cell_load : NoAttr K C_Cell "load"
  n_Cell_fields : NoAttr K C_Cell "fields"
  eq_Cell : G.EqD K C_Cell
  cl_Heap : Cls K C_Heap
  m_Heap : mg "Heap" = some (.ref C_Heap)
  mk_Heap : Mk K C_Heap f_Heap___init__
  n_Heap_room : NoAttr K C_Heap "room"
  n_Heap_cells : NoAttr K C_Heap "cells"
  n_Heap_used : NoAttr K C_Heap "used"
  n_Heap_born : NoAttr K C_Heap "born"
  cl_Hand : Cls K C_Hand
  m_Hand : mg "Hand" = some (.ref C_Hand)
  mk_Hand : Mk K C_Hand f_Hand___init__
  n_Hand_name : NoAttr K C_Hand "name"
  n_Hand_slots : NoAttr K C_Hand "slots"
  cl_Sweeper : Cls K C_Sweeper
  m_Sweeper : mg "Sweeper" = some (.ref C_Sweeper)
  mk_Sweeper : Mk K C_Sweeper f_Sweeper___init__
  n_Sweeper_sense : NoAttr K C_Sweeper "sense"
  n_Sweeper_phase : NoAttr K C_Sweeper "phase"
  n_Sweeper_grey : NoAttr K C_Sweeper "grey"
  n_Sweeper_looked : NoAttr K C_Sweeper "looked"
  n_Sweeper_turn : NoAttr K C_Sweeper "turn"
  n_Sweeper_at : NoAttr K C_Sweeper "at"
  n_Sweeper_stop : NoAttr K C_Sweeper "stop"
  n_Sweeper_walks : NoAttr K C_Sweeper "walks"
  n_Sweeper_looks : NoAttr K C_Sweeper "looks"
  n_Sweeper_passes : NoAttr K C_Sweeper "passes"
  n_Sweeper_loss : NoAttr K C_Sweeper "loss"
  cl_World : Cls K C_World
  m_World : mg "World" = some (.ref C_World)
  mk_World : Mk K C_World f_World___init__
  n_World_heap : NoAttr K C_World "heap"
  n_World_kind : NoAttr K C_World "kind"
  n_World_hands : NoAttr K C_World "hands"
  n_World_names : NoAttr K C_World "names"
  n_World_sweeper : NoAttr K C_World "sweeper"
  cl_First : Cls K C_First
  m_First : mg "First" = some (.ref C_First)
  mk0_First : G.Mk0 K C_First
  cl_Each : Cls K C_Each
  m_Each : mg "Each" = some (.ref C_Each)
  mk0_Each : G.Mk0 K C_Each
  cl_Last : Cls K C_Last
  m_Last : mg "Last" = some (.ref C_Last)
  mk0_Last : G.Mk0 K C_Last
  cl_Kind : Cls K C_Kind
  m_Kind : mg "Kind" = some (.ref C_Kind)
  mk_Kind : Mk K C_Kind f_Kind___init__
  n_Kind_looking : NoAttr K C_Kind "looking"
  n_Kind_tells : NoAttr K C_Kind "tells"
  m_Full : mg "Full" = some (.ref C_Full)
  x_Full : G.ExcK K C_Full
  e_Full_Full : PySem.W.exmOne K (.ref C_Full) (.ref C_Full) = some true
  me_Cell___init__ : Meth K C_Cell "__init__" f_Cell___init__
  me_Cell_units : Meth K C_Cell "units" f_Cell_units
  me_Heap___init__ : Meth K C_Heap "__init__" f_Heap___init__
  me_Heap_make : Meth K C_Heap "make" f_Heap_make
  me_Heap_lay : Meth K C_Heap "lay" f_Heap_lay
  me_Heap_back : Meth K C_Heap "back" f_Heap_back
  me_Heap_free : Meth K C_Heap "free" f_Heap_free
  me_Heap_there : Meth K C_Heap "there" f_Heap_there
  m_cell_at : mg "cell_at" = some (.ref f_cell_at)
  m_birth_at : mg "birth_at" = some (.ref f_birth_at)
  me_Hand___init__ : Meth K C_Hand "__init__" f_Hand___init__
  me_Sweeper___init__ : Meth K C_Sweeper "__init__" f_Sweeper___init__
  me_World___init__ : Meth K C_World "__init__" f_World___init__
  m_held : mg "held" = some (.ref f_held)
  m_births_held : mg "births_held" = some (.ref f_births_held)
  m_births_at : mg "births_at" = some (.ref f_births_at)
  m_has_sense : mg "has_sense" = some (.ref f_has_sense)
  m_mark_of : mg "mark_of" = some (.ref f_mark_of)
  m_told_cells : mg "told_cells" = some (.ref f_told_cells)
  m_told_cell : mg "told_cell" = some (.ref f_told_cell)
  me_First_word : Meth K C_First "word" f_First_word
  me_Each_word : Meth K C_Each "word" f_Each_word
  me_Last_word : Meth K C_Last "word" f_Last_word
  me_Kind___init__ : Meth K C_Kind "__init__" f_Kind___init__
  me_Kind_words : Meth K C_Kind "words" f_Kind_words
  m_kind_of : mg "kind_of" = some (.ref f_kind_of)
  m__law_mix : mg "_law_mix" = some (.ref f__law_mix)
  m__law_cell_at : mg "_law_cell_at" = some (.ref f__law_cell_at)
  m__law_names : mg "_law_names" = some (.ref f__law_names)
  m__law_same : mg "_law_same" = some (.ref f__law_same)
  m__law_new : mg "_law_new" = some (.ref f__law_new)
  m__law_birth : mg "_law_birth" = some (.ref f__law_birth)
  m__law_births : mg "_law_births" = some (.ref f__law_births)
  m__law_due : mg "_law_due" = some (.ref f__law_due)
  m__law_found : mg "_law_found" = some (.ref f__law_found)
  m__law_lies : mg "_law_lies" = some (.ref f__law_lies)
  m__law_least : mg "_law_least" = some (.ref f__law_least)
  m__law_made : mg "_law_made" = some (.ref f__law_made)
  m__law_back : mg "_law_back" = some (.ref f__law_back)
  m__law_turn : mg "_law_turn" = some (.ref f__law_turn)
  z_bool : mg "bool" = none
  z_int : mg "int" = none
  z_isinstance : mg "isinstance" = none
  z_len : mg "len" = none
  z_list : mg "list" = none
  z_range : mg "range" = none
  z_str : mg "str" = none
  z_tuple : mg "tuple" = none
  g_NEW : G.GC mg "NEW" (.int 2)
  g_OLD : G.GC mg "OLD" (.int 1)
theorem sc_Cell___init__ : FnScope ["self", "birth", "many", "bulk", "tone"] ["self", "birth", "many", "bulk", "tone"] (defScope s_Cell___init__) := ⟨rfl, rfl, rfl, by decide +kernel, rfl, by decide +kernel, by decide +kernel⟩
theorem sc_Cell_units : FnScope ["self"] ["self"] (defScope s_Cell_units) := ⟨rfl, rfl, rfl, by decide +kernel, rfl, by decide +kernel, by decide +kernel⟩
theorem sc_Heap___init__ : FnScope ["self", "room"] ["self", "room"] (defScope s_Heap___init__) := ⟨rfl, rfl, rfl, by decide +kernel, rfl, by decide +kernel, by decide +kernel⟩
theorem sc_Heap_make : FnScope ["self", "many", "bulk", "tone", "cell"] ["self", "many", "bulk", "tone"] (defScope s_Heap_make) := ⟨rfl, rfl, rfl, by decide +kernel, rfl, by decide +kernel, by decide +kernel⟩
theorem sc_Heap_lay : FnScope ["self", "cell", "place"] ["self", "cell"] (defScope s_Heap_lay) := ⟨rfl, rfl, rfl, by decide +kernel, rfl, by decide +kernel, by decide +kernel⟩
theorem sc_Heap_back : FnScope ["self", "place", "cell"] ["self", "place"] (defScope s_Heap_back) := ⟨rfl, rfl, rfl, by decide +kernel, rfl, by decide +kernel, by decide +kernel⟩
theorem sc_Heap_free : FnScope ["self"] ["self"] (defScope s_Heap_free) := ⟨rfl, rfl, rfl, by decide +kernel, rfl, by decide +kernel, by decide +kernel⟩
theorem sc_Heap_there : FnScope ["self"] ["self"] (defScope s_Heap_there) := ⟨rfl, rfl, rfl, by decide +kernel, rfl, by decide +kernel, by decide +kernel⟩
theorem sc_cell_at : FnScope ["heap", "place"] ["heap", "place"] (defScope s_cell_at) := ⟨rfl, rfl, rfl, by decide +kernel, rfl, by decide +kernel, by decide +kernel⟩
theorem sc_birth_at : FnScope ["heap", "place", "cell"] ["heap", "place"] (defScope s_birth_at) := ⟨rfl, rfl, rfl, by decide +kernel, rfl, by decide +kernel, by decide +kernel⟩
theorem sc_Hand___init__ : FnScope ["self", "name", "many"] ["self", "name", "many"] (defScope s_Hand___init__) := ⟨rfl, rfl, rfl, by decide +kernel, rfl, by decide +kernel, by decide +kernel⟩
theorem sc_Sweeper___init__ : FnScope ["self"] ["self"] (defScope s_Sweeper___init__) := ⟨rfl, rfl, rfl, by decide +kernel, rfl, by decide +kernel, by decide +kernel⟩
theorem sc_World___init__ : FnScope ["self", "room", "kind", "hands"] ["self", "room", "kind", "hands"] (defScope s_World___init__) := ⟨rfl, rfl, rfl, by decide +kernel, rfl, by decide +kernel, by decide +kernel⟩
theorem sc_held : FnScope ["world"] ["world"] (defScope s_held) := ⟨rfl, rfl, rfl, by decide +kernel, rfl, by decide +kernel, by decide +kernel⟩
theorem sc_births_held : FnScope ["world"] ["world"] (defScope s_births_held) := ⟨rfl, rfl, rfl, by decide +kernel, rfl, by decide +kernel, by decide +kernel⟩
theorem sc_births_at : FnScope ["heap", "places"] ["heap", "places"] (defScope s_births_at) := ⟨rfl, rfl, rfl, by decide +kernel, rfl, by decide +kernel, by decide +kernel⟩
theorem sc_has_sense : FnScope ["world", "cell"] ["world", "cell"] (defScope s_has_sense) := ⟨rfl, rfl, rfl, by decide +kernel, rfl, by decide +kernel, by decide +kernel⟩
theorem sc_mark_of : FnScope ["world", "place", "sweeper", "toned"] ["world", "place"] (defScope s_mark_of) := ⟨rfl, rfl, rfl, by decide +kernel, rfl, by decide +kernel, by decide +kernel⟩
theorem sc_told_cells : FnScope ["world"] ["world"] (defScope s_told_cells) := ⟨rfl, rfl, rfl, by decide +kernel, rfl, by decide +kernel, by decide +kernel⟩
theorem sc_told_cell : FnScope ["world", "place", "cell", "fields"] ["world", "place"] (defScope s_told_cell) := ⟨rfl, rfl, rfl, by decide +kernel, rfl, by decide +kernel, by decide +kernel⟩
theorem sc_First_word : FnScope ["self"] ["self"] (defScope s_First_word) := ⟨rfl, rfl, rfl, by decide +kernel, rfl, by decide +kernel, by decide +kernel⟩
theorem sc_Each_word : FnScope ["self"] ["self"] (defScope s_Each_word) := ⟨rfl, rfl, rfl, by decide +kernel, rfl, by decide +kernel, by decide +kernel⟩
theorem sc_Last_word : FnScope ["self"] ["self"] (defScope s_Last_word) := ⟨rfl, rfl, rfl, by decide +kernel, rfl, by decide +kernel, by decide +kernel⟩
theorem sc_Kind___init__ : FnScope ["self", "looking", "tells"] ["self", "looking", "tells"] (defScope s_Kind___init__) := ⟨rfl, rfl, rfl, by decide +kernel, rfl, by decide +kernel, by decide +kernel⟩
theorem sc_Kind_words : FnScope ["self", "text"] ["self"] (defScope s_Kind_words) := ⟨rfl, rfl, rfl, by decide +kernel, rfl, by decide +kernel, by decide +kernel⟩
theorem sc_kind_of : FnScope ["text", "looking", "tells", "kind"] ["text"] (defScope s_kind_of) := ⟨rfl, rfl, rfl, by decide +kernel, rfl, by decide +kernel, by decide +kernel⟩
theorem sc__law_mix : FnScope ["_law_cell", "_law_factor", "_law_mixed"] ["_law_cell", "_law_factor"] (defScope s__law_mix) := ⟨rfl, rfl, rfl, by decide +kernel, rfl, by decide +kernel, by decide +kernel⟩
theorem sc__law_cell_at : FnScope ["_law_script", "_law_k"] ["_law_script", "_law_k"] (defScope s__law_cell_at) := ⟨rfl, rfl, rfl, by decide +kernel, rfl, by decide +kernel, by decide +kernel⟩
theorem sc__law_names : FnScope ["_law_cell", "_law_many", "_law_letters", "_law_size", "_law_word", "_law_k", "_law_at", "_law_start", "_law_words", "_law_one"] ["_law_cell", "_law_many"] (defScope s__law_names) := ⟨rfl, rfl, rfl, by decide +kernel, rfl, by decide +kernel, by decide +kernel⟩
theorem sc__law_same : FnScope ["_law_found_here", "_law_due_here", "_law_k"] ["_law_found_here", "_law_due_here"] (defScope s__law_same) := ⟨rfl, rfl, rfl, by decide +kernel, rfl, by decide +kernel, by decide +kernel⟩
theorem sc__law_new : FnScope ["_law_world", "_law_pairs", "_law_room", "_law_sweeper", "_law_found_here"] ["_law_world", "_law_pairs", "_law_room"] (defScope s__law_new) := ⟨rfl, rfl, rfl, by decide +kernel, rfl, by decide +kernel, by decide +kernel⟩
theorem sc__law_birth : FnScope ["_law_places", "_law_place"] ["_law_places", "_law_place"] (defScope s__law_birth) := ⟨rfl, rfl, rfl, by decide +kernel, rfl, by decide +kernel, by decide +kernel⟩
theorem sc__law_births : FnScope ["_law_places", "_law_row"] ["_law_places", "_law_row"] (defScope s__law_births) := ⟨rfl, rfl, rfl, by decide +kernel, rfl, by decide +kernel, by decide +kernel⟩
theorem sc__law_due : FnScope ["_law_places", "_law_rows", "_law_which", "_law_told", "_law_place", "_law_one"] ["_law_places", "_law_rows", "_law_which"] (defScope s__law_due) := ⟨rfl, rfl, rfl, by decide +kernel, rfl, by decide +kernel, by decide +kernel⟩
theorem sc__law_found : FnScope ["_law_world", "_law_which"] ["_law_world", "_law_which"] (defScope s__law_found) := ⟨rfl, rfl, rfl, by decide +kernel, rfl, by decide +kernel, by decide +kernel⟩
theorem sc__law_lies : FnScope ["_law_places", "_law_cell", "_law_there"] ["_law_places", "_law_cell"] (defScope s__law_lies) := ⟨rfl, rfl, rfl, by decide +kernel, rfl, by decide +kernel, by decide +kernel⟩
theorem sc__law_least : FnScope ["_law_places", "_law_place"] ["_law_places"] (defScope s__law_least) := ⟨rfl, rfl, rfl, by decide +kernel, rfl, by decide +kernel, by decide +kernel⟩
theorem sc__law_made : FnScope ["_law_world", "_law_places", "_law_state", "_law_many", "_law_bulk", "_law_full", "_law_place", "_law_due_here"] ["_law_world", "_law_places", "_law_state", "_law_many", "_law_bulk"] (defScope s__law_made) := ⟨rfl, rfl, rfl, by decide +kernel, rfl, by decide +kernel, by decide +kernel⟩
theorem sc__law_back : FnScope ["_law_world", "_law_places", "_law_state", "_law_place", "_law_one"] ["_law_world", "_law_places", "_law_state", "_law_place"] (defScope s__law_back) := ⟨rfl, rfl, rfl, by decide +kernel, rfl, by decide +kernel, by decide +kernel⟩
theorem sc__law_turn : FnScope ["_law_world", "_law_places", "_law_rows", "_law_state", "_law_cell", "_law_one", "_law_two", "_law_bulk", "_law_place", "_law_lies_here", "_law_h", "_law_s", "_law_f"] ["_law_world", "_law_places", "_law_rows", "_law_state", "_law_cell"] (defScope s__law_turn) := ⟨rfl, rfl, rfl, by decide +kernel, rfl, by decide +kernel, by decide +kernel⟩
theorem sc_law : FnScope ["_law_script", "_law_room", "_law_count", "_law_words", "_law_many", "_law_pairs", "_law_handed", "_law_world", "_law_beside", "_law_places", "_law_rows", "_law_state", "_law_kept", "_law_cell", "_law_which", "_law_found_here", "_law_due_here", "_law_spoilt"] ["_law_script"] (defScope s_law) := ⟨rfl, rfl, rfl, by decide +kernel, rfl, by decide +kernel, by decide +kernel⟩
section
variable {P : Program} {w : World} {K : PySem.W.Frag} {mg : Str → Option Value} {base : Heap} {C_Full f_Cell___init__ f_Cell_units f_Heap___init__ f_Heap_make f_Heap_lay f_Heap_back f_Heap_free f_Heap_there f_cell_at f_birth_at f_Hand___init__ f_Sweeper___init__ f_World___init__ f_held f_births_held f_births_at f_has_sense f_mark_of f_told_cells f_told_cell f_First_word f_Each_word f_Last_word f_Kind___init__ f_Kind_words f_kind_of f__law_mix f__law_cell_at f__law_names f__law_same f__law_new f__law_birth f__law_births f__law_due f__law_found f__law_lies f__law_least f__law_made f__law_back f__law_turn : Addr} {XQ : Cs} (T : Txt K mg XQ.C XQ.H XQ.D XQ.S XQ.W XQ.F XQ.E XQ.L XQ.K C_Full f_Cell___init__ f_Cell_units f_Heap___init__ f_Heap_make f_Heap_lay f_Heap_back f_Heap_free f_Heap_there f_cell_at f_birth_at f_Hand___init__ f_Sweeper___init__ f_World___init__ f_held f_births_held f_births_at f_has_sense f_mark_of f_told_cells f_told_cell f_First_word f_Each_word f_Last_word f_Kind___init__ f_Kind_words f_kind_of f__law_mix f__law_cell_at f__law_names f__law_same f__law_new f__law_birth f__law_births f__law_due f__law_found f__law_lies f__law_least f__law_made f__law_back f__law_turn)
include T
theorem ok_Cell___init__ {fd : FuncData} (F : Fun K "__init__" "Cell.__init__" s_Cell___init__ f_Cell___init__ fd) : FnOk P w K mg base (G.CXe P w) 1 f_Cell___init__ fd ["self", "birth", "many", "bulk", "tone"] (S_Cell_init XQ.C) := by
  have sc := sc_Cell___init__
  have tx : TxW K XQ := ⟨⟨T.cl_Cell, T.n_Cell_birth, T.n_Cell_bulk, T.n_Cell_tone, T.n_Cell_load, T.n_Cell_fields, T.cl_Heap, T.n_Heap_room, T.n_Heap_cells, T.n_Heap_used, T.n_Heap_born, T.eq_Cell⟩, T.cl_World, T.n_World_heap, T.n_World_kind, T.n_World_hands, T.n_World_names, T.n_World_sweeper, T.cl_Hand, T.n_Hand_name, T.n_Hand_slots, T.cl_Kind, T.n_Kind_looking, T.n_Kind_tells, T.cl_Sweeper, T.n_Sweeper_sense, T.n_Sweeper_phase, T.n_Sweeper_grey, T.n_Sweeper_looked, T.n_Sweeper_turn, T.n_Sweeper_at, T.n_Sweeper_stop, T.n_Sweeper_walks, T.n_Sweeper_looks, T.n_Sweeper_passes, T.n_Sweeper_loss⟩
  refine G.fok F sc (fun vs H Q E h => ?_) (fun cdv A outer s H vs Q E hr h => ?_)
  · obtain ⟨z0, z1, z2, z3, z4, rfl, q⟩ := h; rfl
  · refine ⟨rd_Cell___init__ K, (pss_cons (ps_fld (pv 0) (pv 1) rfl)
      (pss_cons (ps_fld (pv 0) (pv 3) rfl)
      (pss_cons (ps_fld (pv 0) (pv 4) rfl)
      (pss_cons (ps_fld (pv 0) (pe_int) rfl)
      (pss_one (ps_fld (pv 0) (pe_op op_rep (pe_lst (pa_cons (pe_non) pa_nil)) (pv 2)) rfl)))))), ?_⟩
    obtain ⟨z0, z1, z2, z3, z4, rfl, q⟩ := h
    exact Cell___init___rd tx.c q
theorem ok_Cell_units {fd : FuncData} (F : Fun K "units" "Cell.units" s_Cell_units f_Cell_units fd) : FnOk P w K mg base (G.CXe P w) 1 f_Cell_units fd ["self"] (S_Cell_units XQ.C) := by
  have sc := sc_Cell_units
  have tx : TxW K XQ := ⟨⟨T.cl_Cell, T.n_Cell_birth, T.n_Cell_bulk, T.n_Cell_tone, T.n_Cell_load, T.n_Cell_fields, T.cl_Heap, T.n_Heap_room, T.n_Heap_cells, T.n_Heap_used, T.n_Heap_born, T.eq_Cell⟩, T.cl_World, T.n_World_heap, T.n_World_kind, T.n_World_hands, T.n_World_names, T.n_World_sweeper, T.cl_Hand, T.n_Hand_name, T.n_Hand_slots, T.cl_Kind, T.n_Kind_looking, T.n_Kind_tells, T.cl_Sweeper, T.n_Sweeper_sense, T.n_Sweeper_phase, T.n_Sweeper_grey, T.n_Sweeper_looked, T.n_Sweeper_turn, T.n_Sweeper_at, T.n_Sweeper_stop, T.n_Sweeper_walks, T.n_Sweeper_looks, T.n_Sweeper_passes, T.n_Sweeper_loss⟩
  refine G.fok F sc (fun vs H Q E h => ?_) (fun cdv A outer s H vs Q E hr h => ?_)
  · obtain ⟨z0, rfl, q⟩ := h; rfl
  · refine ⟨rd_Cell_units K, (pss_one (ps_ret (pe_op op_add (pe_op op_add (pe_int) (pe_callB G.call_lenL (by rfl) T.z_len G.boot_len (pa_cons (pe_fld (pv 0) rfl) pa_nil))) (pe_fld (pv 0) rfl)))), ?_⟩
    obtain ⟨z0, rfl, q⟩ := h
    exact Cell_units_rd tx.c q
theorem ok_Heap___init__ {fd : FuncData} (F : Fun K "__init__" "Heap.__init__" s_Heap___init__ f_Heap___init__ fd) : FnOk P w K mg base (G.CXe P w) 1 f_Heap___init__ fd ["self", "room"] (S_Heap_init XQ.H) := by
  have sc := sc_Heap___init__
  have tx : TxW K XQ := ⟨⟨T.cl_Cell, T.n_Cell_birth, T.n_Cell_bulk, T.n_Cell_tone, T.n_Cell_load, T.n_Cell_fields, T.cl_Heap, T.n_Heap_room, T.n_Heap_cells, T.n_Heap_used, T.n_Heap_born, T.eq_Cell⟩, T.cl_World, T.n_World_heap, T.n_World_kind, T.n_World_hands, T.n_World_names, T.n_World_sweeper, T.cl_Hand, T.n_Hand_name, T.n_Hand_slots, T.cl_Kind, T.n_Kind_looking, T.n_Kind_tells, T.cl_Sweeper, T.n_Sweeper_sense, T.n_Sweeper_phase, T.n_Sweeper_grey, T.n_Sweeper_looked, T.n_Sweeper_turn, T.n_Sweeper_at, T.n_Sweeper_stop, T.n_Sweeper_walks, T.n_Sweeper_looks, T.n_Sweeper_passes, T.n_Sweeper_loss⟩
  refine G.fok F sc (fun vs H Q E h => ?_) (fun cdv A outer s H vs Q E hr h => ?_)
  · obtain ⟨z0, z1, rfl, q⟩ := h; rfl
  · refine ⟨rd_Heap___init__ K, (pss_cons (ps_fld (pv 0) (pv 1) rfl)
      (pss_cons (ps_fld (pv 0) (pe_lst pa_nil) rfl)
      (pss_cons (ps_fld (pv 0) (pe_int) rfl)
      (pss_one (ps_fld (pv 0) (pe_int) rfl))))), ?_⟩
    obtain ⟨z0, z1, rfl, q⟩ := h
    exact Heap___init___rd tx.c q
theorem ok_Heap_make {fd : FuncData} (F : G.FunD K "make" "Heap.make" s_Heap_make f_Heap_make fd) {fd_Cell___init__ : FuncData} (G_Cell___init__ : FnOk P w K mg base (G.CXe P w) 1 f_Cell___init__ fd_Cell___init__ ["self", "birth", "many", "bulk", "tone"] (S_Cell_init XQ.C)) (b_Cell___init__ : Binds K fd_Cell___init__ ["self", "birth", "many", "bulk", "tone"] []) (k_Cell___init__ : PySem.W.keepIn K (.ref f_Cell___init__) = true) {fd_Cell_units : FuncData} (G_Cell_units : FnOk P w K mg base (G.CXe P w) 1 f_Cell_units fd_Cell_units ["self"] (S_Cell_units XQ.C)) (b_Cell_units : Binds K fd_Cell_units ["self"] []) (k_Cell_units : PySem.W.keepIn K (.ref f_Cell_units) = true) {fd_Heap_free : FuncData} (G_Heap_free : FnOk P w K mg base (G.CXe P w) 1 f_Heap_free fd_Heap_free ["self"] (S_Heap_free XQ.H)) (b_Heap_free : Binds K fd_Heap_free ["self"] []) (k_Heap_free : PySem.W.keepIn K (.ref f_Heap_free) = true) {fd_Heap_lay : FuncData} (G_Heap_lay : FnOk P w K mg base (G.CXe P w) 1 f_Heap_lay fd_Heap_lay ["self", "cell"] (S_Heap_lay K XQ.H)) (b_Heap_lay : Binds K fd_Heap_lay ["self", "cell"] []) (k_Heap_lay : PySem.W.keepIn K (.ref f_Heap_lay) = true) : FnOk P w K mg base (G.CXe P w) 3 f_Heap_make fd ["self", "many", "bulk", "tone"] (S_Heap_make K XQ.C XQ.H C_Full) := by
  have sc := sc_Heap_make
  have tx : TxW K XQ := ⟨⟨T.cl_Cell, T.n_Cell_birth, T.n_Cell_bulk, T.n_Cell_tone, T.n_Cell_load, T.n_Cell_fields, T.cl_Heap, T.n_Heap_room, T.n_Heap_cells, T.n_Heap_used, T.n_Heap_born, T.eq_Cell⟩, T.cl_World, T.n_World_heap, T.n_World_kind, T.n_World_hands, T.n_World_names, T.n_World_sweeper, T.cl_Hand, T.n_Hand_name, T.n_Hand_slots, T.cl_Kind, T.n_Kind_looking, T.n_Kind_tells, T.cl_Sweeper, T.n_Sweeper_sense, T.n_Sweeper_phase, T.n_Sweeper_grey, T.n_Sweeper_looked, T.n_Sweeper_turn, T.n_Sweeper_at, T.n_Sweeper_stop, T.n_Sweeper_walks, T.n_Sweeper_looks, T.n_Sweeper_passes, T.n_Sweeper_loss⟩
  refine G.fokDX F sc (fun vs H Q E h => ?_) (fun cdv A outer s H vs Q E hr h => ?_)
  · obtain ⟨z0, z1, z2, z3, rfl, q⟩ := h; rfl
  · refine ⟨rd_Heap_make K XQ.C C_Full XQ.H (S_Cell_init XQ.C) (S_Cell_units XQ.C) (S_Heap_free XQ.H) (S_Heap_lay K XQ.H) E, (pss_cons (ps_set (i := 4) sc.nd rfl (Or.inl rfl) (pe_make T.mk_Cell G_Cell___init__ (hr.mono (by decide)) rfl T.m_Cell b_Cell___init__ .nil G.passE0 (pa_cons (pe_op op_add (pe_fld (pv 0) rfl) (pe_int)) (pa_cons (pv 1) (pa_cons (pv 2) (pa_cons (pv 3) pa_nil))))))
      (pss_cons (ps_if (pt_cmpR op_gt (pe_meth0 (pv 4) T.cl_Cell T.me_Cell_units G_Cell_units (hr.mono (by decide)) b_Cell_units .nil G.passE0) (pe_meth0 (pv 0) T.cl_Heap T.me_Heap_free G_Heap_free (hr.mono (by decide)) b_Heap_free .nil G.passE0) (nomark _)) (pss_one (G.ps_raise rfl rfl T.m_Full T.x_Full (pa_cons (pe_str) pa_nil) (fun _ _ _ _ _ _ _ I hx hE => G.raiseL I hx hE))) pss_nil)
      (pss_cons (ps_fld (pv 0) (pe_fld (pv 4) rfl) rfl)
      (pss_cons (ps_fld (pv 0) (pe_op op_add (pe_fld (pv 0) rfl) (pe_meth0 (pv 4) T.cl_Cell T.me_Cell_units G_Cell_units (hr.mono (by decide)) b_Cell_units .nil G.passE0)) rfl)
      (pss_one (ps_ret (pe_meth (pv 0) T.cl_Heap T.me_Heap_lay G_Heap_lay (hr.mono (by decide)) b_Heap_lay .nil G.passE0 (pa_cons (pv 4) pa_nil)))))))), ?_⟩
    obtain ⟨z0, z1, z2, z3, rfl, q⟩ := h
    exact Heap_make_rd tx.c q
theorem ok_Heap_lay {fd : FuncData} (F : Fun K "lay" "Heap.lay" s_Heap_lay f_Heap_lay fd) : FnOk P w K mg base (G.CXe P w) 1 f_Heap_lay fd ["self", "cell"] (S_Heap_lay K XQ.H) := by
  have sc := sc_Heap_lay
  have tx : TxW K XQ := ⟨⟨T.cl_Cell, T.n_Cell_birth, T.n_Cell_bulk, T.n_Cell_tone, T.n_Cell_load, T.n_Cell_fields, T.cl_Heap, T.n_Heap_room, T.n_Heap_cells, T.n_Heap_used, T.n_Heap_born, T.eq_Cell⟩, T.cl_World, T.n_World_heap, T.n_World_kind, T.n_World_hands, T.n_World_names, T.n_World_sweeper, T.cl_Hand, T.n_Hand_name, T.n_Hand_slots, T.cl_Kind, T.n_Kind_looking, T.n_Kind_tells, T.cl_Sweeper, T.n_Sweeper_sense, T.n_Sweeper_phase, T.n_Sweeper_grey, T.n_Sweeper_looked, T.n_Sweeper_turn, T.n_Sweeper_at, T.n_Sweeper_stop, T.n_Sweeper_walks, T.n_Sweeper_looks, T.n_Sweeper_passes, T.n_Sweeper_loss⟩
  refine G.fok F sc (fun vs H Q E h => ?_) (fun cdv A outer s H vs Q E hr h => ?_)
  · obtain ⟨z0, z1, rfl, q⟩ := h; rfl
  · refine ⟨rd_Heap_lay K, (pss_cons (ps_if (pt_cmpR (G.op_notInN (hu_of hr)) (pe_non) (pe_fld (pv 0) rfl) (by with_unfolding_all rfl)) (pss_cons (ps_expr (pe_bm PySem.F.plainAttrs_list PySem.F.slot_list_append PySem.F.type_list_append mt_append (pe_fld (pv 0) rfl) (pa_cons (pv 1) pa_nil)))
      (pss_one (ps_ret (pe_op op_sub (pe_callB G.call_lenL (by rfl) T.z_len G.boot_len (pa_cons (pe_fld (pv 0) rfl) pa_nil)) (pe_int))))) pss_nil)
      (pss_cons (ps_set (i := 2) sc.nd rfl (Or.inl rfl) (pe_bm PySem.F.plainAttrs_list PySem.F.slot_list_index PySem.F.type_list_index (G.mt_indexN (hu_of hr)) (pe_fld (pv 0) rfl) (pa_cons (pe_non) pa_nil)))
      (pss_cons (ps_asg (pv 1) (pg_sub (pe_fld (pv 0) rfl) (pv 2) set_list))
      (pss_one (ps_ret (pv 2)))))), ?_⟩
    obtain ⟨z0, z1, rfl, q⟩ := h
    exact Heap_lay_rd tx.c q
theorem ok_Heap_back {fd : FuncData} (F : Fun K "back" "Heap.back" s_Heap_back f_Heap_back fd) {fd_Cell_units : FuncData} (G_Cell_units : FnOk P w K mg base (G.CXe P w) 1 f_Cell_units fd_Cell_units ["self"] (S_Cell_units XQ.C)) (b_Cell_units : Binds K fd_Cell_units ["self"] []) (k_Cell_units : PySem.W.keepIn K (.ref f_Cell_units) = true) : FnOk P w K mg base (G.CXe P w) 2 f_Heap_back fd ["self", "place"] (S_Heap_back XQ.C XQ.H) := by
  have sc := sc_Heap_back
  have tx : TxW K XQ := ⟨⟨T.cl_Cell, T.n_Cell_birth, T.n_Cell_bulk, T.n_Cell_tone, T.n_Cell_load, T.n_Cell_fields, T.cl_Heap, T.n_Heap_room, T.n_Heap_cells, T.n_Heap_used, T.n_Heap_born, T.eq_Cell⟩, T.cl_World, T.n_World_heap, T.n_World_kind, T.n_World_hands, T.n_World_names, T.n_World_sweeper, T.cl_Hand, T.n_Hand_name, T.n_Hand_slots, T.cl_Kind, T.n_Kind_looking, T.n_Kind_tells, T.cl_Sweeper, T.n_Sweeper_sense, T.n_Sweeper_phase, T.n_Sweeper_grey, T.n_Sweeper_looked, T.n_Sweeper_turn, T.n_Sweeper_at, T.n_Sweeper_stop, T.n_Sweeper_walks, T.n_Sweeper_looks, T.n_Sweeper_passes, T.n_Sweeper_loss⟩
  refine G.fok F sc (fun vs H Q E h => ?_) (fun cdv A outer s H vs Q E hr h => ?_)
  · obtain ⟨z0, z1, rfl, q⟩ := h; rfl
  · refine ⟨rd_Heap_back K XQ.C (S_Cell_units XQ.C), (pss_cons (ps_set (i := 2) sc.nd rfl (Or.inl rfl) (pe_ix ix_list (pe_fld (pv 0) rfl) (pv 1) (fun _ _ => rfl)))
      (pss_cons (ps_fld (pv 0) (pe_op op_sub (pe_fld (pv 0) rfl) (pe_meth0 (pv 2) T.cl_Cell T.me_Cell_units G_Cell_units (hr.mono (by decide)) b_Cell_units .nil G.passE0)) rfl)
      (pss_cons (ps_asg (pe_non) (pg_sub (pe_fld (pv 0) rfl) (pv 1) set_list))
      (pss_one (ps_ret (pe_fld (pv 2) rfl)))))), ?_⟩
    obtain ⟨z0, z1, rfl, q⟩ := h
    exact Heap_back_rd tx.c q
theorem ok_Heap_free {fd : FuncData} (F : Fun K "free" "Heap.free" s_Heap_free f_Heap_free fd) : FnOk P w K mg base (G.CXe P w) 1 f_Heap_free fd ["self"] (S_Heap_free XQ.H) := by
  have sc := sc_Heap_free
  have tx : TxW K XQ := ⟨⟨T.cl_Cell, T.n_Cell_birth, T.n_Cell_bulk, T.n_Cell_tone, T.n_Cell_load, T.n_Cell_fields, T.cl_Heap, T.n_Heap_room, T.n_Heap_cells, T.n_Heap_used, T.n_Heap_born, T.eq_Cell⟩, T.cl_World, T.n_World_heap, T.n_World_kind, T.n_World_hands, T.n_World_names, T.n_World_sweeper, T.cl_Hand, T.n_Hand_name, T.n_Hand_slots, T.cl_Kind, T.n_Kind_looking, T.n_Kind_tells, T.cl_Sweeper, T.n_Sweeper_sense, T.n_Sweeper_phase, T.n_Sweeper_grey, T.n_Sweeper_looked, T.n_Sweeper_turn, T.n_Sweeper_at, T.n_Sweeper_stop, T.n_Sweeper_walks, T.n_Sweeper_looks, T.n_Sweeper_passes, T.n_Sweeper_loss⟩
  refine G.fok F sc (fun vs H Q E h => ?_) (fun cdv A outer s H vs Q E hr h => ?_)
  · obtain ⟨z0, rfl, q⟩ := h; rfl
  · refine ⟨rd_Heap_free K, (pss_one (ps_ret (pe_op op_sub (pe_fld (pv 0) rfl) (pe_fld (pv 0) rfl)))), ?_⟩
    obtain ⟨z0, rfl, q⟩ := h
    exact Heap_free_rd tx.c q
theorem ok_Heap_there {fd : FuncData} (F : Fun K "there" "Heap.there" s_Heap_there f_Heap_there fd) : FnOk P w K mg base (G.CXe P w) 1 f_Heap_there fd ["self"] (S_Heap_there XQ.H) := by
  have sc := sc_Heap_there
  have tx : TxW K XQ := ⟨⟨T.cl_Cell, T.n_Cell_birth, T.n_Cell_bulk, T.n_Cell_tone, T.n_Cell_load, T.n_Cell_fields, T.cl_Heap, T.n_Heap_room, T.n_Heap_cells, T.n_Heap_used, T.n_Heap_born, T.eq_Cell⟩, T.cl_World, T.n_World_heap, T.n_World_kind, T.n_World_hands, T.n_World_names, T.n_World_sweeper, T.cl_Hand, T.n_Hand_name, T.n_Hand_slots, T.cl_Kind, T.n_Kind_looking, T.n_Kind_tells, T.cl_Sweeper, T.n_Sweeper_sense, T.n_Sweeper_phase, T.n_Sweeper_grey, T.n_Sweeper_looked, T.n_Sweeper_turn, T.n_Sweeper_at, T.n_Sweeper_stop, T.n_Sweeper_walks, T.n_Sweeper_looks, T.n_Sweeper_passes, T.n_Sweeper_loss⟩
  refine G.fok F sc (fun vs H Q E h => ?_) (fun cdv A outer s H vs Q E hr h => ?_)
  · obtain ⟨z0, rfl, q⟩ := h; rfl
  · refine ⟨rd_Heap_there K, (pss_one (ps_ret (G.pe_lc (cns := ["self"]) [0] (pi_range1 rfl T.z_range (pa_cons (pe_callB G.call_lenL (by rfl) T.z_len G.boot_len (pa_cons (pe_fld (pv 0) rfl) pa_nil)) pa_nil)) (fun _ _ _ _ _ => (G.pf_one (pt_cmpR G.op_notN_ (pe_ix ix_list (pe_fld (pv 1) rfl) (pv 0) (fun _ _ => rfl)) (pe_non) (nomark _)))) (fun _ _ _ _ _ => (pv 0)) rfl rfl (by repeat (first | exact trivial | refine ⟨rfl, ?_⟩)) (by repeat (first | exact trivial | refine ⟨rfl, ?_⟩)) rfl (by decide +kernel) rfl (by decide +kernel) (by decide +kernel) rfl (by decide +kernel)))), ?_⟩
    obtain ⟨z0, rfl, q⟩ := h
    exact Heap_there_rd tx.c q
theorem ok_cell_at {fd : FuncData} (F : Fun K "cell_at" "cell_at" s_cell_at f_cell_at fd) : FnOk P w K mg base (G.CXe P w) 1 f_cell_at fd ["heap", "place"] (S_cell_at XQ.H) := by
  have sc := sc_cell_at
  have tx : TxW K XQ := ⟨⟨T.cl_Cell, T.n_Cell_birth, T.n_Cell_bulk, T.n_Cell_tone, T.n_Cell_load, T.n_Cell_fields, T.cl_Heap, T.n_Heap_room, T.n_Heap_cells, T.n_Heap_used, T.n_Heap_born, T.eq_Cell⟩, T.cl_World, T.n_World_heap, T.n_World_kind, T.n_World_hands, T.n_World_names, T.n_World_sweeper, T.cl_Hand, T.n_Hand_name, T.n_Hand_slots, T.cl_Kind, T.n_Kind_looking, T.n_Kind_tells, T.cl_Sweeper, T.n_Sweeper_sense, T.n_Sweeper_phase, T.n_Sweeper_grey, T.n_Sweeper_looked, T.n_Sweeper_turn, T.n_Sweeper_at, T.n_Sweeper_stop, T.n_Sweeper_walks, T.n_Sweeper_looks, T.n_Sweeper_passes, T.n_Sweeper_loss⟩
  refine G.fok F sc (fun vs H Q E h => ?_) (fun cdv A outer s H vs Q E hr h => ?_)
  · obtain ⟨z0, z1, rfl, q⟩ := h; rfl
  · refine ⟨rd_cell_at K, (pss_cons (ps_if (PW.pt (pw_or (pt_cmpR G.op_isN_ (pv 1) (pe_non) (nomark _)) (pw_or (pt_cmpR op_lt (pv 1) (pe_int) (nomark _)) (pw_or1 (pt_cmpR op_ge (pv 1) (pe_callB G.call_lenL (by rfl) T.z_len G.boot_len (pa_cons (pe_fld (pv 0) rfl) pa_nil)) (nomark _)))))) (pss_one (ps_ret (pe_non))) pss_nil)
      (pss_one (ps_ret (pe_ix ix_list (pe_fld (pv 0) rfl) (pv 1) (fun _ _ => rfl))))), ?_⟩
    obtain ⟨z0, z1, rfl, q⟩ := h
    exact cell_at_rd tx q
theorem ok_birth_at {fd : FuncData} (F : Fun K "birth_at" "birth_at" s_birth_at f_birth_at fd) {fd_cell_at : FuncData} (G_cell_at : FnOk P w K mg base (G.CXe P w) 1 f_cell_at fd_cell_at ["heap", "place"] (S_cell_at XQ.H)) (b_cell_at : Binds K fd_cell_at ["heap", "place"] []) (k_cell_at : PySem.W.keepIn K (.ref f_cell_at) = true) : FnOk P w K mg base (G.CXe P w) 2 f_birth_at fd ["heap", "place"] (S_birth_at XQ) := by
  have sc := sc_birth_at
  have tx : TxW K XQ := ⟨⟨T.cl_Cell, T.n_Cell_birth, T.n_Cell_bulk, T.n_Cell_tone, T.n_Cell_load, T.n_Cell_fields, T.cl_Heap, T.n_Heap_room, T.n_Heap_cells, T.n_Heap_used, T.n_Heap_born, T.eq_Cell⟩, T.cl_World, T.n_World_heap, T.n_World_kind, T.n_World_hands, T.n_World_names, T.n_World_sweeper, T.cl_Hand, T.n_Hand_name, T.n_Hand_slots, T.cl_Kind, T.n_Kind_looking, T.n_Kind_tells, T.cl_Sweeper, T.n_Sweeper_sense, T.n_Sweeper_phase, T.n_Sweeper_grey, T.n_Sweeper_looked, T.n_Sweeper_turn, T.n_Sweeper_at, T.n_Sweeper_stop, T.n_Sweeper_walks, T.n_Sweeper_looks, T.n_Sweeper_passes, T.n_Sweeper_loss⟩
  refine G.fok F sc (fun vs H Q E h => ?_) (fun cdv A outer s H vs Q E hr h => ?_)
  · obtain ⟨z0, z1, rfl, q⟩ := h; rfl
  · refine ⟨rd_birth_at K (S_cell_at XQ.H), (pss_cons (ps_set (i := 2) sc.nd rfl (Or.inl rfl) (pe_call G_cell_at (hr.mono (by decide)) rfl T.m_cell_at k_cell_at b_cell_at .nil G.passE0 (pa_cons (pv 0) (pa_cons (pv 1) pa_nil))))
      (pss_cons (ps_if (pt_cmpR G.op_isN_ (pv 2) (pe_non) (nomark _)) (pss_one (ps_ret (pe_non))) pss_nil)
      (pss_one (ps_ret (pe_fld (pv 2) rfl))))), ?_⟩
    obtain ⟨z0, z1, rfl, q⟩ := h
    exact birth_at_rd tx q
theorem ok_Hand___init__ {fd : FuncData} (F : Fun K "__init__" "Hand.__init__" s_Hand___init__ f_Hand___init__ fd) : FnOk P w K mg base (G.CXe P w) 1 f_Hand___init__ fd ["self", "name", "many"] (S_Hand_init XQ.D) := by
  have sc := sc_Hand___init__
  have tx : TxW K XQ := ⟨⟨T.cl_Cell, T.n_Cell_birth, T.n_Cell_bulk, T.n_Cell_tone, T.n_Cell_load, T.n_Cell_fields, T.cl_Heap, T.n_Heap_room, T.n_Heap_cells, T.n_Heap_used, T.n_Heap_born, T.eq_Cell⟩, T.cl_World, T.n_World_heap, T.n_World_kind, T.n_World_hands, T.n_World_names, T.n_World_sweeper, T.cl_Hand, T.n_Hand_name, T.n_Hand_slots, T.cl_Kind, T.n_Kind_looking, T.n_Kind_tells, T.cl_Sweeper, T.n_Sweeper_sense, T.n_Sweeper_phase, T.n_Sweeper_grey, T.n_Sweeper_looked, T.n_Sweeper_turn, T.n_Sweeper_at, T.n_Sweeper_stop, T.n_Sweeper_walks, T.n_Sweeper_looks, T.n_Sweeper_passes, T.n_Sweeper_loss⟩
  refine G.fok F sc (fun vs H Q E h => ?_) (fun cdv A outer s H vs Q E hr h => ?_)
  · obtain ⟨z0, z1, z2, rfl, q⟩ := h; rfl
  · refine ⟨rd_Hand___init__ K, (pss_cons (ps_fld (pv 0) (pv 1) rfl)
      (pss_one (ps_fld (pv 0) (pe_op op_rep (pe_lst (pa_cons (pe_non) pa_nil)) (pv 2)) rfl))), ?_⟩
    obtain ⟨z0, z1, z2, rfl, q⟩ := h
    exact Hand___init___rd tx q
theorem ok_Sweeper___init__ {fd : FuncData} (F : Fun K "__init__" "Sweeper.__init__" s_Sweeper___init__ f_Sweeper___init__ fd) : FnOk P w K mg base (G.CXe P w) 1 f_Sweeper___init__ fd ["self"] (S_Sweeper_init XQ.S) := by
  have sc := sc_Sweeper___init__
  have tx : TxW K XQ := ⟨⟨T.cl_Cell, T.n_Cell_birth, T.n_Cell_bulk, T.n_Cell_tone, T.n_Cell_load, T.n_Cell_fields, T.cl_Heap, T.n_Heap_room, T.n_Heap_cells, T.n_Heap_used, T.n_Heap_born, T.eq_Cell⟩, T.cl_World, T.n_World_heap, T.n_World_kind, T.n_World_hands, T.n_World_names, T.n_World_sweeper, T.cl_Hand, T.n_Hand_name, T.n_Hand_slots, T.cl_Kind, T.n_Kind_looking, T.n_Kind_tells, T.cl_Sweeper, T.n_Sweeper_sense, T.n_Sweeper_phase, T.n_Sweeper_grey, T.n_Sweeper_looked, T.n_Sweeper_turn, T.n_Sweeper_at, T.n_Sweeper_stop, T.n_Sweeper_walks, T.n_Sweeper_looks, T.n_Sweeper_passes, T.n_Sweeper_loss⟩
  refine G.fok F sc (fun vs H Q E h => ?_) (fun cdv A outer s H vs Q E hr h => ?_)
  · obtain ⟨z0, rfl, q⟩ := h; rfl
  · refine ⟨rd_Sweeper___init__ K, (pss_cons (ps_fld (pv 0) (pe_int) rfl)
      (pss_cons (ps_fld (pv 0) (pe_str) rfl)
      (pss_cons (ps_fld (pv 0) (pe_lst pa_nil) rfl)
      (pss_cons (ps_fld (pv 0) (pe_int) rfl)
      (pss_cons (ps_fld (pv 0) (pe_int) rfl)
      (pss_cons (ps_fld (pv 0) (pe_int) rfl)
      (pss_cons (ps_fld (pv 0) (pe_int) rfl)
      (pss_cons (ps_fld (pv 0) (pe_int) rfl)
      (pss_cons (ps_fld (pv 0) (pe_int) rfl)
      (pss_cons (ps_fld (pv 0) (pe_int) rfl)
      (pss_one (ps_fld (pv 0) (pe_non) rfl)))))))))))), ?_⟩
    obtain ⟨z0, rfl, q⟩ := h
    exact Sweeper___init___rd tx q
theorem ok_World___init__ {fd : FuncData} (F : Fun K "__init__" "World.__init__" s_World___init__ f_World___init__ fd) {fd_Hand___init__ : FuncData} (G_Hand___init__ : FnOk P w K mg base (G.CXe P w) 1 f_Hand___init__ fd_Hand___init__ ["self", "name", "many"] (S_Hand_init XQ.D)) (b_Hand___init__ : Binds K fd_Hand___init__ ["self", "name", "many"] []) (k_Hand___init__ : PySem.W.keepIn K (.ref f_Hand___init__) = true) {fd_Heap___init__ : FuncData} (G_Heap___init__ : FnOk P w K mg base (G.CXe P w) 1 f_Heap___init__ fd_Heap___init__ ["self", "room"] (S_Heap_init XQ.H)) (b_Heap___init__ : Binds K fd_Heap___init__ ["self", "room"] []) (k_Heap___init__ : PySem.W.keepIn K (.ref f_Heap___init__) = true) {fd_Sweeper___init__ : FuncData} (G_Sweeper___init__ : FnOk P w K mg base (G.CXe P w) 1 f_Sweeper___init__ fd_Sweeper___init__ ["self"] (S_Sweeper_init XQ.S)) (b_Sweeper___init__ : Binds K fd_Sweeper___init__ ["self"] []) (k_Sweeper___init__ : PySem.W.keepIn K (.ref f_Sweeper___init__) = true) : FnOk P w K mg base (G.CXe P w) 3 f_World___init__ fd ["self", "room", "kind", "hands"] (S_World_init XQ) := by
  have sc := sc_World___init__
  have tx : TxW K XQ := ⟨⟨T.cl_Cell, T.n_Cell_birth, T.n_Cell_bulk, T.n_Cell_tone, T.n_Cell_load, T.n_Cell_fields, T.cl_Heap, T.n_Heap_room, T.n_Heap_cells, T.n_Heap_used, T.n_Heap_born, T.eq_Cell⟩, T.cl_World, T.n_World_heap, T.n_World_kind, T.n_World_hands, T.n_World_names, T.n_World_sweeper, T.cl_Hand, T.n_Hand_name, T.n_Hand_slots, T.cl_Kind, T.n_Kind_looking, T.n_Kind_tells, T.cl_Sweeper, T.n_Sweeper_sense, T.n_Sweeper_phase, T.n_Sweeper_grey, T.n_Sweeper_looked, T.n_Sweeper_turn, T.n_Sweeper_at, T.n_Sweeper_stop, T.n_Sweeper_walks, T.n_Sweeper_looks, T.n_Sweeper_passes, T.n_Sweeper_loss⟩
  refine G.fok F sc (fun vs H Q E h => ?_) (fun cdv A outer s H vs Q E hr h => ?_)
  · obtain ⟨z0, z1, z2, z3, rfl, q⟩ := h; rfl
  · refine ⟨rd_World___init__ K XQ.D XQ.H XQ.S (S_Hand_init XQ.D) (S_Heap_init XQ.H) (S_Sweeper_init XQ.S), (pss_cons (ps_fld (pv 0) (pe_make T.mk_Heap G_Heap___init__ (hr.mono (by decide)) rfl T.m_Heap b_Heap___init__ .nil G.passE0 (pa_cons (pv 1) pa_nil)) rfl)
      (pss_cons (ps_fld (pv 0) (pv 2) rfl)
      (pss_cons (ps_fld (pv 0) (G.pe_lc2 (cns := []) [] (pi_list (pv 3)) (fun _ _ _ _ _ => G.pf_nil) (fun _ _ _ _ _ => (pe_make T.mk_Hand G_Hand___init__ (hr.mono (by decide)) rfl T.m_Hand b_Hand___init__ .nil G.passE0 (pa_cons (pv 0) (pa_cons (pv 1) pa_nil)))) rfl rfl (by repeat (first | exact trivial | refine ⟨rfl, ?_⟩)) (by repeat (first | exact trivial | refine ⟨rfl, ?_⟩)) rfl (by decide +kernel) rfl (by decide +kernel) (by decide +kernel) rfl rfl (by decide +kernel)) rfl)
      (pss_cons (ps_fld (pv 0) (pe_dnewK) rfl)
      (pss_one (ps_fld (pv 0) (pe_make0 T.mk_Sweeper G_Sweeper___init__ (hr.mono (by decide)) rfl T.m_Sweeper b_Sweeper___init__ .nil G.passE0) rfl)))))), ?_⟩
    obtain ⟨z0, z1, z2, z3, rfl, q⟩ := h
    exact World___init___rd tx q
theorem ok_held {fd : FuncData} (F : Fun K "held" "held" s_held f_held fd) : FnOk P w K mg base (G.CXe P w) 1 f_held fd ["world"] (S_held XQ) := by
  have sc := sc_held
  have tx : TxW K XQ := ⟨⟨T.cl_Cell, T.n_Cell_birth, T.n_Cell_bulk, T.n_Cell_tone, T.n_Cell_load, T.n_Cell_fields, T.cl_Heap, T.n_Heap_room, T.n_Heap_cells, T.n_Heap_used, T.n_Heap_born, T.eq_Cell⟩, T.cl_World, T.n_World_heap, T.n_World_kind, T.n_World_hands, T.n_World_names, T.n_World_sweeper, T.cl_Hand, T.n_Hand_name, T.n_Hand_slots, T.cl_Kind, T.n_Kind_looking, T.n_Kind_tells, T.cl_Sweeper, T.n_Sweeper_sense, T.n_Sweeper_phase, T.n_Sweeper_grey, T.n_Sweeper_looked, T.n_Sweeper_turn, T.n_Sweeper_at, T.n_Sweeper_stop, T.n_Sweeper_walks, T.n_Sweeper_looks, T.n_Sweeper_passes, T.n_Sweeper_loss⟩
  refine G.fok F sc (fun vs H Q E h => ?_) (fun cdv A outer s H vs Q E hr h => ?_)
  · obtain ⟨z0, rfl, q⟩ := h; rfl
  · refine ⟨rd_held K, (pss_one (ps_ret (G.pe_lc (cns := []) [] (pi_list (pe_fld (pv 0) rfl)) (fun _ _ _ _ _ => G.pf_nil) (fun _ _ _ _ _ => (pe_callTy G.call_listL (by rfl) T.z_list G.boot_list (pa_cons (pe_fld (pv 0) rfl) pa_nil))) rfl rfl (by repeat (first | exact trivial | refine ⟨rfl, ?_⟩)) (by repeat (first | exact trivial | refine ⟨rfl, ?_⟩)) rfl (by decide +kernel) rfl (by decide +kernel) (by decide +kernel) rfl (by decide +kernel)))), ?_⟩
    obtain ⟨z0, rfl, q⟩ := h
    exact held_rd tx q
theorem ok_births_held {fd : FuncData} (F : Fun K "births_held" "births_held" s_births_held f_births_held fd) {fd_births_at : FuncData} (G_births_at : FnOk P w K mg base (G.CXe P w) 3 f_births_at fd_births_at ["heap", "places"] (S_births_at XQ)) (b_births_at : Binds K fd_births_at ["heap", "places"] []) (k_births_at : PySem.W.keepIn K (.ref f_births_at) = true) : FnOk P w K mg base (G.CXe P w) 4 f_births_held fd ["world"] (S_births XQ) := by
  have sc := sc_births_held
  have tx : TxW K XQ := ⟨⟨T.cl_Cell, T.n_Cell_birth, T.n_Cell_bulk, T.n_Cell_tone, T.n_Cell_load, T.n_Cell_fields, T.cl_Heap, T.n_Heap_room, T.n_Heap_cells, T.n_Heap_used, T.n_Heap_born, T.eq_Cell⟩, T.cl_World, T.n_World_heap, T.n_World_kind, T.n_World_hands, T.n_World_names, T.n_World_sweeper, T.cl_Hand, T.n_Hand_name, T.n_Hand_slots, T.cl_Kind, T.n_Kind_looking, T.n_Kind_tells, T.cl_Sweeper, T.n_Sweeper_sense, T.n_Sweeper_phase, T.n_Sweeper_grey, T.n_Sweeper_looked, T.n_Sweeper_turn, T.n_Sweeper_at, T.n_Sweeper_stop, T.n_Sweeper_walks, T.n_Sweeper_looks, T.n_Sweeper_passes, T.n_Sweeper_loss⟩
  refine G.fok F sc (fun vs H Q E h => ?_) (fun cdv A outer s H vs Q E hr h => ?_)
  · obtain ⟨z0, rfl, q⟩ := h; rfl
  · refine ⟨rd_births_held K (S_births_at XQ), (pss_one (ps_ret (G.pe_lc (cns := ["world"]) [0] (pi_list (pe_fld (pv 0) rfl)) (fun _ _ _ _ _ => G.pf_nil) (fun _ _ _ _ _ => (pe_call G_births_at (hr.mono (by decide)) rfl T.m_births_at k_births_at b_births_at .nil G.passE0 (pa_cons (pe_fld (pv 1) rfl) (pa_cons (pe_fld (pv 0) rfl) pa_nil)))) rfl rfl (by repeat (first | exact trivial | refine ⟨rfl, ?_⟩)) (by repeat (first | exact trivial | refine ⟨rfl, ?_⟩)) rfl (by decide +kernel) rfl (by decide +kernel) (by decide +kernel) rfl (by decide +kernel)))), ?_⟩
    obtain ⟨z0, rfl, q⟩ := h
    exact births_held_rd tx q
theorem ok_births_at {fd : FuncData} (F : Fun K "births_at" "births_at" s_births_at f_births_at fd) {fd_birth_at : FuncData} (G_birth_at : FnOk P w K mg base (G.CXe P w) 2 f_birth_at fd_birth_at ["heap", "place"] (S_birth_at XQ)) (b_birth_at : Binds K fd_birth_at ["heap", "place"] []) (k_birth_at : PySem.W.keepIn K (.ref f_birth_at) = true) : FnOk P w K mg base (G.CXe P w) 3 f_births_at fd ["heap", "places"] (S_births_at XQ) := by
  have sc := sc_births_at
  have tx : TxW K XQ := ⟨⟨T.cl_Cell, T.n_Cell_birth, T.n_Cell_bulk, T.n_Cell_tone, T.n_Cell_load, T.n_Cell_fields, T.cl_Heap, T.n_Heap_room, T.n_Heap_cells, T.n_Heap_used, T.n_Heap_born, T.eq_Cell⟩, T.cl_World, T.n_World_heap, T.n_World_kind, T.n_World_hands, T.n_World_names, T.n_World_sweeper, T.cl_Hand, T.n_Hand_name, T.n_Hand_slots, T.cl_Kind, T.n_Kind_looking, T.n_Kind_tells, T.cl_Sweeper, T.n_Sweeper_sense, T.n_Sweeper_phase, T.n_Sweeper_grey, T.n_Sweeper_looked, T.n_Sweeper_turn, T.n_Sweeper_at, T.n_Sweeper_stop, T.n_Sweeper_walks, T.n_Sweeper_looks, T.n_Sweeper_passes, T.n_Sweeper_loss⟩
  refine G.fok F sc (fun vs H Q E h => ?_) (fun cdv A outer s H vs Q E hr h => ?_)
  · obtain ⟨z0, z1, rfl, q⟩ := h; rfl
  · refine ⟨rd_births_at K (S_birth_at XQ), (pss_one (ps_ret (G.pe_lc (cns := ["heap"]) [0] (pi_list (pv 1)) (fun _ _ _ _ _ => G.pf_nil) (fun _ _ _ _ _ => (pe_call G_birth_at (hr.mono (by decide)) rfl T.m_birth_at k_birth_at b_birth_at .nil G.passE0 (pa_cons (pv 1) (pa_cons (pv 0) pa_nil)))) rfl rfl (by repeat (first | exact trivial | refine ⟨rfl, ?_⟩)) (by repeat (first | exact trivial | refine ⟨rfl, ?_⟩)) rfl (by decide +kernel) rfl (by decide +kernel) (by decide +kernel) rfl (by decide +kernel)))), ?_⟩
    obtain ⟨z0, z1, rfl, q⟩ := h
    exact births_at_rd tx q
theorem ok_has_sense {fd : FuncData} (F : Fun K "has_sense" "has_sense" s_has_sense f_has_sense fd) : FnOk P w K mg base (G.CXe P w) 1 f_has_sense fd ["world", "cell"] (S_has_sense XQ) := by
  have sc := sc_has_sense
  have tx : TxW K XQ := ⟨⟨T.cl_Cell, T.n_Cell_birth, T.n_Cell_bulk, T.n_Cell_tone, T.n_Cell_load, T.n_Cell_fields, T.cl_Heap, T.n_Heap_room, T.n_Heap_cells, T.n_Heap_used, T.n_Heap_born, T.eq_Cell⟩, T.cl_World, T.n_World_heap, T.n_World_kind, T.n_World_hands, T.n_World_names, T.n_World_sweeper, T.cl_Hand, T.n_Hand_name, T.n_Hand_slots, T.cl_Kind, T.n_Kind_looking, T.n_Kind_tells, T.cl_Sweeper, T.n_Sweeper_sense, T.n_Sweeper_phase, T.n_Sweeper_grey, T.n_Sweeper_looked, T.n_Sweeper_turn, T.n_Sweeper_at, T.n_Sweeper_stop, T.n_Sweeper_walks, T.n_Sweeper_looks, T.n_Sweeper_passes, T.n_Sweeper_loss⟩
  refine G.fok F sc (fun vs H Q E h => ?_) (fun cdv A outer s H vs Q E hr h => ?_)
  · obtain ⟨z0, z1, rfl, q⟩ := h; rfl
  · refine ⟨rd_has_sense K, (pss_one (ps_ret (pe_cmpR op_eq (pe_fld (pv 1) rfl) (pe_fld (pe_fld (pv 0) rfl) rfl) (nomark _)))), ?_⟩
    obtain ⟨z0, z1, rfl, q⟩ := h
    exact has_sense_rd tx q
theorem ok_mark_of {fd : FuncData} (F : Fun K "mark_of" "mark_of" s_mark_of f_mark_of fd) {fd_has_sense : FuncData} (G_has_sense : FnOk P w K mg base (G.CXe P w) 1 f_has_sense fd_has_sense ["world", "cell"] (S_has_sense XQ)) (b_has_sense : Binds K fd_has_sense ["world", "cell"] []) (k_has_sense : PySem.W.keepIn K (.ref f_has_sense) = true) : FnOk P w K mg base (G.CXe P w) 2 f_mark_of fd ["world", "place"] (S_mark_of XQ) := by
  have sc := sc_mark_of
  have tx : TxW K XQ := ⟨⟨T.cl_Cell, T.n_Cell_birth, T.n_Cell_bulk, T.n_Cell_tone, T.n_Cell_load, T.n_Cell_fields, T.cl_Heap, T.n_Heap_room, T.n_Heap_cells, T.n_Heap_used, T.n_Heap_born, T.eq_Cell⟩, T.cl_World, T.n_World_heap, T.n_World_kind, T.n_World_hands, T.n_World_names, T.n_World_sweeper, T.cl_Hand, T.n_Hand_name, T.n_Hand_slots, T.cl_Kind, T.n_Kind_looking, T.n_Kind_tells, T.cl_Sweeper, T.n_Sweeper_sense, T.n_Sweeper_phase, T.n_Sweeper_grey, T.n_Sweeper_looked, T.n_Sweeper_turn, T.n_Sweeper_at, T.n_Sweeper_stop, T.n_Sweeper_walks, T.n_Sweeper_looks, T.n_Sweeper_passes, T.n_Sweeper_loss⟩
  refine G.fok F sc (fun vs H Q E h => ?_) (fun cdv A outer s H vs Q E hr h => ?_)
  · obtain ⟨z0, z1, rfl, q⟩ := h; rfl
  · refine ⟨rd_mark_of K (S_has_sense XQ), (pss_cons (ps_set (i := 2) sc.nd rfl (Or.inl rfl) (pe_fld (pv 0) rfl))
      (pss_cons (ps_set (i := 3) sc.nd rfl (Or.inl rfl) (pe_call G_has_sense (hr.mono (by decide)) rfl T.m_has_sense k_has_sense b_has_sense .nil G.passE0 (pa_cons (pv 0) (pa_cons (pe_ix ix_list (pe_fld (pe_fld (pv 0) rfl) rfl) (pv 1) (fun _ _ => rfl)) pa_nil))))
      (pss_cons (ps_if (pt_cmpR op_eq (pe_fld (pv 2) rfl) (pe_str) (nomark _)) (pss_one (ps_ret (pe_str))) pss_nil)
      (pss_cons (ps_if (pt_cmpR op_eq (pe_fld (pv 2) rfl) (pe_str) (nomark _)) (pss_one (ps_ret (pe_ifExp (pt_val (pv 3)) (pe_str) (pe_str)))) pss_nil)
      (pss_cons (ps_if (pt_not (pt_val (pv 3))) (pss_one (ps_ret (pe_str))) pss_nil)
      (pss_one (ps_ret (pe_ifExp (pt_cmpR op_in_seq (pv 1) (pe_fld (pv 2) rfl) (by with_unfolding_all rfl)) (pe_str) (pe_str))))))))), ?_⟩
    obtain ⟨z0, z1, rfl, q⟩ := h
    exact mark_of_rd tx q
theorem ok_told_cells {fd : FuncData} (F : Fun K "told_cells" "told_cells" s_told_cells f_told_cells fd) {fd_Heap_there : FuncData} (G_Heap_there : FnOk P w K mg base (G.CXe P w) 1 f_Heap_there fd_Heap_there ["self"] (S_Heap_there XQ.H)) (b_Heap_there : Binds K fd_Heap_there ["self"] []) (k_Heap_there : PySem.W.keepIn K (.ref f_Heap_there) = true) {fd_told_cell : FuncData} (G_told_cell : FnOk P w K mg base (G.CXe P w) 4 f_told_cell fd_told_cell ["world", "place"] (S_told_cell XQ)) (b_told_cell : Binds K fd_told_cell ["world", "place"] []) (k_told_cell : PySem.W.keepIn K (.ref f_told_cell) = true) : FnOk P w K mg base (G.CXe P w) 5 f_told_cells fd ["world"] (S_told XQ) := by
  have sc := sc_told_cells
  have tx : TxW K XQ := ⟨⟨T.cl_Cell, T.n_Cell_birth, T.n_Cell_bulk, T.n_Cell_tone, T.n_Cell_load, T.n_Cell_fields, T.cl_Heap, T.n_Heap_room, T.n_Heap_cells, T.n_Heap_used, T.n_Heap_born, T.eq_Cell⟩, T.cl_World, T.n_World_heap, T.n_World_kind, T.n_World_hands, T.n_World_names, T.n_World_sweeper, T.cl_Hand, T.n_Hand_name, T.n_Hand_slots, T.cl_Kind, T.n_Kind_looking, T.n_Kind_tells, T.cl_Sweeper, T.n_Sweeper_sense, T.n_Sweeper_phase, T.n_Sweeper_grey, T.n_Sweeper_looked, T.n_Sweeper_turn, T.n_Sweeper_at, T.n_Sweeper_stop, T.n_Sweeper_walks, T.n_Sweeper_looks, T.n_Sweeper_passes, T.n_Sweeper_loss⟩
  refine G.fok F sc (fun vs H Q E h => ?_) (fun cdv A outer s H vs Q E hr h => ?_)
  · obtain ⟨z0, rfl, q⟩ := h; rfl
  · refine ⟨rd_told_cells K XQ.H (S_Heap_there XQ.H) (S_told_cell XQ), (pss_one (ps_ret (G.pe_lc (cns := ["world"]) [0] (pi_list (pe_meth0 (pe_fld (pv 0) rfl) T.cl_Heap T.me_Heap_there G_Heap_there (hr.mono (by decide)) b_Heap_there .nil G.passE0)) (fun _ _ _ _ _ => G.pf_nil) (fun _ _ _ _ _ => (pe_call G_told_cell (hr.mono (by decide)) rfl T.m_told_cell k_told_cell b_told_cell .nil G.passE0 (pa_cons (pv 1) (pa_cons (pv 0) pa_nil)))) rfl rfl (by repeat (first | exact trivial | refine ⟨rfl, ?_⟩)) (by repeat (first | exact trivial | refine ⟨rfl, ?_⟩)) rfl (by decide +kernel) rfl (by decide +kernel) (by decide +kernel) rfl (by decide +kernel)))), ?_⟩
    obtain ⟨z0, rfl, q⟩ := h
    exact told_cells_rd tx q
theorem ok_told_cell {fd : FuncData} (F : Fun K "told_cell" "told_cell" s_told_cell f_told_cell fd) {fd_births_at : FuncData} (G_births_at : FnOk P w K mg base (G.CXe P w) 3 f_births_at fd_births_at ["heap", "places"] (S_births_at XQ)) (b_births_at : Binds K fd_births_at ["heap", "places"] []) (k_births_at : PySem.W.keepIn K (.ref f_births_at) = true) {fd_mark_of : FuncData} (G_mark_of : FnOk P w K mg base (G.CXe P w) 2 f_mark_of fd_mark_of ["world", "place"] (S_mark_of XQ)) (b_mark_of : Binds K fd_mark_of ["world", "place"] []) (k_mark_of : PySem.W.keepIn K (.ref f_mark_of) = true) : FnOk P w K mg base (G.CXe P w) 4 f_told_cell fd ["world", "place"] (S_told_cell XQ) := by
  have sc := sc_told_cell
  have tx : TxW K XQ := ⟨⟨T.cl_Cell, T.n_Cell_birth, T.n_Cell_bulk, T.n_Cell_tone, T.n_Cell_load, T.n_Cell_fields, T.cl_Heap, T.n_Heap_room, T.n_Heap_cells, T.n_Heap_used, T.n_Heap_born, T.eq_Cell⟩, T.cl_World, T.n_World_heap, T.n_World_kind, T.n_World_hands, T.n_World_names, T.n_World_sweeper, T.cl_Hand, T.n_Hand_name, T.n_Hand_slots, T.cl_Kind, T.n_Kind_looking, T.n_Kind_tells, T.cl_Sweeper, T.n_Sweeper_sense, T.n_Sweeper_phase, T.n_Sweeper_grey, T.n_Sweeper_looked, T.n_Sweeper_turn, T.n_Sweeper_at, T.n_Sweeper_stop, T.n_Sweeper_walks, T.n_Sweeper_looks, T.n_Sweeper_passes, T.n_Sweeper_loss⟩
  refine G.fok F sc (fun vs H Q E h => ?_) (fun cdv A outer s H vs Q E hr h => ?_)
  · obtain ⟨z0, z1, rfl, q⟩ := h; rfl
  · refine ⟨rd_told_cell K (S_births_at XQ) (S_mark_of XQ), (pss_cons (ps_set (i := 2) sc.nd rfl (Or.inl rfl) (pe_ix ix_list (pe_fld (pe_fld (pv 0) rfl) rfl) (pv 1) (fun _ _ => rfl)))
      (pss_cons (ps_set (i := 3) sc.nd rfl (Or.inl rfl) (pe_call G_births_at (hr.mono (by decide)) rfl T.m_births_at k_births_at b_births_at .nil G.passE0 (pa_cons (pe_fld (pv 0) rfl) (pa_cons (pe_fld (pv 2) rfl) pa_nil))))
      (pss_one (ps_ret (pe_tup (pa_cons (pv 1) (pa_cons (pe_fld (pv 2) rfl) (pa_cons (pe_fld (pv 2) rfl) (pa_cons (pe_fld (pv 2) rfl) (pa_cons (pv 3) (pa_cons (pe_call G_mark_of (hr.mono (by decide)) rfl T.m_mark_of k_mark_of b_mark_of .nil G.passE0 (pa_cons (pv 0) (pa_cons (pv 1) pa_nil))) pa_nil))))))))))), ?_⟩
    obtain ⟨z0, z1, rfl, q⟩ := h
    exact told_cell_rd tx q
theorem ok_First_word {fd : FuncData} (F : Fun K "word" "First.word" s_First_word f_First_word fd) : FnOk P w K mg base (G.CXe P w) 1 f_First_word fd ["self"] (S_tell (.str "first")) := by
  have sc := sc_First_word
  have tx : TxW K XQ := ⟨⟨T.cl_Cell, T.n_Cell_birth, T.n_Cell_bulk, T.n_Cell_tone, T.n_Cell_load, T.n_Cell_fields, T.cl_Heap, T.n_Heap_room, T.n_Heap_cells, T.n_Heap_used, T.n_Heap_born, T.eq_Cell⟩, T.cl_World, T.n_World_heap, T.n_World_kind, T.n_World_hands, T.n_World_names, T.n_World_sweeper, T.cl_Hand, T.n_Hand_name, T.n_Hand_slots, T.cl_Kind, T.n_Kind_looking, T.n_Kind_tells, T.cl_Sweeper, T.n_Sweeper_sense, T.n_Sweeper_phase, T.n_Sweeper_grey, T.n_Sweeper_looked, T.n_Sweeper_turn, T.n_Sweeper_at, T.n_Sweeper_stop, T.n_Sweeper_walks, T.n_Sweeper_looks, T.n_Sweeper_passes, T.n_Sweeper_loss⟩
  refine G.fok F sc (fun vs H Q E h => ?_) (fun cdv A outer s H vs Q E hr h => ?_)
  · obtain ⟨z0, rfl, q⟩ := h; rfl
  · refine ⟨rd_First_word, (pss_one (ps_ret (pe_str))), ?_⟩
    obtain ⟨z0, rfl, q⟩ := h
    exact First_word_rd tx q
theorem ok_Each_word {fd : FuncData} (F : Fun K "word" "Each.word" s_Each_word f_Each_word fd) : FnOk P w K mg base (G.CXe P w) 1 f_Each_word fd ["self"] (S_tell (.str "each")) := by
  have sc := sc_Each_word
  have tx : TxW K XQ := ⟨⟨T.cl_Cell, T.n_Cell_birth, T.n_Cell_bulk, T.n_Cell_tone, T.n_Cell_load, T.n_Cell_fields, T.cl_Heap, T.n_Heap_room, T.n_Heap_cells, T.n_Heap_used, T.n_Heap_born, T.eq_Cell⟩, T.cl_World, T.n_World_heap, T.n_World_kind, T.n_World_hands, T.n_World_names, T.n_World_sweeper, T.cl_Hand, T.n_Hand_name, T.n_Hand_slots, T.cl_Kind, T.n_Kind_looking, T.n_Kind_tells, T.cl_Sweeper, T.n_Sweeper_sense, T.n_Sweeper_phase, T.n_Sweeper_grey, T.n_Sweeper_looked, T.n_Sweeper_turn, T.n_Sweeper_at, T.n_Sweeper_stop, T.n_Sweeper_walks, T.n_Sweeper_looks, T.n_Sweeper_passes, T.n_Sweeper_loss⟩
  refine G.fok F sc (fun vs H Q E h => ?_) (fun cdv A outer s H vs Q E hr h => ?_)
  · obtain ⟨z0, rfl, q⟩ := h; rfl
  · refine ⟨rd_Each_word, (pss_one (ps_ret (pe_str))), ?_⟩
    obtain ⟨z0, rfl, q⟩ := h
    exact Each_word_rd tx q
theorem ok_Last_word {fd : FuncData} (F : Fun K "word" "Last.word" s_Last_word f_Last_word fd) : FnOk P w K mg base (G.CXe P w) 1 f_Last_word fd ["self"] (S_tell (.str "last")) := by
  have sc := sc_Last_word
  have tx : TxW K XQ := ⟨⟨T.cl_Cell, T.n_Cell_birth, T.n_Cell_bulk, T.n_Cell_tone, T.n_Cell_load, T.n_Cell_fields, T.cl_Heap, T.n_Heap_room, T.n_Heap_cells, T.n_Heap_used, T.n_Heap_born, T.eq_Cell⟩, T.cl_World, T.n_World_heap, T.n_World_kind, T.n_World_hands, T.n_World_names, T.n_World_sweeper, T.cl_Hand, T.n_Hand_name, T.n_Hand_slots, T.cl_Kind, T.n_Kind_looking, T.n_Kind_tells, T.cl_Sweeper, T.n_Sweeper_sense, T.n_Sweeper_phase, T.n_Sweeper_grey, T.n_Sweeper_looked, T.n_Sweeper_turn, T.n_Sweeper_at, T.n_Sweeper_stop, T.n_Sweeper_walks, T.n_Sweeper_looks, T.n_Sweeper_passes, T.n_Sweeper_loss⟩
  refine G.fok F sc (fun vs H Q E h => ?_) (fun cdv A outer s H vs Q E hr h => ?_)
  · obtain ⟨z0, rfl, q⟩ := h; rfl
  · refine ⟨rd_Last_word, (pss_one (ps_ret (pe_str))), ?_⟩
    obtain ⟨z0, rfl, q⟩ := h
    exact Last_word_rd tx q
theorem ok_Kind___init__ {fd : FuncData} (F : Fun K "__init__" "Kind.__init__" s_Kind___init__ f_Kind___init__ fd) : FnOk P w K mg base (G.CXe P w) 1 f_Kind___init__ fd ["self", "looking", "tells"] (S_Kind_init XQ.K) := by
  have sc := sc_Kind___init__
  have tx : TxW K XQ := ⟨⟨T.cl_Cell, T.n_Cell_birth, T.n_Cell_bulk, T.n_Cell_tone, T.n_Cell_load, T.n_Cell_fields, T.cl_Heap, T.n_Heap_room, T.n_Heap_cells, T.n_Heap_used, T.n_Heap_born, T.eq_Cell⟩, T.cl_World, T.n_World_heap, T.n_World_kind, T.n_World_hands, T.n_World_names, T.n_World_sweeper, T.cl_Hand, T.n_Hand_name, T.n_Hand_slots, T.cl_Kind, T.n_Kind_looking, T.n_Kind_tells, T.cl_Sweeper, T.n_Sweeper_sense, T.n_Sweeper_phase, T.n_Sweeper_grey, T.n_Sweeper_looked, T.n_Sweeper_turn, T.n_Sweeper_at, T.n_Sweeper_stop, T.n_Sweeper_walks, T.n_Sweeper_looks, T.n_Sweeper_passes, T.n_Sweeper_loss⟩
  refine G.fok F sc (fun vs H Q E h => ?_) (fun cdv A outer s H vs Q E hr h => ?_)
  · obtain ⟨z0, z1, z2, rfl, q⟩ := h; rfl
  · refine ⟨rd_Kind___init__ K, (pss_cons (ps_fld (pv 0) (pv 1) rfl)
      (pss_one (ps_fld (pv 0) (pv 2) rfl))), ?_⟩
    obtain ⟨z0, z1, z2, rfl, q⟩ := h
    exact Kind___init___rd tx q
theorem ok_Kind_words {fd : FuncData} (F : Fun K "words" "Kind.words" s_Kind_words f_Kind_words fd) {fd_Each_word : FuncData} (G_Each_word : FnOk P w K mg base (G.CXe P w) 1 f_Each_word fd_Each_word ["self"] (S_tell (.str "each"))) (b_Each_word : Binds K fd_Each_word ["self"] []) (k_Each_word : PySem.W.keepIn K (.ref f_Each_word) = true) {fd_First_word : FuncData} (G_First_word : FnOk P w K mg base (G.CXe P w) 1 f_First_word fd_First_word ["self"] (S_tell (.str "first"))) (b_First_word : Binds K fd_First_word ["self"] []) (k_First_word : PySem.W.keepIn K (.ref f_First_word) = true) {fd_Last_word : FuncData} (G_Last_word : FnOk P w K mg base (G.CXe P w) 1 f_Last_word fd_Last_word ["self"] (S_tell (.str "last"))) (b_Last_word : Binds K fd_Last_word ["self"] []) (k_Last_word : PySem.W.keepIn K (.ref f_Last_word) = true) : FnOk P w K mg base (G.CXe P w) 2 f_Kind_words fd ["self"] (S_words XQ) := by
  have sc := sc_Kind_words
  have tx : TxW K XQ := ⟨⟨T.cl_Cell, T.n_Cell_birth, T.n_Cell_bulk, T.n_Cell_tone, T.n_Cell_load, T.n_Cell_fields, T.cl_Heap, T.n_Heap_room, T.n_Heap_cells, T.n_Heap_used, T.n_Heap_born, T.eq_Cell⟩, T.cl_World, T.n_World_heap, T.n_World_kind, T.n_World_hands, T.n_World_names, T.n_World_sweeper, T.cl_Hand, T.n_Hand_name, T.n_Hand_slots, T.cl_Kind, T.n_Kind_looking, T.n_Kind_tells, T.cl_Sweeper, T.n_Sweeper_sense, T.n_Sweeper_phase, T.n_Sweeper_grey, T.n_Sweeper_looked, T.n_Sweeper_turn, T.n_Sweeper_at, T.n_Sweeper_stop, T.n_Sweeper_walks, T.n_Sweeper_looks, T.n_Sweeper_passes, T.n_Sweeper_loss⟩
  refine G.fok F sc (fun vs H Q E h => ?_) (fun cdv A outer s H vs Q E hr h => ?_)
  · obtain ⟨z0, rfl, q⟩ := h; rfl
  · refine ⟨rd_Kind_words K XQ.E XQ.F XQ.L (S_tell (.str "each")) (S_tell (.str "first")) (S_tell (.str "last")), (pss_cons (ps_set (i := 1) sc.nd rfl (Or.inl rfl) (G.pe_eith (pe_meth0 (pe_fld (pv 0) rfl) T.cl_First T.me_First_word G_First_word (hr.mono (by decide)) b_First_word .nil G.passE0) (G.pe_eith (pe_meth0 (pe_fld (pv 0) rfl) T.cl_Each T.me_Each_word G_Each_word (hr.mono (by decide)) b_Each_word .nil G.passE0) (pe_meth0 (pe_fld (pv 0) rfl) T.cl_Last T.me_Last_word G_Last_word (hr.mono (by decide)) b_Last_word .nil G.passE0))))
      (pss_cons (ps_if (pt_cmpR op_ne (pe_op op_and (pe_fld (pv 0) rfl) (T.g_OLD.pe rfl)) (pe_int) (nomark _)) (pss_one (ps_set (i := 1) sc.nd rfl (Or.inl rfl) (pe_op op_add_str (pv 1) (pe_str)))) pss_nil)
      (pss_cons (ps_if (pt_cmpR op_ne (pe_op op_and (pe_fld (pv 0) rfl) (T.g_NEW.pe rfl)) (pe_int) (nomark _)) (pss_one (ps_set (i := 1) sc.nd rfl (Or.inl rfl) (pe_op op_add_str (pv 1) (pe_str)))) pss_nil)
      (pss_one (ps_ret (pv 1)))))), ?_⟩
    obtain ⟨z0, rfl, q⟩ := h
    exact Kind_words_rd tx q
theorem ok_kind_of {fd : FuncData} (F : Fun K "kind_of" "kind_of" s_kind_of f_kind_of fd) {fd_Kind___init__ : FuncData} (G_Kind___init__ : FnOk P w K mg base (G.CXe P w) 1 f_Kind___init__ fd_Kind___init__ ["self", "looking", "tells"] (S_Kind_init XQ.K)) (b_Kind___init__ : Binds K fd_Kind___init__ ["self", "looking", "tells"] []) (k_Kind___init__ : PySem.W.keepIn K (.ref f_Kind___init__) = true) {fd_Kind_words : FuncData} (G_Kind_words : FnOk P w K mg base (G.CXe P w) 2 f_Kind_words fd_Kind_words ["self"] (S_words XQ)) (b_Kind_words : Binds K fd_Kind_words ["self"] []) (k_Kind_words : PySem.W.keepIn K (.ref f_Kind_words) = true) : FnOk P w K mg base (G.CXe P w) 3 f_kind_of fd ["text"] (S_kind_of XQ) := by
  have sc := sc_kind_of
  have tx : TxW K XQ := ⟨⟨T.cl_Cell, T.n_Cell_birth, T.n_Cell_bulk, T.n_Cell_tone, T.n_Cell_load, T.n_Cell_fields, T.cl_Heap, T.n_Heap_room, T.n_Heap_cells, T.n_Heap_used, T.n_Heap_born, T.eq_Cell⟩, T.cl_World, T.n_World_heap, T.n_World_kind, T.n_World_hands, T.n_World_names, T.n_World_sweeper, T.cl_Hand, T.n_Hand_name, T.n_Hand_slots, T.cl_Kind, T.n_Kind_looking, T.n_Kind_tells, T.cl_Sweeper, T.n_Sweeper_sense, T.n_Sweeper_phase, T.n_Sweeper_grey, T.n_Sweeper_looked, T.n_Sweeper_turn, T.n_Sweeper_at, T.n_Sweeper_stop, T.n_Sweeper_walks, T.n_Sweeper_looks, T.n_Sweeper_passes, T.n_Sweeper_loss⟩
  refine G.fok F sc (fun vs H Q E h => ?_) (fun cdv A outer s H vs Q E hr h => ?_)
  · obtain ⟨z0, rfl, q⟩ := h; rfl
  · refine ⟨rd_kind_of K XQ.E XQ.F XQ.K XQ.L (S_Kind_init XQ.K) (S_words XQ), (pss_cons (ps_for PassesOwn.never rfl (pi_list (pe_lst (pa_cons (G.pe_make00 T.mk0_First rfl T.m_First) (pa_cons (G.pe_make00 T.mk0_Each rfl T.m_Each) (pa_cons (G.pe_make00 T.mk0_Last rfl T.m_Last) pa_nil))))) (pg_name (i := 1) sc.nd rfl (Or.inl rfl))
      (pss_one (ps_for PassesOwn.never rfl (pi_range1 rfl T.z_range (pa_cons (pe_int) pa_nil)) (pg_name (i := 2) sc.nd rfl (Or.inl rfl))
      (pss_cons (ps_set (i := 3) sc.nd rfl (Or.inl rfl) (pe_make T.mk_Kind G_Kind___init__ (hr.mono (by decide)) rfl T.m_Kind b_Kind___init__ .nil G.passE0 (pa_cons (pv 1) (pa_cons (pv 2) pa_nil))))
      (pss_one (ps_if (pt_cmpR op_eq (pe_meth0 (pv 3) T.cl_Kind T.me_Kind_words G_Kind_words (hr.mono (by decide)) b_Kind_words .nil G.passE0) (pv 0) (nomark _)) (pss_one (ps_ret (pv 3))) pss_nil))))))
      (pss_one (ps_ret (pe_non)))), ?_⟩
    obtain ⟨z0, rfl, q⟩ := h
    exact kind_of_rd tx q
theorem ok__law_mix {fd : FuncData} (F : Fun K "_law_mix" "_law_mix" s__law_mix f__law_mix fd) : FnOk P w K mg base (G.CXe P w) 1 f__law_mix fd ["_law_cell", "_law_factor"] (S_mix) := by
  have sc := sc__law_mix
  have tx : TxW K XQ := ⟨⟨T.cl_Cell, T.n_Cell_birth, T.n_Cell_bulk, T.n_Cell_tone, T.n_Cell_load, T.n_Cell_fields, T.cl_Heap, T.n_Heap_room, T.n_Heap_cells, T.n_Heap_used, T.n_Heap_born, T.eq_Cell⟩, T.cl_World, T.n_World_heap, T.n_World_kind, T.n_World_hands, T.n_World_names, T.n_World_sweeper, T.cl_Hand, T.n_Hand_name, T.n_Hand_slots, T.cl_Kind, T.n_Kind_looking, T.n_Kind_tells, T.cl_Sweeper, T.n_Sweeper_sense, T.n_Sweeper_phase, T.n_Sweeper_grey, T.n_Sweeper_looked, T.n_Sweeper_turn, T.n_Sweeper_at, T.n_Sweeper_stop, T.n_Sweeper_walks, T.n_Sweeper_looks, T.n_Sweeper_passes, T.n_Sweeper_loss⟩
  refine G.fok F sc (fun vs H Q E h => ?_) (fun cdv A outer s H vs Q E hr h => ?_)
  · obtain ⟨z0, z1, rfl, q⟩ := h; rfl
  · refine ⟨rd__law_mix, (pss_cons (ps_set (i := 2) sc.nd rfl (Or.inl rfl) (pe_op op_mod (pe_op op_add (pe_op op_mul (pv 0) (pv 1)) (pe_int)) (pe_int)))
      (pss_one (ps_ret (pe_op op_fdiv (pe_op op_mod (pe_op op_mul (pv 2) (pv 2)) (pe_int)) (pe_int))))), ?_⟩
    obtain ⟨z0, z1, rfl, q⟩ := h
    exact _law_mix_rd q
theorem ok__law_cell_at {fd : FuncData} (F : Fun K "_law_cell_at" "_law_cell_at" s__law_cell_at f__law_cell_at fd) : FnOk P w K mg base (G.CXe P w) 1 f__law_cell_at fd ["_law_script", "_law_k"] (S_atB K) := by
  have sc := sc__law_cell_at
  have tx : TxW K XQ := ⟨⟨T.cl_Cell, T.n_Cell_birth, T.n_Cell_bulk, T.n_Cell_tone, T.n_Cell_load, T.n_Cell_fields, T.cl_Heap, T.n_Heap_room, T.n_Heap_cells, T.n_Heap_used, T.n_Heap_born, T.eq_Cell⟩, T.cl_World, T.n_World_heap, T.n_World_kind, T.n_World_hands, T.n_World_names, T.n_World_sweeper, T.cl_Hand, T.n_Hand_name, T.n_Hand_slots, T.cl_Kind, T.n_Kind_looking, T.n_Kind_tells, T.cl_Sweeper, T.n_Sweeper_sense, T.n_Sweeper_phase, T.n_Sweeper_grey, T.n_Sweeper_looked, T.n_Sweeper_turn, T.n_Sweeper_at, T.n_Sweeper_stop, T.n_Sweeper_walks, T.n_Sweeper_looks, T.n_Sweeper_passes, T.n_Sweeper_loss⟩
  refine G.fok F sc (fun vs H Q E h => ?_) (fun cdv A outer s H vs Q E hr h => ?_)
  · obtain ⟨z0, z1, rfl, q⟩ := h; rfl
  · refine ⟨rd__law_cell_at K, (pss_cons (ps_if (pt_cmpR op_lt (pv 1) (pe_callB G.call_lenL (by rfl) T.z_len G.boot_len (pa_cons (pv 0) pa_nil)) (nomark _)) (pss_one (ps_ret (pe_ix ix_list (pv 0) (pv 1) (fun _ _ => rfl)))) pss_nil)
      (pss_one (ps_ret (pe_int)))), ?_⟩
    obtain ⟨z0, z1, rfl, q⟩ := h
    exact _law_cell_at_rd q
theorem ok__law_names {fd : FuncData} (F : Fun K "_law_names" "_law_names" s__law_names f__law_names fd) {fd__law_mix : FuncData} (G__law_mix : FnOk P w K mg base (G.CXe P w) 1 f__law_mix fd__law_mix ["_law_cell", "_law_factor"] (S_mix)) (b__law_mix : Binds K fd__law_mix ["_law_cell", "_law_factor"] []) (k__law_mix : PySem.W.keepIn K (.ref f__law_mix) = true) : FnOk P w K mg base (G.CXe P w) 2 f__law_names fd ["_law_cell", "_law_many"] (S_names) := by
  have sc := sc__law_names
  have tx : TxW K XQ := ⟨⟨T.cl_Cell, T.n_Cell_birth, T.n_Cell_bulk, T.n_Cell_tone, T.n_Cell_load, T.n_Cell_fields, T.cl_Heap, T.n_Heap_room, T.n_Heap_cells, T.n_Heap_used, T.n_Heap_born, T.eq_Cell⟩, T.cl_World, T.n_World_heap, T.n_World_kind, T.n_World_hands, T.n_World_names, T.n_World_sweeper, T.cl_Hand, T.n_Hand_name, T.n_Hand_slots, T.cl_Kind, T.n_Kind_looking, T.n_Kind_tells, T.cl_Sweeper, T.n_Sweeper_sense, T.n_Sweeper_phase, T.n_Sweeper_grey, T.n_Sweeper_looked, T.n_Sweeper_turn, T.n_Sweeper_at, T.n_Sweeper_stop, T.n_Sweeper_walks, T.n_Sweeper_looks, T.n_Sweeper_passes, T.n_Sweeper_loss⟩
  refine G.fok F sc (fun vs H Q E h => ?_) (fun cdv A outer s H vs Q E hr h => ?_)
  · obtain ⟨z0, z1, rfl, q⟩ := h; rfl
  · refine ⟨rd__law_names K (S_mix), (pss_cons (ps_set (i := 2) sc.nd rfl (Or.inl rfl) (pe_str))
      (pss_cons (ps_set (i := 3) sc.nd rfl (Or.inl rfl) (pe_op op_add (pe_int) (pe_op op_mod (pe_call G__law_mix (hr.mono (by decide)) rfl T.m__law_mix k__law_mix b__law_mix .nil G.passE0 (pa_cons (pv 0) (pa_cons (pe_int) pa_nil))) (pe_int))))
      (pss_cons (ps_set (i := 4) sc.nd rfl (Or.inl rfl) (pe_str))
      (pss_cons (ps_for PassesOwn.never rfl (pi_range1 rfl T.z_range (pa_cons (pv 3) pa_nil)) (pg_name (i := 5) sc.nd rfl (Or.inl rfl))
      (pss_one (ps_set (i := 4) sc.nd rfl (Or.inl rfl) (pe_op op_add_str (pv 4) (pe_ix ix_str (pv 2) (pe_op op_mod (pe_call G__law_mix (hr.mono (by decide)) rfl T.m__law_mix k__law_mix b__law_mix .nil G.passE0 (pa_cons (pv 0) (pa_cons (pe_op op_add (pe_op op_mul (pv 5) (pv 5)) (pe_int)) pa_nil))) (pe_int)) (fun _ _ => rfl))))))
      (pss_cons (ps_set (i := 6) sc.nd rfl (Or.inl rfl) (pe_op op_mod (pe_call G__law_mix (hr.mono (by decide)) rfl T.m__law_mix k__law_mix b__law_mix .nil G.passE0 (pa_cons (pv 0) (pa_cons (pe_int) pa_nil))) (pv 3)))
      (pss_cons (ps_set (i := 7) sc.nd rfl (Or.inl rfl) (pe_op op_mod (pe_call G__law_mix (hr.mono (by decide)) rfl T.m__law_mix k__law_mix b__law_mix .nil G.passE0 (pa_cons (pv 0) (pa_cons (pe_int) pa_nil))) (pe_int)))
      (pss_cons (ps_set (i := 8) sc.nd rfl (Or.inl rfl) (pe_lst pa_nil))
      (pss_cons (ps_for PassesOwn.never rfl (pi_range1 rfl T.z_range (pa_cons (pv 1) pa_nil)) (pg_name (i := 5) sc.nd rfl (Or.inl rfl))
      (pss_cons (ps_set (i := 9) sc.nd rfl (Or.inl rfl) (pe_op op_add_str (pe_op op_add_str (pe_slice G.sl_str (pv 4) po_none (po_some (pv 6))) (pe_ix ix_str (pv 2) (pe_op op_mod (pe_op op_add (pv 7) (pv 5)) (pe_int)) (fun _ _ => rfl))) (pe_slice G.sl_str (pv 4) (po_some (pe_op op_add (pv 6) (pe_int))) po_none)))
      (pss_cons (ps_if (pt_cmpR op_eq (pv 9) (pe_str) (nomark _)) (pss_one (ps_set (i := 9) sc.nd rfl (Or.inl rfl) (pe_str))) pss_nil)
      (pss_one (ps_expr (pe_bm PySem.F.plainAttrs_list PySem.F.slot_list_append PySem.F.type_list_append mt_append (pv 8) (pa_cons (pv 9) pa_nil)))))))
      (pss_one (ps_ret (pv 8))))))))))), ?_⟩
    obtain ⟨z0, z1, rfl, q⟩ := h
    exact _law_names_rd q
theorem ok__law_same0 {fd : FuncData} (F : Fun K "_law_same" "_law_same" s__law_same f__law_same fd) (G__law_same : FnOk P w K mg base (G.CXe P w) 0 f__law_same fd ["_law_found_here", "_law_due_here"] (S_never)) (b__law_same : Binds K fd ["_law_found_here", "_law_due_here"] []) (k__law_same : PySem.W.keepIn K (.ref f__law_same) = true) : FnOk P w K mg base (G.CXe P w) 1 f__law_same fd ["_law_found_here", "_law_due_here"] (S_same 0) := by
  have sc := sc__law_same
  refine G.fok F sc (fun vs H Q E h => ?_) (fun cdv A outer s H vs Q E hr h => ?_)
  · obtain ⟨z0, z1, rfl, q⟩ := h; rfl
  · refine ⟨rd__law_same K (S_never), (pss_cons (ps_if (pt_cmpR G.op_isN_ (pv 1) (pe_non) (nomark _)) (pss_one (ps_ret (pe_cmpR G.op_isN_ (pv 0) (pe_non) (nomark _)))) pss_nil)
      (pss_cons (ps_if (pt_cmpR G.op_isB (pv 1) (pe_bl) (nomark _)) (pss_one (ps_ret (pe_cmpR G.op_isB (pv 0) (pe_bl) (nomark _)))) pss_nil)
      (pss_cons (ps_if (pt_cmpR G.op_isB (pv 1) (pe_bl) (nomark _)) (pss_one (ps_ret (pe_cmpR G.op_isB (pv 0) (pe_bl) (nomark _)))) pss_nil)
      (pss_cons (ps_if (pt_val (pe_callB G.call_isi (by rfl) T.z_isinstance G.boot_isinstance (pa_cons (pv 1) (pa_cons (pe_bltn rfl T.z_int G.boot_int rfl) pa_nil)))) (pss_one (ps_ret ((pe_and (pe_callB G.call_isi (by rfl) T.z_isinstance G.boot_isinstance (pa_cons (pv 0) (pa_cons (pe_bltn rfl T.z_int G.boot_int rfl) pa_nil))) (pe_and (pe_not (pe_callB G.call_isi (by rfl) T.z_isinstance G.boot_isinstance (pa_cons (pv 0) (pa_cons (pe_bltn rfl T.z_bool G.boot_bool rfl) pa_nil)))) (pe_one (pe_cmpR op_eq (pv 0) (pv 1) (nomark _)))))))) pss_nil)
      (pss_cons (ps_if (pt_val (pe_callB G.call_isi (by rfl) T.z_isinstance G.boot_isinstance (pa_cons (pv 1) (pa_cons (pe_bltn rfl T.z_str G.boot_str rfl) pa_nil)))) (pss_one (ps_ret ((pe_and (pe_callB G.call_isi (by rfl) T.z_isinstance G.boot_isinstance (pa_cons (pv 0) (pa_cons (pe_bltn rfl T.z_str G.boot_str rfl) pa_nil))) (pe_one (pe_cmpR op_eq (pv 0) (pv 1) (nomark _))))))) pss_nil)
      (pss_cons (ps_if (PW.pt (pw_and (pt_val (pe_callB G.call_isi (by rfl) T.z_isinstance G.boot_isinstance (pa_cons (pv 1) (pa_cons (pe_bltn rfl T.z_list G.boot_list rfl) pa_nil)))) (pw_and1 (pt_not (pt_val (pe_callB G.call_isi (by rfl) T.z_isinstance G.boot_isinstance (pa_cons (pv 0) (pa_cons (pe_bltn rfl T.z_list G.boot_list rfl) pa_nil)))))))) (pss_one (ps_ret (pe_bl))) pss_nil)
      (pss_cons (ps_if (PW.pt (pw_and (pt_val (pe_callB G.call_isi (by rfl) T.z_isinstance G.boot_isinstance (pa_cons (pv 1) (pa_cons (pe_bltn rfl T.z_tuple G.boot_tuple rfl) pa_nil)))) (pw_and1 (pt_not (pt_val (pe_callB G.call_isi (by rfl) T.z_isinstance G.boot_isinstance (pa_cons (pv 0) (pa_cons (pe_bltn rfl T.z_tuple G.boot_tuple rfl) pa_nil)))))))) (pss_one (ps_ret (pe_bl))) pss_nil)
      (pss_cons (ps_if (pt_cmpR op_ne (pe_callB G.call_lenL (by rfl) T.z_len G.boot_len (pa_cons (pv 0) pa_nil)) (pe_callB G.call_lenL (by rfl) T.z_len G.boot_len (pa_cons (pv 1) pa_nil)) (nomark _)) (pss_one (ps_ret (pe_bl))) pss_nil)
      (pss_cons (ps_for PassesOwn.never rfl (pi_range1 rfl T.z_range (pa_cons (pe_callB G.call_lenL (by rfl) T.z_len G.boot_len (pa_cons (pv 1) pa_nil)) pa_nil)) (pg_name (i := 2) sc.nd rfl (Or.inl rfl))
      (pss_one (ps_if (pt_not (pt_val (pe_call G__law_same (hr.mono (by omega)) rfl T.m__law_same k__law_same b__law_same .nil G.passE0 (pa_cons (pe_ix ix_seq (pv 0) (pv 2) (fun _ _ => rfl)) (pa_cons (pe_ix ix_seq (pv 1) (pv 2) (fun _ _ => rfl)) pa_nil))))) (pss_one (ps_ret (pe_bl))) pss_nil)))
      (pss_one (ps_ret (pe_bl)))))))))))), ?_⟩
    obtain ⟨z0, z1, rfl, q⟩ := h
    exact _law_same_rd0 q
theorem ok__law_same {d lv : Nat} (hlv : 0 ≤ lv) {fd : FuncData} (F : Fun K "_law_same" "_law_same" s__law_same f__law_same fd) (G__law_same : FnOk P w K mg base (G.CXe P w) lv f__law_same fd ["_law_found_here", "_law_due_here"] (S_same d)) (b__law_same : Binds K fd ["_law_found_here", "_law_due_here"] []) (k__law_same : PySem.W.keepIn K (.ref f__law_same) = true) : FnOk P w K mg base (G.CXe P w) (lv + 1) f__law_same fd ["_law_found_here", "_law_due_here"] (S_same (d + 1)) := by
  have sc := sc__law_same
  refine G.fok F sc (fun vs H Q E h => ?_) (fun cdv A outer s H vs Q E hr h => ?_)
  · obtain ⟨z0, z1, rfl, q⟩ := h; rfl
  · refine ⟨rd__law_same K (S_same d), (pss_cons (ps_if (pt_cmpR G.op_isN_ (pv 1) (pe_non) (nomark _)) (pss_one (ps_ret (pe_cmpR G.op_isN_ (pv 0) (pe_non) (nomark _)))) pss_nil)
      (pss_cons (ps_if (pt_cmpR G.op_isB (pv 1) (pe_bl) (nomark _)) (pss_one (ps_ret (pe_cmpR G.op_isB (pv 0) (pe_bl) (nomark _)))) pss_nil)
      (pss_cons (ps_if (pt_cmpR G.op_isB (pv 1) (pe_bl) (nomark _)) (pss_one (ps_ret (pe_cmpR G.op_isB (pv 0) (pe_bl) (nomark _)))) pss_nil)
      (pss_cons (ps_if (pt_val (pe_callB G.call_isi (by rfl) T.z_isinstance G.boot_isinstance (pa_cons (pv 1) (pa_cons (pe_bltn rfl T.z_int G.boot_int rfl) pa_nil)))) (pss_one (ps_ret ((pe_and (pe_callB G.call_isi (by rfl) T.z_isinstance G.boot_isinstance (pa_cons (pv 0) (pa_cons (pe_bltn rfl T.z_int G.boot_int rfl) pa_nil))) (pe_and (pe_not (pe_callB G.call_isi (by rfl) T.z_isinstance G.boot_isinstance (pa_cons (pv 0) (pa_cons (pe_bltn rfl T.z_bool G.boot_bool rfl) pa_nil)))) (pe_one (pe_cmpR op_eq (pv 0) (pv 1) (nomark _)))))))) pss_nil)
      (pss_cons (ps_if (pt_val (pe_callB G.call_isi (by rfl) T.z_isinstance G.boot_isinstance (pa_cons (pv 1) (pa_cons (pe_bltn rfl T.z_str G.boot_str rfl) pa_nil)))) (pss_one (ps_ret ((pe_and (pe_callB G.call_isi (by rfl) T.z_isinstance G.boot_isinstance (pa_cons (pv 0) (pa_cons (pe_bltn rfl T.z_str G.boot_str rfl) pa_nil))) (pe_one (pe_cmpR op_eq (pv 0) (pv 1) (nomark _))))))) pss_nil)
      (pss_cons (ps_if (PW.pt (pw_and (pt_val (pe_callB G.call_isi (by rfl) T.z_isinstance G.boot_isinstance (pa_cons (pv 1) (pa_cons (pe_bltn rfl T.z_list G.boot_list rfl) pa_nil)))) (pw_and1 (pt_not (pt_val (pe_callB G.call_isi (by rfl) T.z_isinstance G.boot_isinstance (pa_cons (pv 0) (pa_cons (pe_bltn rfl T.z_list G.boot_list rfl) pa_nil)))))))) (pss_one (ps_ret (pe_bl))) pss_nil)
      (pss_cons (ps_if (PW.pt (pw_and (pt_val (pe_callB G.call_isi (by rfl) T.z_isinstance G.boot_isinstance (pa_cons (pv 1) (pa_cons (pe_bltn rfl T.z_tuple G.boot_tuple rfl) pa_nil)))) (pw_and1 (pt_not (pt_val (pe_callB G.call_isi (by rfl) T.z_isinstance G.boot_isinstance (pa_cons (pv 0) (pa_cons (pe_bltn rfl T.z_tuple G.boot_tuple rfl) pa_nil)))))))) (pss_one (ps_ret (pe_bl))) pss_nil)
      (pss_cons (ps_if (pt_cmpR op_ne (pe_callB G.call_lenL (by rfl) T.z_len G.boot_len (pa_cons (pv 0) pa_nil)) (pe_callB G.call_lenL (by rfl) T.z_len G.boot_len (pa_cons (pv 1) pa_nil)) (nomark _)) (pss_one (ps_ret (pe_bl))) pss_nil)
      (pss_cons (ps_for PassesOwn.never rfl (pi_range1 rfl T.z_range (pa_cons (pe_callB G.call_lenL (by rfl) T.z_len G.boot_len (pa_cons (pv 1) pa_nil)) pa_nil)) (pg_name (i := 2) sc.nd rfl (Or.inl rfl))
      (pss_one (ps_if (pt_not (pt_val (pe_call G__law_same (hr.mono (by omega)) rfl T.m__law_same k__law_same b__law_same .nil G.passE0 (pa_cons (pe_ix ix_seq (pv 0) (pv 2) (fun _ _ => rfl)) (pa_cons (pe_ix ix_seq (pv 1) (pv 2) (fun _ _ => rfl)) pa_nil))))) (pss_one (ps_ret (pe_bl))) pss_nil)))
      (pss_one (ps_ret (pe_bl)))))))))))), ?_⟩
    obtain ⟨z0, z1, rfl, q⟩ := h
    exact _law_same_rd q
theorem ok__law_new {fd : FuncData} (F : Fun K "_law_new" "_law_new" s__law_new f__law_new fd) {fd__law_same : FuncData} (G__law_same : FnOk P w K mg base (G.CXe P w) 4 f__law_same fd__law_same ["_law_found_here", "_law_due_here"] (S_same 3)) (b__law_same : Binds K fd__law_same ["_law_found_here", "_law_due_here"] []) (k__law_same : PySem.W.keepIn K (.ref f__law_same) = true) {fd_held : FuncData} (G_held : FnOk P w K mg base (G.CXe P w) 1 f_held fd_held ["world"] (S_held XQ)) (b_held : Binds K fd_held ["world"] []) (k_held : PySem.W.keepIn K (.ref f_held) = true) : FnOk P w K mg base (G.CXe P w) 5 f__law_new fd ["_law_world", "_law_pairs", "_law_room"] (S_new XQ) := by
  have sc := sc__law_new
  have tx : TxW K XQ := ⟨⟨T.cl_Cell, T.n_Cell_birth, T.n_Cell_bulk, T.n_Cell_tone, T.n_Cell_load, T.n_Cell_fields, T.cl_Heap, T.n_Heap_room, T.n_Heap_cells, T.n_Heap_used, T.n_Heap_born, T.eq_Cell⟩, T.cl_World, T.n_World_heap, T.n_World_kind, T.n_World_hands, T.n_World_names, T.n_World_sweeper, T.cl_Hand, T.n_Hand_name, T.n_Hand_slots, T.cl_Kind, T.n_Kind_looking, T.n_Kind_tells, T.cl_Sweeper, T.n_Sweeper_sense, T.n_Sweeper_phase, T.n_Sweeper_grey, T.n_Sweeper_looked, T.n_Sweeper_turn, T.n_Sweeper_at, T.n_Sweeper_stop, T.n_Sweeper_walks, T.n_Sweeper_looks, T.n_Sweeper_passes, T.n_Sweeper_loss⟩
  refine G.fok F sc (fun vs H Q E h => ?_) (fun cdv A outer s H vs Q E hr h => ?_)
  · obtain ⟨z0, z1, z2, rfl, q⟩ := h; rfl
  · refine ⟨rd__law_new K (S_same 3) (S_held XQ), (pss_cons (ps_set (i := 3) sc.nd rfl (Or.inl rfl) (pe_fld (pv 0) rfl))
      (pss_cons (ps_set (i := 4) sc.nd rfl (Or.inl rfl) (pe_lst (pa_cons (pe_fld (pv 3) rfl) (pa_cons (pe_fld (pv 3) rfl) (pa_cons (pe_fld (pv 3) rfl) (pa_cons (pe_fld (pv 3) rfl) (pa_cons (pe_fld (pv 3) rfl) (pa_cons (pe_fld (pv 3) rfl) (pa_cons (pe_fld (pv 3) rfl) pa_nil)))))))))
      (pss_cons (ps_if (PW.pt (pw_or (pt_not (pt_val (pe_call G__law_same (hr.mono (by decide)) rfl T.m__law_same k__law_same b__law_same .nil G.passE0 (pa_cons (pv 4) (pa_cons (pe_lst (pa_cons (pe_int) (pa_cons (pe_str) (pa_cons (pe_lst pa_nil) (pa_cons (pe_int) (pa_cons (pe_int) (pa_cons (pe_int) (pa_cons (pe_int) pa_nil)))))))) pa_nil))))) (pw_or1 (pt_cmpR G.op_notN_ (pe_fld (pv 3) rfl) (pe_non) (nomark _))))) (pss_one (ps_ret (pe_bl))) pss_nil)
      (pss_cons (ps_if (pt_not (pt_val (pe_call G__law_same (hr.mono (by decide)) rfl T.m__law_same k__law_same b__law_same .nil G.passE0 (pa_cons (pe_lst (pa_cons (pe_fld (pv 3) rfl) (pa_cons (pe_fld (pv 3) rfl) (pa_cons (pe_fld (pv 3) rfl) pa_nil)))) (pa_cons (pe_lst (pa_cons (pe_int) (pa_cons (pe_int) (pa_cons (pe_int) pa_nil)))) pa_nil))))) (pss_one (ps_ret (pe_bl))) pss_nil)
      (pss_cons (ps_if (PW.pt (pw_or (pt_not (pt_val (pe_call G__law_same (hr.mono (by decide)) rfl T.m__law_same k__law_same b__law_same .nil G.passE0 (pa_cons (pe_lst (pa_cons (pe_fld (pe_fld (pv 0) rfl) rfl) (pa_cons (pe_fld (pe_fld (pv 0) rfl) rfl) (pa_cons (pe_fld (pe_fld (pv 0) rfl) rfl) pa_nil)))) (pa_cons (pe_lst (pa_cons (pv 2) (pa_cons (pe_int) (pa_cons (pe_int) pa_nil)))) pa_nil))))) (pw_or1 (pt_cmpR (G.op_neD0 (hu_of hr)) (pe_fld (pv 0) rfl) (pe_dnewK) (nomark _))))) (pss_one (ps_ret (pe_bl))) pss_nil)
      (pss_cons (ps_if (pt_not (pt_val (pe_call G__law_same (hr.mono (by decide)) rfl T.m__law_same k__law_same b__law_same .nil G.passE0 (pa_cons (G.pe_lc (cns := []) [] (pi_list (pe_fld (pv 0) rfl)) (fun _ _ _ _ _ => G.pf_nil) (fun _ _ _ _ _ => (pe_tup (pa_cons (pe_fld (pv 0) rfl) (pa_cons (pe_callB G.call_lenL (by rfl) T.z_len G.boot_len (pa_cons (pe_fld (pv 0) rfl) pa_nil)) pa_nil)))) rfl rfl (by repeat (first | exact trivial | refine ⟨rfl, ?_⟩)) (by repeat (first | exact trivial | refine ⟨rfl, ?_⟩)) rfl (by decide +kernel) rfl (by decide +kernel) (by decide +kernel) rfl (by decide +kernel)) (pa_cons (pv 1) pa_nil))))) (pss_one (ps_ret (pe_bl))) pss_nil)
      (pss_one (ps_ret (pe_call G__law_same (hr.mono (by decide)) rfl T.m__law_same k__law_same b__law_same .nil G.passE0 (pa_cons (pe_call G_held (hr.mono (by decide)) rfl T.m_held k_held b_held .nil G.passE0 (pa_cons (pv 0) pa_nil)) (pa_cons (G.pe_lc2 (cns := []) [] (pi_list (pv 1)) (fun _ _ _ _ _ => G.pf_nil) (fun _ _ _ _ _ => (pe_op op_rep (pe_lst (pa_cons (pe_non) pa_nil)) (pv 1))) rfl rfl (by repeat (first | exact trivial | refine ⟨rfl, ?_⟩)) (by repeat (first | exact trivial | refine ⟨rfl, ?_⟩)) rfl (by decide +kernel) rfl (by decide +kernel) (by decide +kernel) rfl rfl (by decide +kernel)) pa_nil))))))))))), ?_⟩
    obtain ⟨z0, z1, z2, rfl, q⟩ := h
    exact _law_new_rd tx q
theorem ok__law_birth {fd : FuncData} (F : Fun K "_law_birth" "_law_birth" s__law_birth f__law_birth fd) : FnOk P w K mg base (G.CXe P w) 1 f__law_birth fd ["_law_places", "_law_place"] (S_birthL) := by
  have sc := sc__law_birth
  have tx : TxW K XQ := ⟨⟨T.cl_Cell, T.n_Cell_birth, T.n_Cell_bulk, T.n_Cell_tone, T.n_Cell_load, T.n_Cell_fields, T.cl_Heap, T.n_Heap_room, T.n_Heap_cells, T.n_Heap_used, T.n_Heap_born, T.eq_Cell⟩, T.cl_World, T.n_World_heap, T.n_World_kind, T.n_World_hands, T.n_World_names, T.n_World_sweeper, T.cl_Hand, T.n_Hand_name, T.n_Hand_slots, T.cl_Kind, T.n_Kind_looking, T.n_Kind_tells, T.cl_Sweeper, T.n_Sweeper_sense, T.n_Sweeper_phase, T.n_Sweeper_grey, T.n_Sweeper_looked, T.n_Sweeper_turn, T.n_Sweeper_at, T.n_Sweeper_stop, T.n_Sweeper_walks, T.n_Sweeper_looks, T.n_Sweeper_passes, T.n_Sweeper_loss⟩
  refine G.fok F sc (fun vs H Q E h => ?_) (fun cdv A outer s H vs Q E hr h => ?_)
  · obtain ⟨z0, z1, rfl, q⟩ := h; rfl
  · refine ⟨rd__law_birth K, (pss_cons (ps_if (PW.pt (pw_or (pt_cmpR G.op_isN_ (pv 1) (pe_non) (nomark _)) (pw_or1 (pt_cmpR G.op_isN_ (pe_ix ix_list (pv 0) (pv 1) (fun _ _ => rfl)) (pe_non) (nomark _))))) (pss_one (ps_ret (pe_non))) pss_nil)
      (pss_one (ps_ret (pe_ix ix_list (pe_ix ix_list (pv 0) (pv 1) (fun _ _ => rfl)) (pe_int) (fun _ _ => rfl))))), ?_⟩
    obtain ⟨z0, z1, rfl, q⟩ := h
    exact _law_birth_rd q
theorem ok__law_births {fd : FuncData} (F : Fun K "_law_births" "_law_births" s__law_births f__law_births fd) {fd__law_birth : FuncData} (G__law_birth : FnOk P w K mg base (G.CXe P w) 1 f__law_birth fd__law_birth ["_law_places", "_law_place"] (S_birthL)) (b__law_birth : Binds K fd__law_birth ["_law_places", "_law_place"] []) (k__law_birth : PySem.W.keepIn K (.ref f__law_birth) = true) : FnOk P w K mg base (G.CXe P w) 2 f__law_births fd ["_law_places", "_law_row"] (S_birthsL) := by
  have sc := sc__law_births
  have tx : TxW K XQ := ⟨⟨T.cl_Cell, T.n_Cell_birth, T.n_Cell_bulk, T.n_Cell_tone, T.n_Cell_load, T.n_Cell_fields, T.cl_Heap, T.n_Heap_room, T.n_Heap_cells, T.n_Heap_used, T.n_Heap_born, T.eq_Cell⟩, T.cl_World, T.n_World_heap, T.n_World_kind, T.n_World_hands, T.n_World_names, T.n_World_sweeper, T.cl_Hand, T.n_Hand_name, T.n_Hand_slots, T.cl_Kind, T.n_Kind_looking, T.n_Kind_tells, T.cl_Sweeper, T.n_Sweeper_sense, T.n_Sweeper_phase, T.n_Sweeper_grey, T.n_Sweeper_looked, T.n_Sweeper_turn, T.n_Sweeper_at, T.n_Sweeper_stop, T.n_Sweeper_walks, T.n_Sweeper_looks, T.n_Sweeper_passes, T.n_Sweeper_loss⟩
  refine G.fok F sc (fun vs H Q E h => ?_) (fun cdv A outer s H vs Q E hr h => ?_)
  · obtain ⟨z0, z1, rfl, q⟩ := h; rfl
  · refine ⟨rd__law_births K (S_birthL), (pss_one (ps_ret (G.pe_lc (cns := ["_law_places"]) [0] (pi_list (pv 1)) (fun _ _ _ _ _ => G.pf_nil) (fun _ _ _ _ _ => (pe_call G__law_birth (hr.mono (by decide)) rfl T.m__law_birth k__law_birth b__law_birth .nil G.passE0 (pa_cons (pv 1) (pa_cons (pv 0) pa_nil)))) rfl rfl (by repeat (first | exact trivial | refine ⟨rfl, ?_⟩)) (by repeat (first | exact trivial | refine ⟨rfl, ?_⟩)) rfl (by decide +kernel) rfl (by decide +kernel) (by decide +kernel) rfl (by decide +kernel)))), ?_⟩
    obtain ⟨z0, z1, rfl, q⟩ := h
    exact _law_births_rd q
theorem ok__law_due {fd : FuncData} (F : Fun K "_law_due" "_law_due" s__law_due f__law_due fd) {fd__law_births : FuncData} (G__law_births : FnOk P w K mg base (G.CXe P w) 2 f__law_births fd__law_births ["_law_places", "_law_row"] (S_birthsL)) (b__law_births : Binds K fd__law_births ["_law_places", "_law_row"] []) (k__law_births : PySem.W.keepIn K (.ref f__law_births) = true) : FnOk P w K mg base (G.CXe P w) 3 f__law_due fd ["_law_places", "_law_rows", "_law_which"] (S_dueL) := by
  have sc := sc__law_due
  have tx : TxW K XQ := ⟨⟨T.cl_Cell, T.n_Cell_birth, T.n_Cell_bulk, T.n_Cell_tone, T.n_Cell_load, T.n_Cell_fields, T.cl_Heap, T.n_Heap_room, T.n_Heap_cells, T.n_Heap_used, T.n_Heap_born, T.eq_Cell⟩, T.cl_World, T.n_World_heap, T.n_World_kind, T.n_World_hands, T.n_World_names, T.n_World_sweeper, T.cl_Hand, T.n_Hand_name, T.n_Hand_slots, T.cl_Kind, T.n_Kind_looking, T.n_Kind_tells, T.cl_Sweeper, T.n_Sweeper_sense, T.n_Sweeper_phase, T.n_Sweeper_grey, T.n_Sweeper_looked, T.n_Sweeper_turn, T.n_Sweeper_at, T.n_Sweeper_stop, T.n_Sweeper_walks, T.n_Sweeper_looks, T.n_Sweeper_passes, T.n_Sweeper_loss⟩
  refine G.fok F sc (fun vs H Q E h => ?_) (fun cdv A outer s H vs Q E hr h => ?_)
  · obtain ⟨z0, z1, z2, rfl, q⟩ := h; rfl
  · refine ⟨rd__law_due K (S_birthsL), (pss_cons (ps_if (pt_cmpR op_eq (pv 2) (pe_int) (nomark _)) (pss_one (ps_ret (G.pe_lc (cns := []) [] (pi_list (pv 1)) (fun _ _ _ _ _ => G.pf_nil) (fun _ _ _ _ _ => (pe_callTy G.call_listL (by rfl) T.z_list G.boot_list (pa_cons (pv 0) pa_nil))) rfl rfl (by repeat (first | exact trivial | refine ⟨rfl, ?_⟩)) (by repeat (first | exact trivial | refine ⟨rfl, ?_⟩)) rfl (by decide +kernel) rfl (by decide +kernel) (by decide +kernel) rfl (by decide +kernel)))) pss_nil)
      (pss_cons (ps_if (pt_cmpR op_eq (pv 2) (pe_int) (nomark _)) (pss_one (ps_ret (G.pe_lc (cns := ["_law_places"]) [0] (pi_list (pv 1)) (fun _ _ _ _ _ => G.pf_nil) (fun _ _ _ _ _ => (pe_call G__law_births (hr.mono (by decide)) rfl T.m__law_births k__law_births b__law_births .nil G.passE0 (pa_cons (pv 1) (pa_cons (pv 0) pa_nil)))) rfl rfl (by repeat (first | exact trivial | refine ⟨rfl, ?_⟩)) (by repeat (first | exact trivial | refine ⟨rfl, ?_⟩)) rfl (by decide +kernel) rfl (by decide +kernel) (by decide +kernel) rfl (by decide +kernel)))) pss_nil)
      (pss_cons (ps_set (i := 3) sc.nd rfl (Or.inl rfl) (pe_lst pa_nil))
      (pss_cons (ps_for PassesOwn.never rfl (pi_range1 rfl T.z_range (pa_cons (pe_callB G.call_lenL (by rfl) T.z_len G.boot_len (pa_cons (pv 0) pa_nil)) pa_nil)) (pg_name (i := 4) sc.nd rfl (Or.inl rfl))
      (pss_one (ps_if (pt_cmpR G.op_notN_ (pe_ix ix_list (pv 0) (pv 4) (fun _ _ => rfl)) (pe_non) (nomark _)) (pss_cons (ps_set (i := 5) sc.nd rfl (Or.inl rfl) (pe_ix ix_list (pv 0) (pv 4) (fun _ _ => rfl)))
      (pss_one (ps_expr (pe_bm PySem.F.plainAttrs_list PySem.F.slot_list_append PySem.F.type_list_append mt_append (pv 3) (pa_cons (pe_tup (pa_cons (pv 4) (pa_cons (pe_ix ix_list (pv 5) (pe_int) (fun _ _ => rfl)) (pa_cons (pe_ix ix_list (pv 5) (pe_int) (fun _ _ => rfl)) (pa_cons (pe_int) (pa_cons (pe_call G__law_births (hr.mono (by decide)) rfl T.m__law_births k__law_births b__law_births .nil G.passE0 (pa_cons (pv 0) (pa_cons (pe_ix ix_list (pv 5) (pe_int) (fun _ _ => rfl)) pa_nil))) (pa_cons (pe_str) pa_nil))))))) pa_nil))))) pss_nil)))
      (pss_one (ps_ret (pv 3))))))), ?_⟩
    obtain ⟨z0, z1, z2, rfl, q⟩ := h
    exact _law_due_rd q
theorem ok__law_found {fd : FuncData} (F : Fun K "_law_found" "_law_found" s__law_found f__law_found fd) {fd_births_held : FuncData} (G_births_held : FnOk P w K mg base (G.CXe P w) 4 f_births_held fd_births_held ["world"] (S_births XQ)) (b_births_held : Binds K fd_births_held ["world"] []) (k_births_held : PySem.W.keepIn K (.ref f_births_held) = true) {fd_held : FuncData} (G_held : FnOk P w K mg base (G.CXe P w) 1 f_held fd_held ["world"] (S_held XQ)) (b_held : Binds K fd_held ["world"] []) (k_held : PySem.W.keepIn K (.ref f_held) = true) {fd_told_cells : FuncData} (G_told_cells : FnOk P w K mg base (G.CXe P w) 5 f_told_cells fd_told_cells ["world"] (S_told XQ)) (b_told_cells : Binds K fd_told_cells ["world"] []) (k_told_cells : PySem.W.keepIn K (.ref f_told_cells) = true) : FnOk P w K mg base (G.CXe P w) 6 f__law_found fd ["_law_world", "_law_which"] (S_foundL XQ) := by
  have sc := sc__law_found
  have tx : TxW K XQ := ⟨⟨T.cl_Cell, T.n_Cell_birth, T.n_Cell_bulk, T.n_Cell_tone, T.n_Cell_load, T.n_Cell_fields, T.cl_Heap, T.n_Heap_room, T.n_Heap_cells, T.n_Heap_used, T.n_Heap_born, T.eq_Cell⟩, T.cl_World, T.n_World_heap, T.n_World_kind, T.n_World_hands, T.n_World_names, T.n_World_sweeper, T.cl_Hand, T.n_Hand_name, T.n_Hand_slots, T.cl_Kind, T.n_Kind_looking, T.n_Kind_tells, T.cl_Sweeper, T.n_Sweeper_sense, T.n_Sweeper_phase, T.n_Sweeper_grey, T.n_Sweeper_looked, T.n_Sweeper_turn, T.n_Sweeper_at, T.n_Sweeper_stop, T.n_Sweeper_walks, T.n_Sweeper_looks, T.n_Sweeper_passes, T.n_Sweeper_loss⟩
  refine G.fok F sc (fun vs H Q E h => ?_) (fun cdv A outer s H vs Q E hr h => ?_)
  · obtain ⟨z0, z1, rfl, q⟩ := h; rfl
  · refine ⟨rd__law_found (S_births XQ) (S_held XQ) (S_told XQ), (pss_cons (ps_if (pt_cmpR op_eq (pv 1) (pe_int) (nomark _)) (pss_one (ps_ret (pe_call G_held (hr.mono (by decide)) rfl T.m_held k_held b_held .nil G.passE0 (pa_cons (pv 0) pa_nil)))) pss_nil)
      (pss_cons (ps_if (pt_cmpR op_eq (pv 1) (pe_int) (nomark _)) (pss_one (ps_ret (pe_call G_births_held (hr.mono (by decide)) rfl T.m_births_held k_births_held b_births_held .nil G.passE0 (pa_cons (pv 0) pa_nil)))) pss_nil)
      (pss_one (ps_ret (pe_call G_told_cells (hr.mono (by decide)) rfl T.m_told_cells k_told_cells b_told_cells .nil G.passE0 (pa_cons (pv 0) pa_nil)))))), ?_⟩
    obtain ⟨z0, z1, rfl, q⟩ := h
    exact _law_found_rd q
theorem ok__law_lies {fd : FuncData} (F : Fun K "_law_lies" "_law_lies" s__law_lies f__law_lies fd) : FnOk P w K mg base (G.CXe P w) 1 f__law_lies fd ["_law_places", "_law_cell"] (S_liesL) := by
  have sc := sc__law_lies
  have tx : TxW K XQ := ⟨⟨T.cl_Cell, T.n_Cell_birth, T.n_Cell_bulk, T.n_Cell_tone, T.n_Cell_load, T.n_Cell_fields, T.cl_Heap, T.n_Heap_room, T.n_Heap_cells, T.n_Heap_used, T.n_Heap_born, T.eq_Cell⟩, T.cl_World, T.n_World_heap, T.n_World_kind, T.n_World_hands, T.n_World_names, T.n_World_sweeper, T.cl_Hand, T.n_Hand_name, T.n_Hand_slots, T.cl_Kind, T.n_Kind_looking, T.n_Kind_tells, T.cl_Sweeper, T.n_Sweeper_sense, T.n_Sweeper_phase, T.n_Sweeper_grey, T.n_Sweeper_looked, T.n_Sweeper_turn, T.n_Sweeper_at, T.n_Sweeper_stop, T.n_Sweeper_walks, T.n_Sweeper_looks, T.n_Sweeper_passes, T.n_Sweeper_loss⟩
  refine G.fok F sc (fun vs H Q E h => ?_) (fun cdv A outer s H vs Q E hr h => ?_)
  · obtain ⟨z0, z1, rfl, q⟩ := h; rfl
  · refine ⟨rd__law_lies K, (pss_cons (G.ps_lcset (iz := 2) (cns := ["_law_places"]) [0] (pi_range1 rfl T.z_range (pa_cons (pe_callB G.call_lenL (by rfl) T.z_len G.boot_len (pa_cons (pv 0) pa_nil)) pa_nil)) (fun _ _ _ _ _ => (G.pf_one (pt_cmpR G.op_notN_ (pe_ix ix_list (pv 1) (pv 0) (fun _ _ => rfl)) (pe_non) (nomark _)))) (fun _ _ _ _ _ => (pv 0)) rfl rfl (by repeat (first | exact trivial | refine ⟨rfl, ?_⟩)) (by repeat (first | exact trivial | refine ⟨rfl, ?_⟩)) rfl (by decide +kernel) rfl (by decide +kernel) (by decide +kernel) rfl (by decide +kernel) sc.nd rfl (Or.inl rfl) (Or.inr rfl) rfl)
      (pss_cons (ps_if (pt_cmpR (G.op_eqL (hu_of hr)) (pv 2) (pe_lst pa_nil) (nomark _)) (pss_one (ps_ret (pe_non))) pss_nil)
      (pss_one (ps_ret (pe_ix ix_list (pv 2) (pe_op op_mod (pv 1) (pe_callB G.call_lenL (by rfl) T.z_len G.boot_len (pa_cons (pv 2) pa_nil))) (fun _ _ => rfl)))))), ?_⟩
    obtain ⟨z0, z1, rfl, q⟩ := h
    exact _law_lies_rd q
theorem ok__law_least {fd : FuncData} (F : Fun K "_law_least" "_law_least" s__law_least f__law_least fd) : FnOk P w K mg base (G.CXe P w) 1 f__law_least fd ["_law_places"] (S_leastL) := by
  have sc := sc__law_least
  have tx : TxW K XQ := ⟨⟨T.cl_Cell, T.n_Cell_birth, T.n_Cell_bulk, T.n_Cell_tone, T.n_Cell_load, T.n_Cell_fields, T.cl_Heap, T.n_Heap_room, T.n_Heap_cells, T.n_Heap_used, T.n_Heap_born, T.eq_Cell⟩, T.cl_World, T.n_World_heap, T.n_World_kind, T.n_World_hands, T.n_World_names, T.n_World_sweeper, T.cl_Hand, T.n_Hand_name, T.n_Hand_slots, T.cl_Kind, T.n_Kind_looking, T.n_Kind_tells, T.cl_Sweeper, T.n_Sweeper_sense, T.n_Sweeper_phase, T.n_Sweeper_grey, T.n_Sweeper_looked, T.n_Sweeper_turn, T.n_Sweeper_at, T.n_Sweeper_stop, T.n_Sweeper_walks, T.n_Sweeper_looks, T.n_Sweeper_passes, T.n_Sweeper_loss⟩
  refine G.fok F sc (fun vs H Q E h => ?_) (fun cdv A outer s H vs Q E hr h => ?_)
  · obtain ⟨z0, rfl, q⟩ := h; rfl
  · refine ⟨rd__law_least K, (pss_cons (ps_for PassesOwn.never rfl (pi_range1 rfl T.z_range (pa_cons (pe_callB G.call_lenL (by rfl) T.z_len G.boot_len (pa_cons (pv 0) pa_nil)) pa_nil)) (pg_name (i := 1) sc.nd rfl (Or.inl rfl))
      (pss_one (ps_if (pt_cmpR G.op_isN_ (pe_ix ix_list (pv 0) (pv 1) (fun _ _ => rfl)) (pe_non) (nomark _)) (pss_one (ps_ret (pv 1))) pss_nil)))
      (pss_cons (ps_expr (pe_bm PySem.F.plainAttrs_list PySem.F.slot_list_append PySem.F.type_list_append mt_append (pv 0) (pa_cons (pe_non) pa_nil)))
      (pss_one (ps_ret (pe_op op_sub (pe_callB G.call_lenL (by rfl) T.z_len G.boot_len (pa_cons (pv 0) pa_nil)) (pe_int)))))), ?_⟩
    obtain ⟨z0, rfl, q⟩ := h
    exact _law_least_rd q
theorem ok__law_made {fd : FuncData} (F : Fun K "_law_made" "_law_made" s__law_made f__law_made fd) {fd_Heap_make : FuncData} (G_Heap_make : FnOk P w K mg base (G.CXe P w) 3 f_Heap_make fd_Heap_make ["self", "many", "bulk", "tone"] (S_Heap_make K XQ.C XQ.H C_Full)) (b_Heap_make : Binds K fd_Heap_make ["self", "many", "bulk", "tone"] []) (k_Heap_make : PySem.W.keepIn K (.ref f_Heap_make) = true) {fd__law_least : FuncData} (G__law_least : FnOk P w K mg base (G.CXe P w) 1 f__law_least fd__law_least ["_law_places"] (S_leastL)) (b__law_least : Binds K fd__law_least ["_law_places"] []) (k__law_least : PySem.W.keepIn K (.ref f__law_least) = true) {fd__law_same : FuncData} (G__law_same : FnOk P w K mg base (G.CXe P w) 4 f__law_same fd__law_same ["_law_found_here", "_law_due_here"] (S_same 3)) (b__law_same : Binds K fd__law_same ["_law_found_here", "_law_due_here"] []) (k__law_same : PySem.W.keepIn K (.ref f__law_same) = true) {ds_Heap_make_1 : List Value} (bd_Heap_make_1 : Binds K fd_Heap_make ["self", "many", "bulk", "tone"] ds_Heap_make_1) (hd_Heap_make_1 : Vals [(.int 0)] ds_Heap_make_1) : FnOk P w K mg base (G.CXe P w) 5 f__law_made fd ["_law_world", "_law_places", "_law_state", "_law_many", "_law_bulk"] (S_madeL XQ) := by
  have sc := sc__law_made
  have tx : TxW K XQ := ⟨⟨T.cl_Cell, T.n_Cell_birth, T.n_Cell_bulk, T.n_Cell_tone, T.n_Cell_load, T.n_Cell_fields, T.cl_Heap, T.n_Heap_room, T.n_Heap_cells, T.n_Heap_used, T.n_Heap_born, T.eq_Cell⟩, T.cl_World, T.n_World_heap, T.n_World_kind, T.n_World_hands, T.n_World_names, T.n_World_sweeper, T.cl_Hand, T.n_Hand_name, T.n_Hand_slots, T.cl_Kind, T.n_Kind_looking, T.n_Kind_tells, T.cl_Sweeper, T.n_Sweeper_sense, T.n_Sweeper_phase, T.n_Sweeper_grey, T.n_Sweeper_looked, T.n_Sweeper_turn, T.n_Sweeper_at, T.n_Sweeper_stop, T.n_Sweeper_walks, T.n_Sweeper_looks, T.n_Sweeper_passes, T.n_Sweeper_loss⟩
  refine G.fok F sc (fun vs H Q E h => ?_) (fun cdv A outer s H vs Q E hr h => ?_)
  · obtain ⟨z0, z1, z2, z3, z4, rfl, q⟩ := h; rfl
  · refine ⟨rd__law_made K C_Full XQ.H (S_Heap_make K XQ.C XQ.H C_Full) (S_leastL) (S_same 3), (pss_cons (ps_set (i := 5) sc.nd rfl (Or.inl rfl) (pe_bl))
      (pss_cons (ps_set (i := 6) sc.nd rfl (Or.inl rfl) (pe_non))
      (pss_cons (G.ps_try ⟨rfl, rfl⟩ rfl T.m_Full (fun cls h => by rcases h with rfl <;> first | exact T.e_Full_Full) (fun Ex pn xe hx => (pss_one (ps_set (i := 6) sc.nd rfl (Or.inl rfl) (G.pe_methX (pe_fld (pv 0) rfl) T.cl_Heap T.me_Heap_make G_Heap_make (hr.mono (by decide)) bd_Heap_make_1 hd_Heap_make_1 hx (pa_cons (pv 3) (pa_cons (pv 4) pa_nil)))))) (fun ea pn => (pss_one (ps_set (i := 5) sc.nd rfl (Or.inl rfl) (pe_bl)))))
      (pss_cons (ps_if (pt_cmpR op_gt (pe_op op_add (pe_op op_add (pe_op op_add (pe_ix ix_list (pv 2) (pe_int) (fun _ _ => rfl)) (pe_int)) (pv 3)) (pv 4)) (pe_ix ix_list (pv 2) (pe_int) (fun _ _ => rfl)) (nomark _)) (pss_one (ps_ret (pv 5))) pss_nil)
      (pss_cons (ps_set (i := 7) sc.nd rfl (Or.inl rfl) (pe_call G__law_least (hr.mono (by decide)) rfl T.m__law_least k__law_least b__law_least .nil G.passE0 (pa_cons (pv 1) pa_nil)))
      (pss_cons (ps_asg (pe_op op_add (pe_op op_add (pe_op op_add (pe_ix ix_list (pv 2) (pe_int) (fun _ _ => rfl)) (pe_int)) (pv 3)) (pv 4)) (pg_sub (pv 2) (pe_int) set_list))
      (pss_cons (ps_asg (pe_op op_add (pe_ix ix_list (pv 2) (pe_int) (fun _ _ => rfl)) (pe_int)) (pg_sub (pv 2) (pe_int) set_list))
      (pss_cons (ps_asg (pe_lst (pa_cons (pe_ix ix_list (pv 2) (pe_int) (fun _ _ => rfl)) (pa_cons (pv 4) (pa_cons (pe_op op_rep (pe_lst (pa_cons (pe_non) pa_nil)) (pv 3)) pa_nil)))) (pg_sub (pv 1) (pv 7) set_list))
      (pss_one (ps_ret ((pe_and (pe_not (pv 5)) (pe_one (pe_call G__law_same (hr.mono (by decide)) rfl T.m__law_same k__law_same b__law_same .nil G.passE0 (pa_cons (pv 6) (pa_cons (pv 7) pa_nil)))))))))))))))), ?_⟩
    obtain ⟨z0, z1, z2, z3, z4, rfl, q⟩ := h
    exact _law_made_rd tx q
theorem ok__law_back {fd : FuncData} (F : Fun K "_law_back" "_law_back" s__law_back f__law_back fd) {fd_Heap_back : FuncData} (G_Heap_back : FnOk P w K mg base (G.CXe P w) 2 f_Heap_back fd_Heap_back ["self", "place"] (S_Heap_back XQ.C XQ.H)) (b_Heap_back : Binds K fd_Heap_back ["self", "place"] []) (k_Heap_back : PySem.W.keepIn K (.ref f_Heap_back) = true) {fd__law_same : FuncData} (G__law_same : FnOk P w K mg base (G.CXe P w) 4 f__law_same fd__law_same ["_law_found_here", "_law_due_here"] (S_same 3)) (b__law_same : Binds K fd__law_same ["_law_found_here", "_law_due_here"] []) (k__law_same : PySem.W.keepIn K (.ref f__law_same) = true) : FnOk P w K mg base (G.CXe P w) 5 f__law_back fd ["_law_world", "_law_places", "_law_state", "_law_place"] (S_backL XQ) := by
  have sc := sc__law_back
  have tx : TxW K XQ := ⟨⟨T.cl_Cell, T.n_Cell_birth, T.n_Cell_bulk, T.n_Cell_tone, T.n_Cell_load, T.n_Cell_fields, T.cl_Heap, T.n_Heap_room, T.n_Heap_cells, T.n_Heap_used, T.n_Heap_born, T.eq_Cell⟩, T.cl_World, T.n_World_heap, T.n_World_kind, T.n_World_hands, T.n_World_names, T.n_World_sweeper, T.cl_Hand, T.n_Hand_name, T.n_Hand_slots, T.cl_Kind, T.n_Kind_looking, T.n_Kind_tells, T.cl_Sweeper, T.n_Sweeper_sense, T.n_Sweeper_phase, T.n_Sweeper_grey, T.n_Sweeper_looked, T.n_Sweeper_turn, T.n_Sweeper_at, T.n_Sweeper_stop, T.n_Sweeper_walks, T.n_Sweeper_looks, T.n_Sweeper_passes, T.n_Sweeper_loss⟩
  refine G.fok F sc (fun vs H Q E h => ?_) (fun cdv A outer s H vs Q E hr h => ?_)
  · obtain ⟨z0, z1, z2, z3, rfl, q⟩ := h; rfl
  · refine ⟨rd__law_back K XQ.H (S_Heap_back XQ.C XQ.H) (S_same 3), (pss_cons (ps_set (i := 4) sc.nd rfl (Or.inl rfl) (pe_ix ix_list (pv 1) (pv 3) (fun _ _ => rfl)))
      (pss_cons (ps_asg (pe_op op_sub (pe_op op_sub (pe_op op_sub (pe_ix ix_list (pv 2) (pe_int) (fun _ _ => rfl)) (pe_int)) (pe_callB G.call_lenL (by rfl) T.z_len G.boot_len (pa_cons (pe_ix ix_list (pv 4) (pe_int) (fun _ _ => rfl)) pa_nil))) (pe_ix ix_list (pv 4) (pe_int) (fun _ _ => rfl))) (pg_sub (pv 2) (pe_int) set_list))
      (pss_cons (ps_asg (pe_non) (pg_sub (pv 1) (pv 3) set_list))
      (pss_one (ps_ret (pe_call G__law_same (hr.mono (by decide)) rfl T.m__law_same k__law_same b__law_same .nil G.passE0 (pa_cons (pe_meth (pe_fld (pv 0) rfl) T.cl_Heap T.me_Heap_back G_Heap_back (hr.mono (by decide)) b_Heap_back .nil G.passE0 (pa_cons (pv 3) pa_nil)) (pa_cons (pe_ix ix_list (pv 4) (pe_int) (fun _ _ => rfl)) pa_nil)))))))), ?_⟩
    obtain ⟨z0, z1, z2, z3, rfl, q⟩ := h
    exact _law_back_rd tx q
theorem ok__law_turn {fd : FuncData} (F : Fun K "_law_turn" "_law_turn" s__law_turn f__law_turn fd) {fd__law_back : FuncData} (G__law_back : FnOk P w K mg base (G.CXe P w) 5 f__law_back fd__law_back ["_law_world", "_law_places", "_law_state", "_law_place"] (S_backL XQ)) (b__law_back : Binds K fd__law_back ["_law_world", "_law_places", "_law_state", "_law_place"] []) (k__law_back : PySem.W.keepIn K (.ref f__law_back) = true) {fd__law_lies : FuncData} (G__law_lies : FnOk P w K mg base (G.CXe P w) 1 f__law_lies fd__law_lies ["_law_places", "_law_cell"] (S_liesL)) (b__law_lies : Binds K fd__law_lies ["_law_places", "_law_cell"] []) (k__law_lies : PySem.W.keepIn K (.ref f__law_lies) = true) {fd__law_made : FuncData} (G__law_made : FnOk P w K mg base (G.CXe P w) 5 f__law_made fd__law_made ["_law_world", "_law_places", "_law_state", "_law_many", "_law_bulk"] (S_madeL XQ)) (b__law_made : Binds K fd__law_made ["_law_world", "_law_places", "_law_state", "_law_many", "_law_bulk"] []) (k__law_made : PySem.W.keepIn K (.ref f__law_made) = true) {fd__law_mix : FuncData} (G__law_mix : FnOk P w K mg base (G.CXe P w) 1 f__law_mix fd__law_mix ["_law_cell", "_law_factor"] (S_mix)) (b__law_mix : Binds K fd__law_mix ["_law_cell", "_law_factor"] []) (k__law_mix : PySem.W.keepIn K (.ref f__law_mix) = true) : FnOk P w K mg base (G.CXe P w) 6 f__law_turn fd ["_law_world", "_law_places", "_law_rows", "_law_state", "_law_cell"] (S_turn XQ) := by
  have sc := sc__law_turn
  have tx : TxW K XQ := ⟨⟨T.cl_Cell, T.n_Cell_birth, T.n_Cell_bulk, T.n_Cell_tone, T.n_Cell_load, T.n_Cell_fields, T.cl_Heap, T.n_Heap_room, T.n_Heap_cells, T.n_Heap_used, T.n_Heap_born, T.eq_Cell⟩, T.cl_World, T.n_World_heap, T.n_World_kind, T.n_World_hands, T.n_World_names, T.n_World_sweeper, T.cl_Hand, T.n_Hand_name, T.n_Hand_slots, T.cl_Kind, T.n_Kind_looking, T.n_Kind_tells, T.cl_Sweeper, T.n_Sweeper_sense, T.n_Sweeper_phase, T.n_Sweeper_grey, T.n_Sweeper_looked, T.n_Sweeper_turn, T.n_Sweeper_at, T.n_Sweeper_stop, T.n_Sweeper_walks, T.n_Sweeper_looks, T.n_Sweeper_passes, T.n_Sweeper_loss⟩
  refine G.fok F sc (fun vs H Q E h => ?_) (fun cdv A outer s H vs Q E hr h => ?_)
  · obtain ⟨z0, z1, z2, z3, z4, rfl, q⟩ := h; rfl
  · refine ⟨rd__law_turn K (S_backL XQ) (S_liesL) (S_madeL XQ) (S_mix), (pss_cons (ps_set (i := 5) sc.nd rfl (Or.inl rfl) (pe_call G__law_mix (hr.mono (by decide)) rfl T.m__law_mix k__law_mix b__law_mix .nil G.passE0 (pa_cons (pv 4) (pa_cons (pe_int) pa_nil))))
      (pss_cons (ps_set (i := 6) sc.nd rfl (Or.inl rfl) (pe_call G__law_mix (hr.mono (by decide)) rfl T.m__law_mix k__law_mix b__law_mix .nil G.passE0 (pa_cons (pv 4) (pa_cons (pe_int) pa_nil))))
      (pss_cons (ps_if (pt_cmpR op_lt (pe_op op_mod (pv 5) (pe_int)) (pe_int) (nomark _)) (pss_cons (ps_set (i := 7) sc.nd rfl (Or.inl rfl) (pe_op op_mod (pe_op op_fdiv (pv 6) (pe_int)) (pe_int)))
      (pss_cons (ps_if (pt_cmpR op_eq (pe_op op_mod (pv 6) (pe_int)) (pe_int) (nomark _)) (pss_one (ps_set (i := 7) sc.nd rfl (Or.inl rfl) (pe_op op_mod (pe_op op_mod (pe_op G.op_mulW (pv 4) (pe_int)) (pe_int)) (pe_op op_add (pe_op op_pow (pe_int) (pe_int)) (pe_int))))) pss_nil)
      (pss_one (ps_ret (pe_call G__law_made (hr.mono (by decide)) rfl T.m__law_made k__law_made b__law_made .nil G.passE0 (pa_cons (pv 0) (pa_cons (pv 1) (pa_cons (pv 3) (pa_cons (pe_op op_mod (pv 6) (pe_int)) (pa_cons (pv 7) pa_nil)))))))))) pss_nil)
      (pss_cons (ps_set (i := 8) sc.nd rfl (Or.inl rfl) (pe_non))
      (pss_cons (ps_if (PW.pt (pw_and (pt_cmpR op_gt (pe_callB G.call_lenL (by rfl) T.z_len G.boot_len (pa_cons (pv 1) pa_nil)) (pe_int) (nomark _)) (pw_and1 (pt_cmpR op_gt (pe_op op_mod (pv 6) (pe_int)) (pe_int) (nomark _))))) (pss_one (ps_set (i := 8) sc.nd rfl (Or.inl rfl) (pe_op op_mod (pe_op op_fdiv (pv 6) (pe_int)) (pe_callB G.call_lenL (by rfl) T.z_len G.boot_len (pa_cons (pv 1) pa_nil))))) pss_nil)
      (pss_cons (ps_set (i := 9) sc.nd rfl (Or.inl rfl) (pe_call G__law_lies (hr.mono (by decide)) rfl T.m__law_lies k__law_lies b__law_lies .nil G.passE0 (pa_cons (pv 1) (pa_cons (pe_op op_fdiv (pv 6) (pe_int)) pa_nil))))
      (pss_cons (ps_if (pt_cmpR op_eq (pe_op op_mod (pv 5) (pe_int)) (pe_int) (nomark _)) (pss_cons (ps_set (i := 10) sc.nd rfl (Or.inl rfl) (pe_op op_mod (pe_op op_fdiv (pv 5) (pe_int)) (pe_callB G.call_lenL (by rfl) T.z_len G.boot_len (pa_cons (pv 2) pa_nil))))
      (pss_cons (ps_set (i := 11) sc.nd rfl (Or.inl rfl) (pe_op op_mod (pe_op op_fdiv (pv 5) (pe_int)) (pe_callB G.call_lenL (by rfl) T.z_len G.boot_len (pa_cons (pe_ix ix_list (pv 2) (pv 10) (fun _ _ => rfl)) pa_nil))))
      (pss_cons (ps_asg (pv 8) (pg_sub (pe_ix ix_list (pv 2) (pv 10) (fun _ _ => rfl)) (pv 11) set_list))
      (pss_one (ps_asg (pv 8) (pg_sub (pe_fld (pe_ix ix_list (pe_fld (pv 0) rfl) (pv 10) (fun _ _ => rfl)) rfl) (pv 11) set_list)))))) pss_nil)
      (pss_cons (ps_if (PW.pt (pw_and (pt_cmpR op_eq (pe_op op_mod (pv 5) (pe_int)) (pe_int) (nomark _)) (pw_and (pt_cmpR G.op_notN_ (pv 9) (pe_non) (nomark _)) (pw_and1 (pt_cmpR op_gt (pe_callB G.call_lenL (by rfl) T.z_len G.boot_len (pa_cons (pe_ix ix_list (pe_ix ix_list (pv 1) (pv 9) (fun _ _ => rfl)) (pe_int) (fun _ _ => rfl)) pa_nil)) (pe_int) (nomark _)))))) (pss_cons (ps_set (i := 12) sc.nd rfl (Or.inl rfl) (pe_op op_mod (pe_op op_fdiv (pv 5) (pe_int)) (pe_callB G.call_lenL (by rfl) T.z_len G.boot_len (pa_cons (pe_ix ix_list (pe_ix ix_list (pv 1) (pv 9) (fun _ _ => rfl)) (pe_int) (fun _ _ => rfl)) pa_nil))))
      (pss_cons (ps_asg (pv 8) (pg_sub (pe_ix ix_list (pe_ix ix_list (pv 1) (pv 9) (fun _ _ => rfl)) (pe_int) (fun _ _ => rfl)) (pv 12) set_list))
      (pss_one (ps_asg (pv 8) (pg_sub (pe_fld (pe_ix ix_list (pe_fld (pe_fld (pv 0) rfl) rfl) (pv 9) (fun _ _ => rfl)) rfl) (pv 12) set_list))))) pss_nil)
      (pss_cons (ps_if (PW.pt (pw_and (pt_cmpR op_eq (pe_op op_mod (pv 5) (pe_int)) (pe_int) (nomark _)) (pw_and1 (pt_cmpR G.op_notN_ (pv 9) (pe_non) (nomark _))))) (pss_one (ps_ret (pe_call G__law_back (hr.mono (by decide)) rfl T.m__law_back k__law_back b__law_back .nil G.passE0 (pa_cons (pv 0) (pa_cons (pv 1) (pa_cons (pv 3) (pa_cons (pv 9) pa_nil))))))) pss_nil)
      (pss_one (ps_ret (pe_bl)))))))))))), ?_⟩
    obtain ⟨z0, z1, z2, z3, z4, rfl, q⟩ := h
    exact _law_turn_rd tx q
theorem ok_law {fl : Addr} {fd : FuncData} (F : Fun K "law" "law" s_law fl fd) {fd_World___init__ : FuncData} (G_World___init__ : FnOk P w K mg base (G.CXe P w) 3 f_World___init__ fd_World___init__ ["self", "room", "kind", "hands"] (S_World_init XQ)) (b_World___init__ : Binds K fd_World___init__ ["self", "room", "kind", "hands"] []) (k_World___init__ : PySem.W.keepIn K (.ref f_World___init__) = true) {fd__law_cell_at : FuncData} (G__law_cell_at : FnOk P w K mg base (G.CXe P w) 1 f__law_cell_at fd__law_cell_at ["_law_script", "_law_k"] (S_atB K)) (b__law_cell_at : Binds K fd__law_cell_at ["_law_script", "_law_k"] []) (k__law_cell_at : PySem.W.keepIn K (.ref f__law_cell_at) = true) {fd__law_due : FuncData} (G__law_due : FnOk P w K mg base (G.CXe P w) 3 f__law_due fd__law_due ["_law_places", "_law_rows", "_law_which"] (S_dueL)) (b__law_due : Binds K fd__law_due ["_law_places", "_law_rows", "_law_which"] []) (k__law_due : PySem.W.keepIn K (.ref f__law_due) = true) {fd__law_found : FuncData} (G__law_found : FnOk P w K mg base (G.CXe P w) 6 f__law_found fd__law_found ["_law_world", "_law_which"] (S_foundL XQ)) (b__law_found : Binds K fd__law_found ["_law_world", "_law_which"] []) (k__law_found : PySem.W.keepIn K (.ref f__law_found) = true) {fd__law_mix : FuncData} (G__law_mix : FnOk P w K mg base (G.CXe P w) 1 f__law_mix fd__law_mix ["_law_cell", "_law_factor"] (S_mix)) (b__law_mix : Binds K fd__law_mix ["_law_cell", "_law_factor"] []) (k__law_mix : PySem.W.keepIn K (.ref f__law_mix) = true) {fd__law_names : FuncData} (G__law_names : FnOk P w K mg base (G.CXe P w) 2 f__law_names fd__law_names ["_law_cell", "_law_many"] (S_names)) (b__law_names : Binds K fd__law_names ["_law_cell", "_law_many"] []) (k__law_names : PySem.W.keepIn K (.ref f__law_names) = true) {fd__law_new : FuncData} (G__law_new : FnOk P w K mg base (G.CXe P w) 5 f__law_new fd__law_new ["_law_world", "_law_pairs", "_law_room"] (S_new XQ)) (b__law_new : Binds K fd__law_new ["_law_world", "_law_pairs", "_law_room"] []) (k__law_new : PySem.W.keepIn K (.ref f__law_new) = true) {fd__law_same : FuncData} (G__law_same : FnOk P w K mg base (G.CXe P w) 4 f__law_same fd__law_same ["_law_found_here", "_law_due_here"] (S_same 3)) (b__law_same : Binds K fd__law_same ["_law_found_here", "_law_due_here"] []) (k__law_same : PySem.W.keepIn K (.ref f__law_same) = true) {fd__law_turn : FuncData} (G__law_turn : FnOk P w K mg base (G.CXe P w) 6 f__law_turn fd__law_turn ["_law_world", "_law_places", "_law_rows", "_law_state", "_law_cell"] (S_turn XQ)) (b__law_turn : Binds K fd__law_turn ["_law_world", "_law_places", "_law_rows", "_law_state", "_law_cell"] []) (k__law_turn : PySem.W.keepIn K (.ref f__law_turn) = true) {fd_kind_of : FuncData} (G_kind_of : FnOk P w K mg base (G.CXe P w) 3 f_kind_of fd_kind_of ["text"] (S_kind_of XQ)) (b_kind_of : Binds K fd_kind_of ["text"] []) (k_kind_of : PySem.W.keepIn K (.ref f_kind_of) = true) {fd_told_cells : FuncData} (G_told_cells : FnOk P w K mg base (G.CXe P w) 5 f_told_cells fd_told_cells ["world"] (S_told XQ)) (b_told_cells : Binds K fd_told_cells ["world"] []) (k_told_cells : PySem.W.keepIn K (.ref f_told_cells) = true) : FnOk P w K mg base (G.CXe P w) 7 fl fd ["_law_script"] (S_law K) := by
  have sc := sc_law
  have tx : TxW K XQ := ⟨⟨T.cl_Cell, T.n_Cell_birth, T.n_Cell_bulk, T.n_Cell_tone, T.n_Cell_load, T.n_Cell_fields, T.cl_Heap, T.n_Heap_room, T.n_Heap_cells, T.n_Heap_used, T.n_Heap_born, T.eq_Cell⟩, T.cl_World, T.n_World_heap, T.n_World_kind, T.n_World_hands, T.n_World_names, T.n_World_sweeper, T.cl_Hand, T.n_Hand_name, T.n_Hand_slots, T.cl_Kind, T.n_Kind_looking, T.n_Kind_tells, T.cl_Sweeper, T.n_Sweeper_sense, T.n_Sweeper_phase, T.n_Sweeper_grey, T.n_Sweeper_looked, T.n_Sweeper_turn, T.n_Sweeper_at, T.n_Sweeper_stop, T.n_Sweeper_walks, T.n_Sweeper_looks, T.n_Sweeper_passes, T.n_Sweeper_loss⟩
  refine G.fok F sc (fun vs H Q E h => ?_) (fun cdv A outer s H vs Q E hr h => ?_)
  · obtain ⟨z0, rfl, q⟩ := h; rfl
  · refine ⟨rd_law K XQ.W (S_World_init XQ) (S_atB K) (S_dueL) (S_foundL XQ) (S_mix) (S_names) (S_new XQ) (S_same 3) (S_turn XQ) (S_kind_of XQ) (S_told XQ), (pss_cons (ps_set (i := 1) sc.nd rfl (Or.inl rfl) (pe_op op_add (pe_int) (pe_op op_mod (pe_call G__law_mix (hr.mono (by decide)) rfl T.m__law_mix k__law_mix b__law_mix .nil G.passE0 (pa_cons (pe_call G__law_cell_at (hr.mono (by decide)) rfl T.m__law_cell_at k__law_cell_at b__law_cell_at .nil G.passE0 (pa_cons (pv 0) (pa_cons (pe_int) pa_nil))) (pa_cons (pe_int) pa_nil))) (pe_int))))
      (pss_cons (ps_if (pt_cmpR op_eq (pe_op op_mod (pe_call G__law_cell_at (hr.mono (by decide)) rfl T.m__law_cell_at k__law_cell_at b__law_cell_at .nil G.passE0 (pa_cons (pv 0) (pa_cons (pe_int) pa_nil))) (pe_int)) (pe_int) (nomark _)) (pss_one (ps_set (i := 1) sc.nd rfl (Or.inl rfl) (pe_op op_add (pe_int) (pe_op op_mod (pe_op op_fdiv (pe_call G__law_cell_at (hr.mono (by decide)) rfl T.m__law_cell_at k__law_cell_at b__law_cell_at .nil G.passE0 (pa_cons (pv 0) (pa_cons (pe_int) pa_nil))) (pe_int)) (pe_op op_sub (pe_op op_pow (pe_int) (pe_int)) (pe_int)))))) pss_nil)
      (pss_cons (ps_set (i := 2) sc.nd rfl (Or.inl rfl) (pe_op op_add (pe_int) (pe_op op_mod (pe_call G__law_cell_at (hr.mono (by decide)) rfl T.m__law_cell_at k__law_cell_at b__law_cell_at .nil G.passE0 (pa_cons (pv 0) (pa_cons (pe_int) pa_nil))) (pe_int))))
      (pss_cons (ps_set (i := 3) sc.nd rfl (Or.inr rfl) (pe_call G__law_names (hr.mono (by decide)) rfl T.m__law_names k__law_names b__law_names .nil G.passE0 (pa_cons (pe_call G__law_cell_at (hr.mono (by decide)) rfl T.m__law_cell_at k__law_cell_at b__law_cell_at .nil G.passE0 (pa_cons (pv 0) (pa_cons (pe_int) pa_nil))) (pa_cons (pv 2) pa_nil))))
      (pss_cons (ps_set (i := 4) sc.nd rfl (Or.inr rfl) (G.pe_lc (cns := ["_law_script"]) [0] (pi_range1 rfl T.z_range (pa_cons (pv 2) pa_nil)) (fun _ _ _ _ _ => G.pf_nil) (fun _ _ _ _ _ => (pe_op op_add (pe_int) (pe_op op_mod (pe_call G__law_mix (hr.mono (by decide)) rfl T.m__law_mix k__law_mix b__law_mix .nil G.passE0 (pa_cons (pe_call G__law_cell_at (hr.mono (by decide)) rfl T.m__law_cell_at k__law_cell_at b__law_cell_at .nil G.passE0 (pa_cons (pv 1) (pa_cons (pe_int) pa_nil))) (pa_cons (pe_op op_add (pe_int) (pe_op op_mul (pv 0) (pv 0))) pa_nil))) (pe_int)))) rfl rfl (by repeat (first | exact trivial | refine ⟨rfl, ?_⟩)) (by repeat (first | exact trivial | refine ⟨rfl, ?_⟩)) rfl (by decide +kernel) rfl (by decide +kernel) (by decide +kernel) rfl (by decide +kernel)))
      (pss_cons (G.ps_lcset (iz := 5) (cns := ["_law_words", "_law_many"]) [3, 4] (pi_range1 rfl T.z_range (pa_cons (pv 2) pa_nil)) (fun _ _ _ _ _ => G.pf_nil) (fun _ _ _ _ _ => (pe_tup (pa_cons (pe_ix ix_list (pv 1) (pv 0) (fun _ _ => rfl)) (pa_cons (pe_ix ix_list (pv 2) (pv 0) (fun _ _ => rfl)) pa_nil)))) rfl rfl (by repeat (first | exact trivial | refine ⟨rfl, ?_⟩)) (by repeat (first | exact trivial | refine ⟨rfl, ?_⟩)) rfl (by decide +kernel) rfl (by decide +kernel) (by decide +kernel) rfl (by decide +kernel) sc.nd rfl (Or.inl rfl) (Or.inr rfl) rfl)
      (pss_cons (ps_set (i := 6) sc.nd rfl (Or.inl rfl) (pe_callTy G.call_listL (by rfl) T.z_list G.boot_list (pa_cons (pv 5) pa_nil)))
      (pss_cons (ps_set (i := 7) sc.nd rfl (Or.inl rfl) (pe_make T.mk_World G_World___init__ (hr.mono (by decide)) rfl T.m_World b_World___init__ .nil G.passE0 (pa_cons (pv 1) (pa_cons (pe_call G_kind_of (hr.mono (by decide)) rfl T.m_kind_of k_kind_of b_kind_of .nil G.passE0 (pa_cons (pe_str) pa_nil)) (pa_cons (pv 6) pa_nil)))))
      (pss_cons (ps_set (i := 8) sc.nd rfl (Or.inl rfl) (pe_make T.mk_World G_World___init__ (hr.mono (by decide)) rfl T.m_World b_World___init__ .nil G.passE0 (pa_cons (pv 1) (pa_cons (pe_call G_kind_of (hr.mono (by decide)) rfl T.m_kind_of k_kind_of b_kind_of .nil G.passE0 (pa_cons (pe_str) pa_nil)) (pa_cons (pv 6) pa_nil)))))
      (pss_cons (ps_if (PW.pt (pw_or (pt_not (pt_val (pe_call G__law_new (hr.mono (by decide)) rfl T.m__law_new k__law_new b__law_new .nil G.passE0 (pa_cons (pv 7) (pa_cons (pv 5) (pa_cons (pv 1) pa_nil)))))) (pw_or1 (pt_not (pt_val (pe_call G__law_same (hr.mono (by decide)) rfl T.m__law_same k__law_same b__law_same .nil G.passE0 (pa_cons (pv 6) (pa_cons (pv 5) pa_nil)))))))) (pss_one (ps_ret (pe_bl))) pss_nil)
      (pss_cons (ps_set (i := 9) sc.nd rfl (Or.inl rfl) (pe_lst pa_nil))
      (pss_cons (G.ps_lcset (iz := 10) (cns := []) [] (pi_list (pv 4)) (fun _ _ _ _ _ => G.pf_nil) (fun _ _ _ _ _ => (pe_op op_rep (pe_lst (pa_cons (pe_non) pa_nil)) (pv 0))) rfl rfl (by repeat (first | exact trivial | refine ⟨rfl, ?_⟩)) (by repeat (first | exact trivial | refine ⟨rfl, ?_⟩)) rfl (by decide +kernel) rfl (by decide +kernel) (by decide +kernel) rfl (by decide +kernel) sc.nd rfl (Or.inl rfl) (Or.inr rfl) rfl)
      (pss_cons (ps_set (i := 11) sc.nd rfl (Or.inl rfl) (pe_lst (pa_cons (pe_int) (pa_cons (pv 1) (pa_cons (pe_int) pa_nil)))))
      (pss_cons (ps_set (i := 12) sc.nd rfl (Or.inl rfl) (pe_lst pa_nil))
      (pss_cons (ps_for PassesOwn.never rfl (pi_list (pe_slice sl_list (pv 0) (po_some (pe_int)) (po_some (pe_int)))) (pg_name (i := 13) sc.nd rfl (Or.inl rfl))
      (pss_cons (ps_if (pt_not (pt_val (pe_call G__law_turn (hr.mono (by decide)) rfl T.m__law_turn k__law_turn b__law_turn .nil G.passE0 (pa_cons (pv 7) (pa_cons (pv 9) (pa_cons (pv 10) (pa_cons (pv 11) (pa_cons (pv 13) pa_nil)))))))) (pss_one (ps_ret (pe_bl))) pss_nil)
      (pss_cons (ps_set (i := 14) sc.nd rfl (Or.inl rfl) (pe_op op_mod (pe_call G__law_mix (hr.mono (by decide)) rfl T.m__law_mix k__law_mix b__law_mix .nil G.passE0 (pa_cons (pv 13) (pa_cons (pe_int) pa_nil))) (pe_int)))
      (pss_cons (ps_set (i := 15) sc.nd rfl (Or.inl rfl) (pe_call G__law_found (hr.mono (by decide)) rfl T.m__law_found k__law_found b__law_found .nil G.passE0 (pa_cons (pv 7) (pa_cons (pv 14) pa_nil))))
      (pss_cons (ps_set (i := 16) sc.nd rfl (Or.inl rfl) (pe_call G__law_due (hr.mono (by decide)) rfl T.m__law_due k__law_due b__law_due .nil G.passE0 (pa_cons (pv 9) (pa_cons (pv 10) (pa_cons (pv 14) pa_nil)))))
      (pss_cons (ps_if (pt_not (pt_val (pe_call G__law_same (hr.mono (by decide)) rfl T.m__law_same k__law_same b__law_same .nil G.passE0 (pa_cons (pv 15) (pa_cons (pv 16) pa_nil))))) (pss_one (ps_ret (pe_bl))) pss_nil)
      (pss_cons (ps_expr (pe_bm PySem.F.plainAttrs_list PySem.F.slot_list_append PySem.F.type_list_append mt_append (pv 12) (pa_cons (pe_tup (pa_cons (pv 15) (pa_cons (pv 16) pa_nil))) pa_nil)))
      (pss_cons (ps_set (i := 17) sc.nd rfl (Or.inl rfl) (pe_call G__law_found (hr.mono (by decide)) rfl T.m__law_found k__law_found b__law_found .nil G.passE0 (pa_cons (pv 7) (pa_cons (pv 14) pa_nil))))
      (pss_cons (ps_expr (pe_bm PySem.F.plainAttrs_list PySem.F.slot_list_append PySem.F.type_list_append mt_append (pv 17) (pa_cons (pe_non) pa_nil)))
      (pss_one (ps_if (pt_cmpR op_lt (pv 14) (pe_int) (nomark _)) (pss_one (ps_expr (pe_bm PySem.F.plainAttrs_list PySem.F.slot_list_append PySem.F.type_list_append mt_append (pe_ix ix_list (pv 17) (pe_int) (fun _ _ => rfl)) (pa_cons (pe_int) pa_nil)))) pss_nil)))))))))))
      (pss_cons (ps_for PassesOwn.never rfl (pi_range1 rfl T.z_range (pa_cons (pe_int) pa_nil)) (pg_name (i := 14) sc.nd rfl (Or.inl rfl))
      (pss_one (ps_if (pt_not (pt_val (pe_call G__law_same (hr.mono (by decide)) rfl T.m__law_same k__law_same b__law_same .nil G.passE0 (pa_cons (pe_call G__law_found (hr.mono (by decide)) rfl T.m__law_found k__law_found b__law_found .nil G.passE0 (pa_cons (pv 7) (pa_cons (pv 14) pa_nil))) (pa_cons (pe_call G__law_due (hr.mono (by decide)) rfl T.m__law_due k__law_due b__law_due .nil G.passE0 (pa_cons (pv 9) (pa_cons (pv 10) (pa_cons (pv 14) pa_nil)))) pa_nil))))) (pss_one (ps_ret (pe_bl))) pss_nil)))
      (pss_cons (ps_for PassesOwn.never rfl (pi_list (pv 12)) (pg_tup rfl (pgs_cons (pg_name (i := 15) sc.nd rfl (Or.inl rfl)) (pgs_cons (pg_name (i := 16) sc.nd rfl (Or.inl rfl)) pgs_nil)))
      (pss_one (ps_if (pt_not (pt_val (pe_call G__law_same (hr.mono (by decide)) rfl T.m__law_same k__law_same b__law_same .nil G.passE0 (pa_cons (pv 15) (pa_cons (pv 16) pa_nil))))) (pss_one (ps_ret (pe_bl))) pss_nil)))
      (pss_one (ps_ret ((pe_and (pe_call G__law_new (hr.mono (by decide)) rfl T.m__law_new k__law_new b__law_new .nil G.passE0 (pa_cons (pv 8) (pa_cons (pv 5) (pa_cons (pv 1) pa_nil)))) (pe_one (pe_call G__law_same (hr.mono (by decide)) rfl T.m__law_same k__law_same b__law_same .nil G.passE0 (pa_cons (pe_call G_told_cells (hr.mono (by decide)) rfl T.m_told_cells k_told_cells b_told_cells .nil G.passE0 (pa_cons (pv 8) pa_nil)) (pa_cons (pe_lst pa_nil) pa_nil))))))))))))))))))))))))), ?_⟩
    obtain ⟨z0, rfl, q⟩ := h
    exact law_rd tx q
end
theorem all_mk {l : PySem.W.OpenLaw} {w : World} {K : PySem.W.Frag} {h : Heap} {mg : Str → Option Value} {fa fl C_Cell C_Heap C_Hand C_Sweeper C_World C_First C_Each C_Last C_Kind C_Full f_Cell___init__ f_Cell_units f_Heap___init__ f_Heap_make f_Heap_lay f_Heap_back f_Heap_free f_Heap_there f_cell_at f_birth_at f_Hand___init__ f_Sweeper___init__ f_World___init__ f_held f_births_held f_births_at f_has_sense f_mark_of f_told_cells f_told_cell f_First_word f_Each_word f_Last_word f_Kind___init__ f_Kind_words f_kind_of f__law_mix f__law_cell_at f__law_names f__law_same f__law_new f__law_birth f__law_births f__law_due f__law_found f__law_lies f__law_least f__law_made f__law_back f__law_turn : Addr} (KI : K.In h) (GN : h.Ns mainGlobals mg) (hfa : mg "law" = some (.ref fa))
    {od1 an1 : Option Addr} {sl1 : Array (Option Value)} {oc1 kV1 dc1 pm1 cd1 ct1 : Value}
    {od2 an2 : Option Addr} {sl2 : Array (Option Value)} {oc2 kV2 dc2 pm2 cd2 ct2 : Value}
    {od3 an3 : Option Addr} {sl3 : Array (Option Value)} {oc3 kV3 dc3 pm3 cd3 ct3 : Value}
    {od4 an4 : Option Addr} {sl4 : Array (Option Value)} {oc4 kV4 dc4 pm4 cd4 ct4 : Value}
    {td4 : Addr} {tc4 : Value} {to4 : Option Addr} {tn4 : Nat} {ts4 : Array (Option Value)} {dv4_0 dv4_1 : Value}
    {od5 an5 : Option Addr} {sl5 : Array (Option Value)} {oc5 kV5 dc5 pm5 cd5 ct5 : Value}
    {od6 an6 : Option Addr} {sl6 : Array (Option Value)} {oc6 kV6 dc6 pm6 cd6 ct6 : Value}
    {od7 an7 : Option Addr} {sl7 : Array (Option Value)} {oc7 kV7 dc7 pm7 cd7 ct7 : Value}
    {od8 an8 : Option Addr} {sl8 : Array (Option Value)} {oc8 kV8 dc8 pm8 cd8 ct8 : Value}
    {od9 an9 : Option Addr} {sl9 : Array (Option Value)} {oc9 kV9 dc9 pm9 cd9 ct9 : Value}
    {od10 an10 : Option Addr} {sl10 : Array (Option Value)} {oc10 kV10 dc10 pm10 cd10 ct10 : Value}
    {od11 an11 : Option Addr} {sl11 : Array (Option Value)} {oc11 kV11 dc11 pm11 cd11 ct11 : Value}
    {od12 an12 : Option Addr} {sl12 : Array (Option Value)} {oc12 kV12 dc12 pm12 cd12 ct12 : Value}
    {od13 an13 : Option Addr} {sl13 : Array (Option Value)} {oc13 kV13 dc13 pm13 cd13 ct13 : Value}
    {od14 an14 : Option Addr} {sl14 : Array (Option Value)} {oc14 kV14 dc14 pm14 cd14 ct14 : Value}
    {od15 an15 : Option Addr} {sl15 : Array (Option Value)} {oc15 kV15 dc15 pm15 cd15 ct15 : Value}
    {od16 an16 : Option Addr} {sl16 : Array (Option Value)} {oc16 kV16 dc16 pm16 cd16 ct16 : Value}
    {od17 an17 : Option Addr} {sl17 : Array (Option Value)} {oc17 kV17 dc17 pm17 cd17 ct17 : Value}
    {od18 an18 : Option Addr} {sl18 : Array (Option Value)} {oc18 kV18 dc18 pm18 cd18 ct18 : Value}
    {od19 an19 : Option Addr} {sl19 : Array (Option Value)} {oc19 kV19 dc19 pm19 cd19 ct19 : Value}
    {od20 an20 : Option Addr} {sl20 : Array (Option Value)} {oc20 kV20 dc20 pm20 cd20 ct20 : Value}
    {od21 an21 : Option Addr} {sl21 : Array (Option Value)} {oc21 kV21 dc21 pm21 cd21 ct21 : Value}
    {od22 an22 : Option Addr} {sl22 : Array (Option Value)} {oc22 kV22 dc22 pm22 cd22 ct22 : Value}
    {od23 an23 : Option Addr} {sl23 : Array (Option Value)} {oc23 kV23 dc23 pm23 cd23 ct23 : Value}
    {od24 an24 : Option Addr} {sl24 : Array (Option Value)} {oc24 kV24 dc24 pm24 cd24 ct24 : Value}
    {od25 an25 : Option Addr} {sl25 : Array (Option Value)} {oc25 kV25 dc25 pm25 cd25 ct25 : Value}
    {od26 an26 : Option Addr} {sl26 : Array (Option Value)} {oc26 kV26 dc26 pm26 cd26 ct26 : Value}
    {od27 an27 : Option Addr} {sl27 : Array (Option Value)} {oc27 kV27 dc27 pm27 cd27 ct27 : Value}
    {od28 an28 : Option Addr} {sl28 : Array (Option Value)} {oc28 kV28 dc28 pm28 cd28 ct28 : Value}
    {od29 an29 : Option Addr} {sl29 : Array (Option Value)} {oc29 kV29 dc29 pm29 cd29 ct29 : Value}
    {od30 an30 : Option Addr} {sl30 : Array (Option Value)} {oc30 kV30 dc30 pm30 cd30 ct30 : Value}
    {od31 an31 : Option Addr} {sl31 : Array (Option Value)} {oc31 kV31 dc31 pm31 cd31 ct31 : Value}
    {od32 an32 : Option Addr} {sl32 : Array (Option Value)} {oc32 kV32 dc32 pm32 cd32 ct32 : Value}
    {od33 an33 : Option Addr} {sl33 : Array (Option Value)} {oc33 kV33 dc33 pm33 cd33 ct33 : Value}
    {od34 an34 : Option Addr} {sl34 : Array (Option Value)} {oc34 kV34 dc34 pm34 cd34 ct34 : Value}
    {od35 an35 : Option Addr} {sl35 : Array (Option Value)} {oc35 kV35 dc35 pm35 cd35 ct35 : Value}
    {od36 an36 : Option Addr} {sl36 : Array (Option Value)} {oc36 kV36 dc36 pm36 cd36 ct36 : Value}
    {od37 an37 : Option Addr} {sl37 : Array (Option Value)} {oc37 kV37 dc37 pm37 cd37 ct37 : Value}
    {od38 an38 : Option Addr} {sl38 : Array (Option Value)} {oc38 kV38 dc38 pm38 cd38 ct38 : Value}
    {od39 an39 : Option Addr} {sl39 : Array (Option Value)} {oc39 kV39 dc39 pm39 cd39 ct39 : Value}
    {od40 an40 : Option Addr} {sl40 : Array (Option Value)} {oc40 kV40 dc40 pm40 cd40 ct40 : Value}
    {od41 an41 : Option Addr} {sl41 : Array (Option Value)} {oc41 kV41 dc41 pm41 cd41 ct41 : Value}
    {u_NEW : Value}
    {u_OLD : Value}
    (a_Cell : PySem.W.nsIn K mainGlobals "Cell" = some (some (.ref C_Cell)))
    (a_Heap : PySem.W.nsIn K mainGlobals "Heap" = some (some (.ref C_Heap)))
    (a_Hand : PySem.W.nsIn K mainGlobals "Hand" = some (some (.ref C_Hand)))
    (a_Sweeper : PySem.W.nsIn K mainGlobals "Sweeper" = some (some (.ref C_Sweeper)))
    (a_World : PySem.W.nsIn K mainGlobals "World" = some (some (.ref C_World)))
    (a_First : PySem.W.nsIn K mainGlobals "First" = some (some (.ref C_First)))
    (a_Each : PySem.W.nsIn K mainGlobals "Each" = some (some (.ref C_Each)))
    (a_Last : PySem.W.nsIn K mainGlobals "Last" = some (some (.ref C_Last)))
    (a_Kind : PySem.W.nsIn K mainGlobals "Kind" = some (some (.ref C_Kind)))
    (a_Full : PySem.W.nsIn K mainGlobals "Full" = some (some (.ref C_Full)))
    (a1 : PySem.W.findIn K (.ref C_Cell) "__init__" = some (some (.ref f_Cell___init__)))
    (i1 : PySem.W.isFn K (.ref f_Cell___init__) = true)
    (l1 : K.lookup f_Cell___init__ = some ⟨oc1, od1, .func (PySem.W.fnOf "__init__" "Cell.__init__" (defArgs s_Cell___init__) (defBody s_Cell___init__) (defScope s_Cell___init__) .none kV1 dc1 pm1 an1 cd1 ct1), sl1⟩)
    (c1 : PySem.W.codeIn K cd1 "Cell.__init__" = true)
    (k1 : PySem.W.keepIn K (.ref f_Cell___init__) = true)
    (a2 : PySem.W.findIn K (.ref C_Cell) "units" = some (some (.ref f_Cell_units)))
    (i2 : PySem.W.isFn K (.ref f_Cell_units) = true)
    (l2 : K.lookup f_Cell_units = some ⟨oc2, od2, .func (PySem.W.fnOf "units" "Cell.units" (defArgs s_Cell_units) (defBody s_Cell_units) (defScope s_Cell_units) .none kV2 dc2 pm2 an2 cd2 ct2), sl2⟩)
    (c2 : PySem.W.codeIn K cd2 "Cell.units" = true)
    (k2 : PySem.W.keepIn K (.ref f_Cell_units) = true)
    (a3 : PySem.W.findIn K (.ref C_Heap) "__init__" = some (some (.ref f_Heap___init__)))
    (i3 : PySem.W.isFn K (.ref f_Heap___init__) = true)
    (l3 : K.lookup f_Heap___init__ = some ⟨oc3, od3, .func (PySem.W.fnOf "__init__" "Heap.__init__" (defArgs s_Heap___init__) (defBody s_Heap___init__) (defScope s_Heap___init__) .none kV3 dc3 pm3 an3 cd3 ct3), sl3⟩)
    (c3 : PySem.W.codeIn K cd3 "Heap.__init__" = true)
    (k3 : PySem.W.keepIn K (.ref f_Heap___init__) = true)
    (a4 : PySem.W.findIn K (.ref C_Heap) "make" = some (some (.ref f_Heap_make)))
    (i4 : PySem.W.isFn K (.ref f_Heap_make) = true)
    (l4 : K.lookup f_Heap_make = some ⟨oc4, od4, .func (PySem.W.fnOf "make" "Heap.make" (defArgs s_Heap_make) (defBody s_Heap_make) (defScope s_Heap_make) (.ref td4) kV4 dc4 pm4 an4 cd4 ct4), sl4⟩)
    (t4 : K.lookup td4 = some ⟨tc4, to4, .seq #[dv4_0, dv4_1] tn4, ts4⟩)
    (dr4_0 : RelV (.int 0) dv4_0)
    (dr4_1 : RelV (.int 0) dv4_1)
    (c4 : PySem.W.codeIn K cd4 "Heap.make" = true)
    (k4 : PySem.W.keepIn K (.ref f_Heap_make) = true)
    (a5 : PySem.W.findIn K (.ref C_Heap) "lay" = some (some (.ref f_Heap_lay)))
    (i5 : PySem.W.isFn K (.ref f_Heap_lay) = true)
    (l5 : K.lookup f_Heap_lay = some ⟨oc5, od5, .func (PySem.W.fnOf "lay" "Heap.lay" (defArgs s_Heap_lay) (defBody s_Heap_lay) (defScope s_Heap_lay) .none kV5 dc5 pm5 an5 cd5 ct5), sl5⟩)
    (c5 : PySem.W.codeIn K cd5 "Heap.lay" = true)
    (k5 : PySem.W.keepIn K (.ref f_Heap_lay) = true)
    (a6 : PySem.W.findIn K (.ref C_Heap) "back" = some (some (.ref f_Heap_back)))
    (i6 : PySem.W.isFn K (.ref f_Heap_back) = true)
    (l6 : K.lookup f_Heap_back = some ⟨oc6, od6, .func (PySem.W.fnOf "back" "Heap.back" (defArgs s_Heap_back) (defBody s_Heap_back) (defScope s_Heap_back) .none kV6 dc6 pm6 an6 cd6 ct6), sl6⟩)
    (c6 : PySem.W.codeIn K cd6 "Heap.back" = true)
    (k6 : PySem.W.keepIn K (.ref f_Heap_back) = true)
    (a7 : PySem.W.findIn K (.ref C_Heap) "free" = some (some (.ref f_Heap_free)))
    (i7 : PySem.W.isFn K (.ref f_Heap_free) = true)
    (l7 : K.lookup f_Heap_free = some ⟨oc7, od7, .func (PySem.W.fnOf "free" "Heap.free" (defArgs s_Heap_free) (defBody s_Heap_free) (defScope s_Heap_free) .none kV7 dc7 pm7 an7 cd7 ct7), sl7⟩)
    (c7 : PySem.W.codeIn K cd7 "Heap.free" = true)
    (k7 : PySem.W.keepIn K (.ref f_Heap_free) = true)
    (a8 : PySem.W.findIn K (.ref C_Heap) "there" = some (some (.ref f_Heap_there)))
    (i8 : PySem.W.isFn K (.ref f_Heap_there) = true)
    (l8 : K.lookup f_Heap_there = some ⟨oc8, od8, .func (PySem.W.fnOf "there" "Heap.there" (defArgs s_Heap_there) (defBody s_Heap_there) (defScope s_Heap_there) .none kV8 dc8 pm8 an8 cd8 ct8), sl8⟩)
    (c8 : PySem.W.codeIn K cd8 "Heap.there" = true)
    (k8 : PySem.W.keepIn K (.ref f_Heap_there) = true)
    (a9 : PySem.W.nsIn K mainGlobals "cell_at" = some (some (.ref f_cell_at)))
    (l9 : K.lookup f_cell_at = some ⟨oc9, od9, .func (PySem.W.fnOf "cell_at" "cell_at" (defArgs s_cell_at) (defBody s_cell_at) (defScope s_cell_at) .none kV9 dc9 pm9 an9 cd9 ct9), sl9⟩)
    (c9 : PySem.W.codeIn K cd9 "cell_at" = true)
    (k9 : PySem.W.keepIn K (.ref f_cell_at) = true)
    (a10 : PySem.W.nsIn K mainGlobals "birth_at" = some (some (.ref f_birth_at)))
    (l10 : K.lookup f_birth_at = some ⟨oc10, od10, .func (PySem.W.fnOf "birth_at" "birth_at" (defArgs s_birth_at) (defBody s_birth_at) (defScope s_birth_at) .none kV10 dc10 pm10 an10 cd10 ct10), sl10⟩)
    (c10 : PySem.W.codeIn K cd10 "birth_at" = true)
    (k10 : PySem.W.keepIn K (.ref f_birth_at) = true)
    (a11 : PySem.W.findIn K (.ref C_Hand) "__init__" = some (some (.ref f_Hand___init__)))
    (i11 : PySem.W.isFn K (.ref f_Hand___init__) = true)
    (l11 : K.lookup f_Hand___init__ = some ⟨oc11, od11, .func (PySem.W.fnOf "__init__" "Hand.__init__" (defArgs s_Hand___init__) (defBody s_Hand___init__) (defScope s_Hand___init__) .none kV11 dc11 pm11 an11 cd11 ct11), sl11⟩)
    (c11 : PySem.W.codeIn K cd11 "Hand.__init__" = true)
    (k11 : PySem.W.keepIn K (.ref f_Hand___init__) = true)
    (a12 : PySem.W.findIn K (.ref C_Sweeper) "__init__" = some (some (.ref f_Sweeper___init__)))
    (i12 : PySem.W.isFn K (.ref f_Sweeper___init__) = true)
    (l12 : K.lookup f_Sweeper___init__ = some ⟨oc12, od12, .func (PySem.W.fnOf "__init__" "Sweeper.__init__" (defArgs s_Sweeper___init__) (defBody s_Sweeper___init__) (defScope s_Sweeper___init__) .none kV12 dc12 pm12 an12 cd12 ct12), sl12⟩)
    (c12 : PySem.W.codeIn K cd12 "Sweeper.__init__" = true)
    (k12 : PySem.W.keepIn K (.ref f_Sweeper___init__) = true)
    (a13 : PySem.W.findIn K (.ref C_World) "__init__" = some (some (.ref f_World___init__)))
    (i13 : PySem.W.isFn K (.ref f_World___init__) = true)
    (l13 : K.lookup f_World___init__ = some ⟨oc13, od13, .func (PySem.W.fnOf "__init__" "World.__init__" (defArgs s_World___init__) (defBody s_World___init__) (defScope s_World___init__) .none kV13 dc13 pm13 an13 cd13 ct13), sl13⟩)
    (c13 : PySem.W.codeIn K cd13 "World.__init__" = true)
    (k13 : PySem.W.keepIn K (.ref f_World___init__) = true)
    (a14 : PySem.W.nsIn K mainGlobals "held" = some (some (.ref f_held)))
    (l14 : K.lookup f_held = some ⟨oc14, od14, .func (PySem.W.fnOf "held" "held" (defArgs s_held) (defBody s_held) (defScope s_held) .none kV14 dc14 pm14 an14 cd14 ct14), sl14⟩)
    (c14 : PySem.W.codeIn K cd14 "held" = true)
    (k14 : PySem.W.keepIn K (.ref f_held) = true)
    (a15 : PySem.W.nsIn K mainGlobals "births_held" = some (some (.ref f_births_held)))
    (l15 : K.lookup f_births_held = some ⟨oc15, od15, .func (PySem.W.fnOf "births_held" "births_held" (defArgs s_births_held) (defBody s_births_held) (defScope s_births_held) .none kV15 dc15 pm15 an15 cd15 ct15), sl15⟩)
    (c15 : PySem.W.codeIn K cd15 "births_held" = true)
    (k15 : PySem.W.keepIn K (.ref f_births_held) = true)
    (a16 : PySem.W.nsIn K mainGlobals "births_at" = some (some (.ref f_births_at)))
    (l16 : K.lookup f_births_at = some ⟨oc16, od16, .func (PySem.W.fnOf "births_at" "births_at" (defArgs s_births_at) (defBody s_births_at) (defScope s_births_at) .none kV16 dc16 pm16 an16 cd16 ct16), sl16⟩)
    (c16 : PySem.W.codeIn K cd16 "births_at" = true)
    (k16 : PySem.W.keepIn K (.ref f_births_at) = true)
    (a17 : PySem.W.nsIn K mainGlobals "has_sense" = some (some (.ref f_has_sense)))
    (l17 : K.lookup f_has_sense = some ⟨oc17, od17, .func (PySem.W.fnOf "has_sense" "has_sense" (defArgs s_has_sense) (defBody s_has_sense) (defScope s_has_sense) .none kV17 dc17 pm17 an17 cd17 ct17), sl17⟩)
    (c17 : PySem.W.codeIn K cd17 "has_sense" = true)
    (k17 : PySem.W.keepIn K (.ref f_has_sense) = true)
    (a18 : PySem.W.nsIn K mainGlobals "mark_of" = some (some (.ref f_mark_of)))
    (l18 : K.lookup f_mark_of = some ⟨oc18, od18, .func (PySem.W.fnOf "mark_of" "mark_of" (defArgs s_mark_of) (defBody s_mark_of) (defScope s_mark_of) .none kV18 dc18 pm18 an18 cd18 ct18), sl18⟩)
    (c18 : PySem.W.codeIn K cd18 "mark_of" = true)
    (k18 : PySem.W.keepIn K (.ref f_mark_of) = true)
    (a19 : PySem.W.nsIn K mainGlobals "told_cells" = some (some (.ref f_told_cells)))
    (l19 : K.lookup f_told_cells = some ⟨oc19, od19, .func (PySem.W.fnOf "told_cells" "told_cells" (defArgs s_told_cells) (defBody s_told_cells) (defScope s_told_cells) .none kV19 dc19 pm19 an19 cd19 ct19), sl19⟩)
    (c19 : PySem.W.codeIn K cd19 "told_cells" = true)
    (k19 : PySem.W.keepIn K (.ref f_told_cells) = true)
    (a20 : PySem.W.nsIn K mainGlobals "told_cell" = some (some (.ref f_told_cell)))
    (l20 : K.lookup f_told_cell = some ⟨oc20, od20, .func (PySem.W.fnOf "told_cell" "told_cell" (defArgs s_told_cell) (defBody s_told_cell) (defScope s_told_cell) .none kV20 dc20 pm20 an20 cd20 ct20), sl20⟩)
    (c20 : PySem.W.codeIn K cd20 "told_cell" = true)
    (k20 : PySem.W.keepIn K (.ref f_told_cell) = true)
    (a21 : PySem.W.findIn K (.ref C_First) "word" = some (some (.ref f_First_word)))
    (i21 : PySem.W.isFn K (.ref f_First_word) = true)
    (l21 : K.lookup f_First_word = some ⟨oc21, od21, .func (PySem.W.fnOf "word" "First.word" (defArgs s_First_word) (defBody s_First_word) (defScope s_First_word) .none kV21 dc21 pm21 an21 cd21 ct21), sl21⟩)
    (c21 : PySem.W.codeIn K cd21 "First.word" = true)
    (k21 : PySem.W.keepIn K (.ref f_First_word) = true)
    (a22 : PySem.W.findIn K (.ref C_Each) "word" = some (some (.ref f_Each_word)))
    (i22 : PySem.W.isFn K (.ref f_Each_word) = true)
    (l22 : K.lookup f_Each_word = some ⟨oc22, od22, .func (PySem.W.fnOf "word" "Each.word" (defArgs s_Each_word) (defBody s_Each_word) (defScope s_Each_word) .none kV22 dc22 pm22 an22 cd22 ct22), sl22⟩)
    (c22 : PySem.W.codeIn K cd22 "Each.word" = true)
    (k22 : PySem.W.keepIn K (.ref f_Each_word) = true)
    (a23 : PySem.W.findIn K (.ref C_Last) "word" = some (some (.ref f_Last_word)))
    (i23 : PySem.W.isFn K (.ref f_Last_word) = true)
    (l23 : K.lookup f_Last_word = some ⟨oc23, od23, .func (PySem.W.fnOf "word" "Last.word" (defArgs s_Last_word) (defBody s_Last_word) (defScope s_Last_word) .none kV23 dc23 pm23 an23 cd23 ct23), sl23⟩)
    (c23 : PySem.W.codeIn K cd23 "Last.word" = true)
    (k23 : PySem.W.keepIn K (.ref f_Last_word) = true)
    (a24 : PySem.W.findIn K (.ref C_Kind) "__init__" = some (some (.ref f_Kind___init__)))
    (i24 : PySem.W.isFn K (.ref f_Kind___init__) = true)
    (l24 : K.lookup f_Kind___init__ = some ⟨oc24, od24, .func (PySem.W.fnOf "__init__" "Kind.__init__" (defArgs s_Kind___init__) (defBody s_Kind___init__) (defScope s_Kind___init__) .none kV24 dc24 pm24 an24 cd24 ct24), sl24⟩)
    (c24 : PySem.W.codeIn K cd24 "Kind.__init__" = true)
    (k24 : PySem.W.keepIn K (.ref f_Kind___init__) = true)
    (a25 : PySem.W.findIn K (.ref C_Kind) "words" = some (some (.ref f_Kind_words)))
    (i25 : PySem.W.isFn K (.ref f_Kind_words) = true)
    (l25 : K.lookup f_Kind_words = some ⟨oc25, od25, .func (PySem.W.fnOf "words" "Kind.words" (defArgs s_Kind_words) (defBody s_Kind_words) (defScope s_Kind_words) .none kV25 dc25 pm25 an25 cd25 ct25), sl25⟩)
    (c25 : PySem.W.codeIn K cd25 "Kind.words" = true)
    (k25 : PySem.W.keepIn K (.ref f_Kind_words) = true)
    (a26 : PySem.W.nsIn K mainGlobals "kind_of" = some (some (.ref f_kind_of)))
    (l26 : K.lookup f_kind_of = some ⟨oc26, od26, .func (PySem.W.fnOf "kind_of" "kind_of" (defArgs s_kind_of) (defBody s_kind_of) (defScope s_kind_of) .none kV26 dc26 pm26 an26 cd26 ct26), sl26⟩)
    (c26 : PySem.W.codeIn K cd26 "kind_of" = true)
    (k26 : PySem.W.keepIn K (.ref f_kind_of) = true)
    (a27 : PySem.W.nsIn K mainGlobals "_law_mix" = some (some (.ref f__law_mix)))
    (l27 : K.lookup f__law_mix = some ⟨oc27, od27, .func (PySem.W.fnOf "_law_mix" "_law_mix" (defArgs s__law_mix) (defBody s__law_mix) (defScope s__law_mix) .none kV27 dc27 pm27 an27 cd27 ct27), sl27⟩)
    (c27 : PySem.W.codeIn K cd27 "_law_mix" = true)
    (k27 : PySem.W.keepIn K (.ref f__law_mix) = true)
    (a28 : PySem.W.nsIn K mainGlobals "_law_cell_at" = some (some (.ref f__law_cell_at)))
    (l28 : K.lookup f__law_cell_at = some ⟨oc28, od28, .func (PySem.W.fnOf "_law_cell_at" "_law_cell_at" (defArgs s__law_cell_at) (defBody s__law_cell_at) (defScope s__law_cell_at) .none kV28 dc28 pm28 an28 cd28 ct28), sl28⟩)
    (c28 : PySem.W.codeIn K cd28 "_law_cell_at" = true)
    (k28 : PySem.W.keepIn K (.ref f__law_cell_at) = true)
    (a29 : PySem.W.nsIn K mainGlobals "_law_names" = some (some (.ref f__law_names)))
    (l29 : K.lookup f__law_names = some ⟨oc29, od29, .func (PySem.W.fnOf "_law_names" "_law_names" (defArgs s__law_names) (defBody s__law_names) (defScope s__law_names) .none kV29 dc29 pm29 an29 cd29 ct29), sl29⟩)
    (c29 : PySem.W.codeIn K cd29 "_law_names" = true)
    (k29 : PySem.W.keepIn K (.ref f__law_names) = true)
    (a30 : PySem.W.nsIn K mainGlobals "_law_same" = some (some (.ref f__law_same)))
    (l30 : K.lookup f__law_same = some ⟨oc30, od30, .func (PySem.W.fnOf "_law_same" "_law_same" (defArgs s__law_same) (defBody s__law_same) (defScope s__law_same) .none kV30 dc30 pm30 an30 cd30 ct30), sl30⟩)
    (c30 : PySem.W.codeIn K cd30 "_law_same" = true)
    (k30 : PySem.W.keepIn K (.ref f__law_same) = true)
    (a31 : PySem.W.nsIn K mainGlobals "_law_new" = some (some (.ref f__law_new)))
    (l31 : K.lookup f__law_new = some ⟨oc31, od31, .func (PySem.W.fnOf "_law_new" "_law_new" (defArgs s__law_new) (defBody s__law_new) (defScope s__law_new) .none kV31 dc31 pm31 an31 cd31 ct31), sl31⟩)
    (c31 : PySem.W.codeIn K cd31 "_law_new" = true)
    (k31 : PySem.W.keepIn K (.ref f__law_new) = true)
    (a32 : PySem.W.nsIn K mainGlobals "_law_birth" = some (some (.ref f__law_birth)))
    (l32 : K.lookup f__law_birth = some ⟨oc32, od32, .func (PySem.W.fnOf "_law_birth" "_law_birth" (defArgs s__law_birth) (defBody s__law_birth) (defScope s__law_birth) .none kV32 dc32 pm32 an32 cd32 ct32), sl32⟩)
    (c32 : PySem.W.codeIn K cd32 "_law_birth" = true)
    (k32 : PySem.W.keepIn K (.ref f__law_birth) = true)
    (a33 : PySem.W.nsIn K mainGlobals "_law_births" = some (some (.ref f__law_births)))
    (l33 : K.lookup f__law_births = some ⟨oc33, od33, .func (PySem.W.fnOf "_law_births" "_law_births" (defArgs s__law_births) (defBody s__law_births) (defScope s__law_births) .none kV33 dc33 pm33 an33 cd33 ct33), sl33⟩)
    (c33 : PySem.W.codeIn K cd33 "_law_births" = true)
    (k33 : PySem.W.keepIn K (.ref f__law_births) = true)
    (a34 : PySem.W.nsIn K mainGlobals "_law_due" = some (some (.ref f__law_due)))
    (l34 : K.lookup f__law_due = some ⟨oc34, od34, .func (PySem.W.fnOf "_law_due" "_law_due" (defArgs s__law_due) (defBody s__law_due) (defScope s__law_due) .none kV34 dc34 pm34 an34 cd34 ct34), sl34⟩)
    (c34 : PySem.W.codeIn K cd34 "_law_due" = true)
    (k34 : PySem.W.keepIn K (.ref f__law_due) = true)
    (a35 : PySem.W.nsIn K mainGlobals "_law_found" = some (some (.ref f__law_found)))
    (l35 : K.lookup f__law_found = some ⟨oc35, od35, .func (PySem.W.fnOf "_law_found" "_law_found" (defArgs s__law_found) (defBody s__law_found) (defScope s__law_found) .none kV35 dc35 pm35 an35 cd35 ct35), sl35⟩)
    (c35 : PySem.W.codeIn K cd35 "_law_found" = true)
    (k35 : PySem.W.keepIn K (.ref f__law_found) = true)
    (a36 : PySem.W.nsIn K mainGlobals "_law_lies" = some (some (.ref f__law_lies)))
    (l36 : K.lookup f__law_lies = some ⟨oc36, od36, .func (PySem.W.fnOf "_law_lies" "_law_lies" (defArgs s__law_lies) (defBody s__law_lies) (defScope s__law_lies) .none kV36 dc36 pm36 an36 cd36 ct36), sl36⟩)
    (c36 : PySem.W.codeIn K cd36 "_law_lies" = true)
    (k36 : PySem.W.keepIn K (.ref f__law_lies) = true)
    (a37 : PySem.W.nsIn K mainGlobals "_law_least" = some (some (.ref f__law_least)))
    (l37 : K.lookup f__law_least = some ⟨oc37, od37, .func (PySem.W.fnOf "_law_least" "_law_least" (defArgs s__law_least) (defBody s__law_least) (defScope s__law_least) .none kV37 dc37 pm37 an37 cd37 ct37), sl37⟩)
    (c37 : PySem.W.codeIn K cd37 "_law_least" = true)
    (k37 : PySem.W.keepIn K (.ref f__law_least) = true)
    (a38 : PySem.W.nsIn K mainGlobals "_law_made" = some (some (.ref f__law_made)))
    (l38 : K.lookup f__law_made = some ⟨oc38, od38, .func (PySem.W.fnOf "_law_made" "_law_made" (defArgs s__law_made) (defBody s__law_made) (defScope s__law_made) .none kV38 dc38 pm38 an38 cd38 ct38), sl38⟩)
    (c38 : PySem.W.codeIn K cd38 "_law_made" = true)
    (k38 : PySem.W.keepIn K (.ref f__law_made) = true)
    (a39 : PySem.W.nsIn K mainGlobals "_law_back" = some (some (.ref f__law_back)))
    (l39 : K.lookup f__law_back = some ⟨oc39, od39, .func (PySem.W.fnOf "_law_back" "_law_back" (defArgs s__law_back) (defBody s__law_back) (defScope s__law_back) .none kV39 dc39 pm39 an39 cd39 ct39), sl39⟩)
    (c39 : PySem.W.codeIn K cd39 "_law_back" = true)
    (k39 : PySem.W.keepIn K (.ref f__law_back) = true)
    (a40 : PySem.W.nsIn K mainGlobals "_law_turn" = some (some (.ref f__law_turn)))
    (l40 : K.lookup f__law_turn = some ⟨oc40, od40, .func (PySem.W.fnOf "_law_turn" "_law_turn" (defArgs s__law_turn) (defBody s__law_turn) (defScope s__law_turn) .none kV40 dc40 pm40 an40 cd40 ct40), sl40⟩)
    (c40 : PySem.W.codeIn K cd40 "_law_turn" = true)
    (k40 : PySem.W.keepIn K (.ref f__law_turn) = true)
    (a41 : PySem.W.nsIn K mainGlobals "law" = some (some (.ref fl)))
    (l41 : K.lookup fl = some ⟨oc41, od41, .func (PySem.W.fnOf "law" "law" (defArgs s_law) (defBody s_law) (defScope s_law) .none kV41 dc41 pm41 an41 cd41 ct41), sl41⟩)
    (c41 : PySem.W.codeIn K cd41 "law" = true)
    (k41 : PySem.W.keepIn K (.ref fl) = true)
    (pg_Cell : PySem.W.plainGet K C_Cell Str.empty = true)
    (hd_Cell : PySem.W.hasDictIn K C_Cell = true)
    (po_Cell : PySem.W.plainOver K C_Cell = true)
    (sa_Cell : PySem.W.findIn K (.ref C_Cell) "__setattr__" = some (some (.builtin "object.__setattr__")))
    (mk_Cell : PySem.W.makesIn K C_Cell = true)
    (kc_Cell : PySem.W.keepIn K (.ref C_Cell) = true)
    (n_Cell_birth : PySem.W.findIn K (.ref C_Cell) "birth" = some none)
    (n_Cell_bulk : PySem.W.findIn K (.ref C_Cell) "bulk" = some none)
    (n_Cell_tone : PySem.W.findIn K (.ref C_Cell) "tone" = some none)
    (n_Cell_load : PySem.W.findIn K (.ref C_Cell) "load" = some none)
    (n_Cell_fields : PySem.W.findIn K (.ref C_Cell) "fields" = some none)
    (eq1_Cell : PySem.W.findIn K (.ref C_Cell) "__eq__" = some (some (.builtin "object.__eq__")))
    (eq2_Cell : PySem.W.mroIn K C_Cell (.type "object") = some true)
    (pg_Heap : PySem.W.plainGet K C_Heap Str.empty = true)
    (hd_Heap : PySem.W.hasDictIn K C_Heap = true)
    (po_Heap : PySem.W.plainOver K C_Heap = true)
    (sa_Heap : PySem.W.findIn K (.ref C_Heap) "__setattr__" = some (some (.builtin "object.__setattr__")))
    (mk_Heap : PySem.W.makesIn K C_Heap = true)
    (kc_Heap : PySem.W.keepIn K (.ref C_Heap) = true)
    (n_Heap_room : PySem.W.findIn K (.ref C_Heap) "room" = some none)
    (n_Heap_cells : PySem.W.findIn K (.ref C_Heap) "cells" = some none)
    (n_Heap_used : PySem.W.findIn K (.ref C_Heap) "used" = some none)
    (n_Heap_born : PySem.W.findIn K (.ref C_Heap) "born" = some none)
    (pg_Hand : PySem.W.plainGet K C_Hand Str.empty = true)
    (hd_Hand : PySem.W.hasDictIn K C_Hand = true)
    (po_Hand : PySem.W.plainOver K C_Hand = true)
    (sa_Hand : PySem.W.findIn K (.ref C_Hand) "__setattr__" = some (some (.builtin "object.__setattr__")))
    (mk_Hand : PySem.W.makesIn K C_Hand = true)
    (kc_Hand : PySem.W.keepIn K (.ref C_Hand) = true)
    (n_Hand_name : PySem.W.findIn K (.ref C_Hand) "name" = some none)
    (n_Hand_slots : PySem.W.findIn K (.ref C_Hand) "slots" = some none)
    (pg_Sweeper : PySem.W.plainGet K C_Sweeper Str.empty = true)
    (hd_Sweeper : PySem.W.hasDictIn K C_Sweeper = true)
    (po_Sweeper : PySem.W.plainOver K C_Sweeper = true)
    (sa_Sweeper : PySem.W.findIn K (.ref C_Sweeper) "__setattr__" = some (some (.builtin "object.__setattr__")))
    (mk_Sweeper : PySem.W.makesIn K C_Sweeper = true)
    (kc_Sweeper : PySem.W.keepIn K (.ref C_Sweeper) = true)
    (n_Sweeper_sense : PySem.W.findIn K (.ref C_Sweeper) "sense" = some none)
    (n_Sweeper_phase : PySem.W.findIn K (.ref C_Sweeper) "phase" = some none)
    (n_Sweeper_grey : PySem.W.findIn K (.ref C_Sweeper) "grey" = some none)
    (n_Sweeper_looked : PySem.W.findIn K (.ref C_Sweeper) "looked" = some none)
    (n_Sweeper_turn : PySem.W.findIn K (.ref C_Sweeper) "turn" = some none)
    (n_Sweeper_at : PySem.W.findIn K (.ref C_Sweeper) "at" = some none)
    (n_Sweeper_stop : PySem.W.findIn K (.ref C_Sweeper) "stop" = some none)
    (n_Sweeper_walks : PySem.W.findIn K (.ref C_Sweeper) "walks" = some none)
    (n_Sweeper_looks : PySem.W.findIn K (.ref C_Sweeper) "looks" = some none)
    (n_Sweeper_passes : PySem.W.findIn K (.ref C_Sweeper) "passes" = some none)
    (n_Sweeper_loss : PySem.W.findIn K (.ref C_Sweeper) "loss" = some none)
    (pg_World : PySem.W.plainGet K C_World Str.empty = true)
    (hd_World : PySem.W.hasDictIn K C_World = true)
    (po_World : PySem.W.plainOver K C_World = true)
    (sa_World : PySem.W.findIn K (.ref C_World) "__setattr__" = some (some (.builtin "object.__setattr__")))
    (mk_World : PySem.W.makesIn K C_World = true)
    (kc_World : PySem.W.keepIn K (.ref C_World) = true)
    (n_World_heap : PySem.W.findIn K (.ref C_World) "heap" = some none)
    (n_World_kind : PySem.W.findIn K (.ref C_World) "kind" = some none)
    (n_World_hands : PySem.W.findIn K (.ref C_World) "hands" = some none)
    (n_World_names : PySem.W.findIn K (.ref C_World) "names" = some none)
    (n_World_sweeper : PySem.W.findIn K (.ref C_World) "sweeper" = some none)
    (pg_First : PySem.W.plainGet K C_First Str.empty = true)
    (hd_First : PySem.W.hasDictIn K C_First = true)
    (po_First : PySem.W.plainOver K C_First = true)
    (sa_First : PySem.W.findIn K (.ref C_First) "__setattr__" = some (some (.builtin "object.__setattr__")))
    (mk_First : PySem.W.makesIn K C_First = true)
    (kc_First : PySem.W.keepIn K (.ref C_First) = true)
    (oi_First : PySem.W.findIn K (.ref C_First) "__init__" = some (some (.builtin "object.__init__")))
    (pg_Each : PySem.W.plainGet K C_Each Str.empty = true)
    (hd_Each : PySem.W.hasDictIn K C_Each = true)
    (po_Each : PySem.W.plainOver K C_Each = true)
    (sa_Each : PySem.W.findIn K (.ref C_Each) "__setattr__" = some (some (.builtin "object.__setattr__")))
    (mk_Each : PySem.W.makesIn K C_Each = true)
    (kc_Each : PySem.W.keepIn K (.ref C_Each) = true)
    (oi_Each : PySem.W.findIn K (.ref C_Each) "__init__" = some (some (.builtin "object.__init__")))
    (pg_Last : PySem.W.plainGet K C_Last Str.empty = true)
    (hd_Last : PySem.W.hasDictIn K C_Last = true)
    (po_Last : PySem.W.plainOver K C_Last = true)
    (sa_Last : PySem.W.findIn K (.ref C_Last) "__setattr__" = some (some (.builtin "object.__setattr__")))
    (mk_Last : PySem.W.makesIn K C_Last = true)
    (kc_Last : PySem.W.keepIn K (.ref C_Last) = true)
    (oi_Last : PySem.W.findIn K (.ref C_Last) "__init__" = some (some (.builtin "object.__init__")))
    (pg_Kind : PySem.W.plainGet K C_Kind Str.empty = true)
    (hd_Kind : PySem.W.hasDictIn K C_Kind = true)
    (po_Kind : PySem.W.plainOver K C_Kind = true)
    (sa_Kind : PySem.W.findIn K (.ref C_Kind) "__setattr__" = some (some (.builtin "object.__setattr__")))
    (mk_Kind : PySem.W.makesIn K C_Kind = true)
    (kc_Kind : PySem.W.keepIn K (.ref C_Kind) = true)
    (n_Kind_looking : PySem.W.findIn K (.ref C_Kind) "looking" = some none)
    (n_Kind_tells : PySem.W.findIn K (.ref C_Kind) "tells" = some none)
    (x_Full : PySem.W.excIn K C_Full [.type "ValueError", .type "Exception", .type "BaseException", .type "object"] "ValueError.__new__" = true)
    (e_Full_Full : PySem.W.exmOne K (.ref C_Full) (.ref C_Full) = some true)
    (z_bool : PySem.W.nsIn K mainGlobals "bool" = some none)
    (z_int : PySem.W.nsIn K mainGlobals "int" = some none)
    (z_isinstance : PySem.W.nsIn K mainGlobals "isinstance" = some none)
    (z_len : PySem.W.nsIn K mainGlobals "len" = some none)
    (z_list : PySem.W.nsIn K mainGlobals "list" = some none)
    (z_range : PySem.W.nsIn K mainGlobals "range" = some none)
    (z_str : PySem.W.nsIn K mainGlobals "str" = some none)
    (z_tuple : PySem.W.nsIn K mainGlobals "tuple" = some none)
    (gl_NEW : PySem.W.nsIn K mainGlobals "NEW" = some (some u_NEW))
    (gr_NEW : RelV (.int 2) u_NEW)
    (gl_OLD : PySem.W.nsIn K mainGlobals "OLD" = some (some u_OLD))
    (gr_OLD : RelV (.int 1) u_OLD)
    : ∃ fd : FuncData, (∀ (s : Shared) (v : Value), BindsTo s fd ⟨[v], []⟩ [("_law_script", v)]) ∧ ∀ base : Heap, K.In base → base.Ns mainGlobals mg → FnOk l.prog w K mg base (G.CXe l.prog w) 7 fa fd ["_law_script"] (S_law K) := by
  have e := hfa.symm.trans (PySem.W.mg_of KI GN a41)
  cases e
  have T : Txt K mg C_Cell C_Heap C_Hand C_Sweeper C_World C_First C_Each C_Last C_Kind C_Full f_Cell___init__ f_Cell_units f_Heap___init__ f_Heap_make f_Heap_lay f_Heap_back f_Heap_free f_Heap_there f_cell_at f_birth_at f_Hand___init__ f_Sweeper___init__ f_World___init__ f_held f_births_held f_births_at f_has_sense f_mark_of f_told_cells f_told_cell f_First_word f_Each_word f_Last_word f_Kind___init__ f_Kind_words f_kind_of f__law_mix f__law_cell_at f__law_names f__law_same f__law_new f__law_birth f__law_births f__law_due f__law_found f__law_lies f__law_least f__law_made f__law_back f__law_turn := {
    cl_Cell := ⟨pg_Cell, hd_Cell, po_Cell, sa_Cell⟩
    m_Cell := PySem.W.mg_of KI GN a_Cell
    mk_Cell := ⟨mk_Cell, a1, i1, kc_Cell⟩
    n_Cell_birth := n_Cell_birth
    n_Cell_bulk := n_Cell_bulk
    n_Cell_tone := n_Cell_tone
    n_Cell_load := n_Cell_load
    n_Cell_fields := n_Cell_fields
    eq_Cell := ⟨eq1_Cell, eq2_Cell⟩
    cl_Heap := ⟨pg_Heap, hd_Heap, po_Heap, sa_Heap⟩
    m_Heap := PySem.W.mg_of KI GN a_Heap
    mk_Heap := ⟨mk_Heap, a3, i3, kc_Heap⟩
    n_Heap_room := n_Heap_room
    n_Heap_cells := n_Heap_cells
    n_Heap_used := n_Heap_used
    n_Heap_born := n_Heap_born
    cl_Hand := ⟨pg_Hand, hd_Hand, po_Hand, sa_Hand⟩
    m_Hand := PySem.W.mg_of KI GN a_Hand
    mk_Hand := ⟨mk_Hand, a11, i11, kc_Hand⟩
    n_Hand_name := n_Hand_name
    n_Hand_slots := n_Hand_slots
    cl_Sweeper := ⟨pg_Sweeper, hd_Sweeper, po_Sweeper, sa_Sweeper⟩
    m_Sweeper := PySem.W.mg_of KI GN a_Sweeper
    mk_Sweeper := ⟨mk_Sweeper, a12, i12, kc_Sweeper⟩
    n_Sweeper_sense := n_Sweeper_sense
    n_Sweeper_phase := n_Sweeper_phase
    n_Sweeper_grey := n_Sweeper_grey
    n_Sweeper_looked := n_Sweeper_looked
    n_Sweeper_turn := n_Sweeper_turn
    n_Sweeper_at := n_Sweeper_at
    n_Sweeper_stop := n_Sweeper_stop
    n_Sweeper_walks := n_Sweeper_walks
    n_Sweeper_looks := n_Sweeper_looks
    n_Sweeper_passes := n_Sweeper_passes
    n_Sweeper_loss := n_Sweeper_loss
    cl_World := ⟨pg_World, hd_World, po_World, sa_World⟩
    m_World := PySem.W.mg_of KI GN a_World
    mk_World := ⟨mk_World, a13, i13, kc_World⟩
    n_World_heap := n_World_heap
    n_World_kind := n_World_kind
    n_World_hands := n_World_hands
    n_World_names := n_World_names
    n_World_sweeper := n_World_sweeper
    cl_First := ⟨pg_First, hd_First, po_First, sa_First⟩
    m_First := PySem.W.mg_of KI GN a_First
    mk0_First := ⟨mk_First, oi_First, kc_First⟩
    cl_Each := ⟨pg_Each, hd_Each, po_Each, sa_Each⟩
    m_Each := PySem.W.mg_of KI GN a_Each
    mk0_Each := ⟨mk_Each, oi_Each, kc_Each⟩
    cl_Last := ⟨pg_Last, hd_Last, po_Last, sa_Last⟩
    m_Last := PySem.W.mg_of KI GN a_Last
    mk0_Last := ⟨mk_Last, oi_Last, kc_Last⟩
    cl_Kind := ⟨pg_Kind, hd_Kind, po_Kind, sa_Kind⟩
    m_Kind := PySem.W.mg_of KI GN a_Kind
    mk_Kind := ⟨mk_Kind, a24, i24, kc_Kind⟩
    n_Kind_looking := n_Kind_looking
    n_Kind_tells := n_Kind_tells
    m_Full := PySem.W.mg_of KI GN a_Full
    x_Full := x_Full
    e_Full_Full := e_Full_Full
    me_Cell___init__ := ⟨a1, i1, k1⟩
    me_Cell_units := ⟨a2, i2, k2⟩
    me_Heap___init__ := ⟨a3, i3, k3⟩
    me_Heap_make := ⟨a4, i4, k4⟩
    me_Heap_lay := ⟨a5, i5, k5⟩
    me_Heap_back := ⟨a6, i6, k6⟩
    me_Heap_free := ⟨a7, i7, k7⟩
    me_Heap_there := ⟨a8, i8, k8⟩
    m_cell_at := PySem.W.mg_of KI GN a9
    m_birth_at := PySem.W.mg_of KI GN a10
    me_Hand___init__ := ⟨a11, i11, k11⟩
    me_Sweeper___init__ := ⟨a12, i12, k12⟩
    me_World___init__ := ⟨a13, i13, k13⟩
    m_held := PySem.W.mg_of KI GN a14
    m_births_held := PySem.W.mg_of KI GN a15
    m_births_at := PySem.W.mg_of KI GN a16
    m_has_sense := PySem.W.mg_of KI GN a17
    m_mark_of := PySem.W.mg_of KI GN a18
    m_told_cells := PySem.W.mg_of KI GN a19
    m_told_cell := PySem.W.mg_of KI GN a20
    me_First_word := ⟨a21, i21, k21⟩
    me_Each_word := ⟨a22, i22, k22⟩
    me_Last_word := ⟨a23, i23, k23⟩
    me_Kind___init__ := ⟨a24, i24, k24⟩
    me_Kind_words := ⟨a25, i25, k25⟩
    m_kind_of := PySem.W.mg_of KI GN a26
    m__law_mix := PySem.W.mg_of KI GN a27
    m__law_cell_at := PySem.W.mg_of KI GN a28
    m__law_names := PySem.W.mg_of KI GN a29
    m__law_same := PySem.W.mg_of KI GN a30
    m__law_new := PySem.W.mg_of KI GN a31
    m__law_birth := PySem.W.mg_of KI GN a32
    m__law_births := PySem.W.mg_of KI GN a33
    m__law_due := PySem.W.mg_of KI GN a34
    m__law_found := PySem.W.mg_of KI GN a35
    m__law_lies := PySem.W.mg_of KI GN a36
    m__law_least := PySem.W.mg_of KI GN a37
    m__law_made := PySem.W.mg_of KI GN a38
    m__law_back := PySem.W.mg_of KI GN a39
    m__law_turn := PySem.W.mg_of KI GN a40
    z_bool := PySem.W.mg_none_of KI GN z_bool
    z_int := PySem.W.mg_none_of KI GN z_int
    z_isinstance := PySem.W.mg_none_of KI GN z_isinstance
    z_len := PySem.W.mg_none_of KI GN z_len
    z_list := PySem.W.mg_none_of KI GN z_list
    z_range := PySem.W.mg_none_of KI GN z_range
    z_str := PySem.W.mg_none_of KI GN z_str
    z_tuple := PySem.W.mg_none_of KI GN z_tuple
    g_NEW := ⟨_, PySem.W.mg_of KI GN gl_NEW, gr_NEW⟩
    g_OLD := ⟨_, PySem.W.mg_of KI GN gl_OLD, gr_OLD⟩
  }
  have F1 := fun_mk (st := s_Cell___init__) l1 c1 k1
  have b1 := F1.binds (ps := ["self", "birth", "many", "bulk", "tone"]) fun _ _ _ _ _ _ us hl => match us, hl with | [_, _, _, _, _], _ => rfl
  have F2 := fun_mk (st := s_Cell_units) l2 c2 k2
  have b2 := F2.binds (ps := ["self"]) fun _ _ _ _ _ _ us hl => match us, hl with | [_], _ => rfl
  have F3 := fun_mk (st := s_Heap___init__) l3 c3 k3
  have b3 := F3.binds (ps := ["self", "room"]) fun _ _ _ _ _ _ us hl => match us, hl with | [_, _], _ => rfl
  have F4 := G.funD_mk (st := s_Heap_make) l4 c4 k4
  have b4 := G.bindsD (ps := ["self", "many", "bulk", "tone"]) (ds := []) l4 t4 fun us hl => match us, hl with | [_, _, _, _], _ => ⟨_, rfl, rfl⟩
  have bd4_1 := G.bindsD (ps := ["self", "many", "bulk", "tone"]) (ds := [dv4_1]) l4 t4 fun us hl => match us, hl with | [_, _, _], _ => ⟨_, rfl, rfl⟩
  have bd4_2 := G.bindsD (ps := ["self", "many", "bulk", "tone"]) (ds := [dv4_0, dv4_1]) l4 t4 fun us hl => match us, hl with | [_, _], _ => ⟨_, rfl, rfl⟩
  have F5 := fun_mk (st := s_Heap_lay) l5 c5 k5
  have b5 := F5.binds (ps := ["self", "cell"]) fun _ _ _ _ _ _ us hl => match us, hl with | [_, _], _ => rfl
  have F6 := fun_mk (st := s_Heap_back) l6 c6 k6
  have b6 := F6.binds (ps := ["self", "place"]) fun _ _ _ _ _ _ us hl => match us, hl with | [_, _], _ => rfl
  have F7 := fun_mk (st := s_Heap_free) l7 c7 k7
  have b7 := F7.binds (ps := ["self"]) fun _ _ _ _ _ _ us hl => match us, hl with | [_], _ => rfl
  have F8 := fun_mk (st := s_Heap_there) l8 c8 k8
  have b8 := F8.binds (ps := ["self"]) fun _ _ _ _ _ _ us hl => match us, hl with | [_], _ => rfl
  have F9 := fun_mk (st := s_cell_at) l9 c9 k9
  have b9 := F9.binds (ps := ["heap", "place"]) fun _ _ _ _ _ _ us hl => match us, hl with | [_, _], _ => rfl
  have F10 := fun_mk (st := s_birth_at) l10 c10 k10
  have b10 := F10.binds (ps := ["heap", "place"]) fun _ _ _ _ _ _ us hl => match us, hl with | [_, _], _ => rfl
  have F11 := fun_mk (st := s_Hand___init__) l11 c11 k11
  have b11 := F11.binds (ps := ["self", "name", "many"]) fun _ _ _ _ _ _ us hl => match us, hl with | [_, _, _], _ => rfl
  have F12 := fun_mk (st := s_Sweeper___init__) l12 c12 k12
  have b12 := F12.binds (ps := ["self"]) fun _ _ _ _ _ _ us hl => match us, hl with | [_], _ => rfl
  have F13 := fun_mk (st := s_World___init__) l13 c13 k13
  have b13 := F13.binds (ps := ["self", "room", "kind", "hands"]) fun _ _ _ _ _ _ us hl => match us, hl with | [_, _, _, _], _ => rfl
  have F14 := fun_mk (st := s_held) l14 c14 k14
  have b14 := F14.binds (ps := ["world"]) fun _ _ _ _ _ _ us hl => match us, hl with | [_], _ => rfl
  have F15 := fun_mk (st := s_births_held) l15 c15 k15
  have b15 := F15.binds (ps := ["world"]) fun _ _ _ _ _ _ us hl => match us, hl with | [_], _ => rfl
  have F16 := fun_mk (st := s_births_at) l16 c16 k16
  have b16 := F16.binds (ps := ["heap", "places"]) fun _ _ _ _ _ _ us hl => match us, hl with | [_, _], _ => rfl
  have F17 := fun_mk (st := s_has_sense) l17 c17 k17
  have b17 := F17.binds (ps := ["world", "cell"]) fun _ _ _ _ _ _ us hl => match us, hl with | [_, _], _ => rfl
  have F18 := fun_mk (st := s_mark_of) l18 c18 k18
  have b18 := F18.binds (ps := ["world", "place"]) fun _ _ _ _ _ _ us hl => match us, hl with | [_, _], _ => rfl
  have F19 := fun_mk (st := s_told_cells) l19 c19 k19
  have b19 := F19.binds (ps := ["world"]) fun _ _ _ _ _ _ us hl => match us, hl with | [_], _ => rfl
  have F20 := fun_mk (st := s_told_cell) l20 c20 k20
  have b20 := F20.binds (ps := ["world", "place"]) fun _ _ _ _ _ _ us hl => match us, hl with | [_, _], _ => rfl
  have F21 := fun_mk (st := s_First_word) l21 c21 k21
  have b21 := F21.binds (ps := ["self"]) fun _ _ _ _ _ _ us hl => match us, hl with | [_], _ => rfl
  have F22 := fun_mk (st := s_Each_word) l22 c22 k22
  have b22 := F22.binds (ps := ["self"]) fun _ _ _ _ _ _ us hl => match us, hl with | [_], _ => rfl
  have F23 := fun_mk (st := s_Last_word) l23 c23 k23
  have b23 := F23.binds (ps := ["self"]) fun _ _ _ _ _ _ us hl => match us, hl with | [_], _ => rfl
  have F24 := fun_mk (st := s_Kind___init__) l24 c24 k24
  have b24 := F24.binds (ps := ["self", "looking", "tells"]) fun _ _ _ _ _ _ us hl => match us, hl with | [_, _, _], _ => rfl
  have F25 := fun_mk (st := s_Kind_words) l25 c25 k25
  have b25 := F25.binds (ps := ["self"]) fun _ _ _ _ _ _ us hl => match us, hl with | [_], _ => rfl
  have F26 := fun_mk (st := s_kind_of) l26 c26 k26
  have b26 := F26.binds (ps := ["text"]) fun _ _ _ _ _ _ us hl => match us, hl with | [_], _ => rfl
  have F27 := fun_mk (st := s__law_mix) l27 c27 k27
  have b27 := F27.binds (ps := ["_law_cell", "_law_factor"]) fun _ _ _ _ _ _ us hl => match us, hl with | [_, _], _ => rfl
  have F28 := fun_mk (st := s__law_cell_at) l28 c28 k28
  have b28 := F28.binds (ps := ["_law_script", "_law_k"]) fun _ _ _ _ _ _ us hl => match us, hl with | [_, _], _ => rfl
  have F29 := fun_mk (st := s__law_names) l29 c29 k29
  have b29 := F29.binds (ps := ["_law_cell", "_law_many"]) fun _ _ _ _ _ _ us hl => match us, hl with | [_, _], _ => rfl
  have F30 := fun_mk (st := s__law_same) l30 c30 k30
  have b30 := F30.binds (ps := ["_law_found_here", "_law_due_here"]) fun _ _ _ _ _ _ us hl => match us, hl with | [_, _], _ => rfl
  have F31 := fun_mk (st := s__law_new) l31 c31 k31
  have b31 := F31.binds (ps := ["_law_world", "_law_pairs", "_law_room"]) fun _ _ _ _ _ _ us hl => match us, hl with | [_, _, _], _ => rfl
  have F32 := fun_mk (st := s__law_birth) l32 c32 k32
  have b32 := F32.binds (ps := ["_law_places", "_law_place"]) fun _ _ _ _ _ _ us hl => match us, hl with | [_, _], _ => rfl
  have F33 := fun_mk (st := s__law_births) l33 c33 k33
  have b33 := F33.binds (ps := ["_law_places", "_law_row"]) fun _ _ _ _ _ _ us hl => match us, hl with | [_, _], _ => rfl
  have F34 := fun_mk (st := s__law_due) l34 c34 k34
  have b34 := F34.binds (ps := ["_law_places", "_law_rows", "_law_which"]) fun _ _ _ _ _ _ us hl => match us, hl with | [_, _, _], _ => rfl
  have F35 := fun_mk (st := s__law_found) l35 c35 k35
  have b35 := F35.binds (ps := ["_law_world", "_law_which"]) fun _ _ _ _ _ _ us hl => match us, hl with | [_, _], _ => rfl
  have F36 := fun_mk (st := s__law_lies) l36 c36 k36
  have b36 := F36.binds (ps := ["_law_places", "_law_cell"]) fun _ _ _ _ _ _ us hl => match us, hl with | [_, _], _ => rfl
  have F37 := fun_mk (st := s__law_least) l37 c37 k37
  have b37 := F37.binds (ps := ["_law_places"]) fun _ _ _ _ _ _ us hl => match us, hl with | [_], _ => rfl
  have F38 := fun_mk (st := s__law_made) l38 c38 k38
  have b38 := F38.binds (ps := ["_law_world", "_law_places", "_law_state", "_law_many", "_law_bulk"]) fun _ _ _ _ _ _ us hl => match us, hl with | [_, _, _, _, _], _ => rfl
  have F39 := fun_mk (st := s__law_back) l39 c39 k39
  have b39 := F39.binds (ps := ["_law_world", "_law_places", "_law_state", "_law_place"]) fun _ _ _ _ _ _ us hl => match us, hl with | [_, _, _, _], _ => rfl
  have F40 := fun_mk (st := s__law_turn) l40 c40 k40
  have b40 := F40.binds (ps := ["_law_world", "_law_places", "_law_rows", "_law_state", "_law_cell"]) fun _ _ _ _ _ _ us hl => match us, hl with | [_, _, _, _, _], _ => rfl
  have F41 := fun_mk (st := s_law) l41 c41 k41
  refine ⟨PySem.W.fnOf "law" "law" (defArgs s_law) (defBody s_law) (defScope s_law) .none kV41 dc41 pm41 an41 cd41 ct41, fun s v => .of_eq rfl, fun base _ _ => ?_⟩
  have G1 := ok_Cell___init__ (P := l.prog) (w := w) (base := base) (XQ := ⟨C_World, C_Heap, C_Cell, C_Kind, C_Hand, C_Sweeper, C_First, C_Each, C_Last⟩) T F1 
  have G2 := ok_Cell_units (P := l.prog) (w := w) (base := base) (XQ := ⟨C_World, C_Heap, C_Cell, C_Kind, C_Hand, C_Sweeper, C_First, C_Each, C_Last⟩) T F2 
  have G3 := ok_Heap___init__ (P := l.prog) (w := w) (base := base) (XQ := ⟨C_World, C_Heap, C_Cell, C_Kind, C_Hand, C_Sweeper, C_First, C_Each, C_Last⟩) T F3 
  have G5 := ok_Heap_lay (P := l.prog) (w := w) (base := base) (XQ := ⟨C_World, C_Heap, C_Cell, C_Kind, C_Hand, C_Sweeper, C_First, C_Each, C_Last⟩) T F5 
  have G7 := ok_Heap_free (P := l.prog) (w := w) (base := base) (XQ := ⟨C_World, C_Heap, C_Cell, C_Kind, C_Hand, C_Sweeper, C_First, C_Each, C_Last⟩) T F7 
  have G8 := ok_Heap_there (P := l.prog) (w := w) (base := base) (XQ := ⟨C_World, C_Heap, C_Cell, C_Kind, C_Hand, C_Sweeper, C_First, C_Each, C_Last⟩) T F8 
  have G9 := ok_cell_at (P := l.prog) (w := w) (base := base) (XQ := ⟨C_World, C_Heap, C_Cell, C_Kind, C_Hand, C_Sweeper, C_First, C_Each, C_Last⟩) T F9 
  have G11 := ok_Hand___init__ (P := l.prog) (w := w) (base := base) (XQ := ⟨C_World, C_Heap, C_Cell, C_Kind, C_Hand, C_Sweeper, C_First, C_Each, C_Last⟩) T F11 
  have G12 := ok_Sweeper___init__ (P := l.prog) (w := w) (base := base) (XQ := ⟨C_World, C_Heap, C_Cell, C_Kind, C_Hand, C_Sweeper, C_First, C_Each, C_Last⟩) T F12 
  have G14 := ok_held (P := l.prog) (w := w) (base := base) (XQ := ⟨C_World, C_Heap, C_Cell, C_Kind, C_Hand, C_Sweeper, C_First, C_Each, C_Last⟩) T F14 
  have G17 := ok_has_sense (P := l.prog) (w := w) (base := base) (XQ := ⟨C_World, C_Heap, C_Cell, C_Kind, C_Hand, C_Sweeper, C_First, C_Each, C_Last⟩) T F17 
  have G21 := ok_First_word (P := l.prog) (w := w) (base := base) (XQ := ⟨C_World, C_Heap, C_Cell, C_Kind, C_Hand, C_Sweeper, C_First, C_Each, C_Last⟩) T F21 
  have G22 := ok_Each_word (P := l.prog) (w := w) (base := base) (XQ := ⟨C_World, C_Heap, C_Cell, C_Kind, C_Hand, C_Sweeper, C_First, C_Each, C_Last⟩) T F22 
  have G23 := ok_Last_word (P := l.prog) (w := w) (base := base) (XQ := ⟨C_World, C_Heap, C_Cell, C_Kind, C_Hand, C_Sweeper, C_First, C_Each, C_Last⟩) T F23 
  have G24 := ok_Kind___init__ (P := l.prog) (w := w) (base := base) (XQ := ⟨C_World, C_Heap, C_Cell, C_Kind, C_Hand, C_Sweeper, C_First, C_Each, C_Last⟩) T F24 
  have G27 := ok__law_mix (P := l.prog) (w := w) (base := base) (XQ := ⟨C_World, C_Heap, C_Cell, C_Kind, C_Hand, C_Sweeper, C_First, C_Each, C_Last⟩) T F27 
  have G28 := ok__law_cell_at (P := l.prog) (w := w) (base := base) (XQ := ⟨C_World, C_Heap, C_Cell, C_Kind, C_Hand, C_Sweeper, C_First, C_Each, C_Last⟩) T F28 
  have G32 := ok__law_birth (P := l.prog) (w := w) (base := base) (XQ := ⟨C_World, C_Heap, C_Cell, C_Kind, C_Hand, C_Sweeper, C_First, C_Each, C_Last⟩) T F32 
  have G36 := ok__law_lies (P := l.prog) (w := w) (base := base) (XQ := ⟨C_World, C_Heap, C_Cell, C_Kind, C_Hand, C_Sweeper, C_First, C_Each, C_Last⟩) T F36 
  have G37 := ok__law_least (P := l.prog) (w := w) (base := base) (XQ := ⟨C_World, C_Heap, C_Cell, C_Kind, C_Hand, C_Sweeper, C_First, C_Each, C_Last⟩) T F37 
  have G6 := ok_Heap_back (P := l.prog) (w := w) (base := base) (XQ := ⟨C_World, C_Heap, C_Cell, C_Kind, C_Hand, C_Sweeper, C_First, C_Each, C_Last⟩) T F6 G2 b2 k2
  have G10 := ok_birth_at (P := l.prog) (w := w) (base := base) (XQ := ⟨C_World, C_Heap, C_Cell, C_Kind, C_Hand, C_Sweeper, C_First, C_Each, C_Last⟩) T F10 G9 b9 k9
  have G18 := ok_mark_of (P := l.prog) (w := w) (base := base) (XQ := ⟨C_World, C_Heap, C_Cell, C_Kind, C_Hand, C_Sweeper, C_First, C_Each, C_Last⟩) T F18 G17 b17 k17
  have G25 := ok_Kind_words (P := l.prog) (w := w) (base := base) (XQ := ⟨C_World, C_Heap, C_Cell, C_Kind, C_Hand, C_Sweeper, C_First, C_Each, C_Last⟩) T F25 G22 b22 k22 G21 b21 k21 G23 b23 k23
  have G29 := ok__law_names (P := l.prog) (w := w) (base := base) (XQ := ⟨C_World, C_Heap, C_Cell, C_Kind, C_Hand, C_Sweeper, C_First, C_Each, C_Last⟩) T F29 G27 b27 k27
  have G33 := ok__law_births (P := l.prog) (w := w) (base := base) (XQ := ⟨C_World, C_Heap, C_Cell, C_Kind, C_Hand, C_Sweeper, C_First, C_Each, C_Last⟩) T F33 G32 b32 k32
  have G4 := ok_Heap_make (P := l.prog) (w := w) (base := base) (XQ := ⟨C_World, C_Heap, C_Cell, C_Kind, C_Hand, C_Sweeper, C_First, C_Each, C_Last⟩) T F4 G1 b1 k1 G2 b2 k2 G7 b7 k7 G5 b5 k5
  have G13 := ok_World___init__ (P := l.prog) (w := w) (base := base) (XQ := ⟨C_World, C_Heap, C_Cell, C_Kind, C_Hand, C_Sweeper, C_First, C_Each, C_Last⟩) T F13 G11 b11 k11 G3 b3 k3 G12 b12 k12
  have G16 := ok_births_at (P := l.prog) (w := w) (base := base) (XQ := ⟨C_World, C_Heap, C_Cell, C_Kind, C_Hand, C_Sweeper, C_First, C_Each, C_Last⟩) T F16 G10 b10 k10
  have G26 := ok_kind_of (P := l.prog) (w := w) (base := base) (XQ := ⟨C_World, C_Heap, C_Cell, C_Kind, C_Hand, C_Sweeper, C_First, C_Each, C_Last⟩) T F26 G24 b24 k24 G25 b25 k25
  have G34 := ok__law_due (P := l.prog) (w := w) (base := base) (XQ := ⟨C_World, C_Heap, C_Cell, C_Kind, C_Hand, C_Sweeper, C_First, C_Each, C_Last⟩) T F34 G33 b33 k33
  have G15 := ok_births_held (P := l.prog) (w := w) (base := base) (XQ := ⟨C_World, C_Heap, C_Cell, C_Kind, C_Hand, C_Sweeper, C_First, C_Each, C_Last⟩) T F15 G16 b16 k16
  have G20 := ok_told_cell (P := l.prog) (w := w) (base := base) (XQ := ⟨C_World, C_Heap, C_Cell, C_Kind, C_Hand, C_Sweeper, C_First, C_Each, C_Last⟩) T F20 G16 b16 k16 G18 b18 k18
  have R30_0 := ok__law_same0 (P := l.prog) (w := w) (base := base) (XQ := ⟨C_World, C_Heap, C_Cell, C_Kind, C_Hand, C_Sweeper, C_First, C_Each, C_Last⟩) T F30 (G.fn_never (k := 0) fun _ _ _ _ ⟨_, _, _, z⟩ => z) b30 k30 
  have R30_1 := ok__law_same (P := l.prog) (w := w) (base := base) (XQ := ⟨C_World, C_Heap, C_Cell, C_Kind, C_Hand, C_Sweeper, C_First, C_Each, C_Last⟩) (d := 0) (lv := 1) T (by decide) F30 R30_0 b30 k30 
  have R30_2 := ok__law_same (P := l.prog) (w := w) (base := base) (XQ := ⟨C_World, C_Heap, C_Cell, C_Kind, C_Hand, C_Sweeper, C_First, C_Each, C_Last⟩) (d := 1) (lv := 2) T (by decide) F30 R30_1 b30 k30 
  have R30_3 := ok__law_same (P := l.prog) (w := w) (base := base) (XQ := ⟨C_World, C_Heap, C_Cell, C_Kind, C_Hand, C_Sweeper, C_First, C_Each, C_Last⟩) (d := 2) (lv := 3) T (by decide) F30 R30_2 b30 k30 
  have G30 := R30_3
  have G19 := ok_told_cells (P := l.prog) (w := w) (base := base) (XQ := ⟨C_World, C_Heap, C_Cell, C_Kind, C_Hand, C_Sweeper, C_First, C_Each, C_Last⟩) T F19 G8 b8 k8 G20 b20 k20
  have G31 := ok__law_new (P := l.prog) (w := w) (base := base) (XQ := ⟨C_World, C_Heap, C_Cell, C_Kind, C_Hand, C_Sweeper, C_First, C_Each, C_Last⟩) T F31 G30 b30 k30 G14 b14 k14
  have G38 := ok__law_made (P := l.prog) (w := w) (base := base) (XQ := ⟨C_World, C_Heap, C_Cell, C_Kind, C_Hand, C_Sweeper, C_First, C_Each, C_Last⟩) T F38 G4 b4 k4 G37 b37 k37 G30 b30 k30 bd4_1 (.cons dr4_1 .nil)
  have G39 := ok__law_back (P := l.prog) (w := w) (base := base) (XQ := ⟨C_World, C_Heap, C_Cell, C_Kind, C_Hand, C_Sweeper, C_First, C_Each, C_Last⟩) T F39 G6 b6 k6 G30 b30 k30
  have G35 := ok__law_found (P := l.prog) (w := w) (base := base) (XQ := ⟨C_World, C_Heap, C_Cell, C_Kind, C_Hand, C_Sweeper, C_First, C_Each, C_Last⟩) T F35 G15 b15 k15 G14 b14 k14 G19 b19 k19
  have G40 := ok__law_turn (P := l.prog) (w := w) (base := base) (XQ := ⟨C_World, C_Heap, C_Cell, C_Kind, C_Hand, C_Sweeper, C_First, C_Each, C_Last⟩) T F40 G39 b39 k39 G36 b36 k36 G38 b38 k38 G27 b27 k27
  exact ok_law (XQ := ⟨C_World, C_Heap, C_Cell, C_Kind, C_Hand, C_Sweeper, C_First, C_Each, C_Last⟩) T F41 G13 b13 k13 G28 b28 k28 G34 b34 k34 G35 b35 k35 G27 b27 k27 G29 b29 k29 G31 b31 k31 G30 b30 k30 G40 b40 k40 G26 b26 k26 G19 b19 k19
theorem walk {l : PySem.W.OpenLaw} {q : Program} {loose : List Str} {XP : (Str → Option Value) → Heap → Prop} {YP : World → Heap → Prop} {d : DefRec} {K : Params → PySem.W.Frag} (hn : l.most = some 63) (hdf : d.params.defaults = [])
    (hY : ∀ (w : World) (h : Heap), YP w h → (K w.params).In h)
    (F : ∀ (w : World) (mg : Str → Option Value) (fa : Addr) (h : Heap), (K w.params).In h → h.Ns mainGlobals mg → mg d.name = some (.ref fa) →
      ∃ fd : FuncData, (∀ (s : Shared) (u : Value), BindsTo s fd ⟨[u], []⟩ [("_law_script", u)]) ∧ ∀ base : Heap, (K w.params).In base → base.Ns mainGlobals mg → FnOk l.prog w (K w.params) mg base (G.CXe l.prog w) 7 fa fd ["_law_script"] (S_law (K w.params))) :
    PySem.W.WalkO q loose XP YP l.row.toRowW d [] (fun f vs => PySem.call f vs) :=
  G.walk_ofB (n := 63) (k := 7) (x := "_law_script") (CX := fun w => G.CXe l.prog w) (sp := fun w => S_law (K w.params)) hn (by decide) hdf ⟨rfl, by decide, by decide⟩ hY F (fun _ _ a ns hl _ hS hb => ⟨a, rfl, ns, hS, hl, hb, fun _ => rfl⟩) fun _ _ _ _ _ z => by
    obtain ⟨_, _, _, _, _, _, _, _, _, _, _, _, z⟩ := z
    exact z
end K13
def PySem.W.Fast.tw11811859285192773977 : Nat := 0
def PySem.W.Fast.tw3365997560544183281 : Nat := 0
def PySem.W.Fast.tw9570503026923342942 : Nat := 0
def PySem.W.Fast.tw17125924463809181068 : Nat := 0
def PySem.W.Fast.tw17041229555526896076 : Nat := 0
def PySem.W.Fast.tw4801008592612453703 : Nat := 0
def PySem.W.Fast.tw17881391994981198128 : Nat := 0
def PySem.W.Fast.tw3971932397046820478 : Nat := 0
def PySem.W.Fast.tw16065836325013944838 : Nat := 0
def PySem.W.Fast.tw4348307679643644238 : Nat := 0
def PySem.W.Fast.tw17916021511470941218 : Nat := 0
def PySem.W.Fast.tw443489532688833838 : Nat := 0
def PySem.W.Fast.tw17372025168779976478 : Nat := 0
def PySem.W.Fast.tw17925505111519611043 : Nat := 0
def PySem.W.Fast.tw13102253169025812807 : Nat := 0
def PySem.W.Fast.tw2984555650789091251 : Nat := 0
def PySem.W.Fast.tw16619971629016373093 : Nat := 0
def PySem.W.Fast.tw8693165235292478384 : Nat := 0
def PySem.W.Fast.tw5815463424016950731 : Nat := 0
def PySem.W.Fast.tw17425883916877474004 : Nat := 0
open PySem PySem.W PyProof.Rows
set_option maxRecDepth 100000 in
set_option maxHeartbeats 0 in
theorem PySem.Challenge.cw_greywalk_k13_a_world_told_holds : PySem.Challenge.rw_greywalk_k13_a_world_told.Holds := by
  w_on; o_law; k_head; (case hw => w_witness2)
  k_fill
  refine K13.walk (l := PySem.Challenge.rw_greywalk_k13_a_world_told) rfl rfl (fun w h Y => PySem.W.kIn_of Y) ?F
  case F =>
    intro w mg fa h KX G hmg
    refine' K13.all_mk KX G hmg ?a_Cell ?a_Heap ?a_Hand ?a_Sweeper ?a_World ?a_First ?a_Each ?a_Last ?a_Kind ?a_Full ?a1 ?i1 ?l1 ?c1 ?k1 ?a2 ?i2 ?l2 ?c2 ?k2 ?a3 ?i3 ?l3 ?c3 ?k3 ?a4 ?i4 ?l4 ?t4 ?dr4_0 ?dr4_1 ?c4 ?k4 ?a5 ?i5 ?l5 ?c5 ?k5 ?a6 ?i6 ?l6 ?c6 ?k6 ?a7 ?i7 ?l7 ?c7 ?k7 ?a8 ?i8 ?l8 ?c8 ?k8 ?a9 ?l9 ?c9 ?k9 ?a10 ?l10 ?c10 ?k10 ?a11 ?i11 ?l11 ?c11 ?k11 ?a12 ?i12 ?l12 ?c12 ?k12 ?a13 ?i13 ?l13 ?c13 ?k13 ?a14 ?l14 ?c14 ?k14 ?a15 ?l15 ?c15 ?k15 ?a16 ?l16 ?c16 ?k16 ?a17 ?l17 ?c17 ?k17 ?a18 ?l18 ?c18 ?k18 ?a19 ?l19 ?c19 ?k19 ?a20 ?l20 ?c20 ?k20 ?a21 ?i21 ?l21 ?c21 ?k21 ?a22 ?i22 ?l22 ?c22 ?k22 ?a23 ?i23 ?l23 ?c23 ?k23 ?a24 ?i24 ?l24 ?c24 ?k24 ?a25 ?i25 ?l25 ?c25 ?k25 ?a26 ?l26 ?c26 ?k26 ?a27 ?l27 ?c27 ?k27 ?a28 ?l28 ?c28 ?k28 ?a29 ?l29 ?c29 ?k29 ?a30 ?l30 ?c30 ?k30 ?a31 ?l31 ?c31 ?k31 ?a32 ?l32 ?c32 ?k32 ?a33 ?l33 ?c33 ?k33 ?a34 ?l34 ?c34 ?k34 ?a35 ?l35 ?c35 ?k35 ?a36 ?l36 ?c36 ?k36 ?a37 ?l37 ?c37 ?k37 ?a38 ?l38 ?c38 ?k38 ?a39 ?l39 ?c39 ?k39 ?a40 ?l40 ?c40 ?k40 ?a41 ?l41 ?c41 ?k41 ?pg_Cell ?hd_Cell ?po_Cell ?sa_Cell ?mk_Cell ?kc_Cell ?n_Cell_birth ?n_Cell_bulk ?n_Cell_tone ?n_Cell_load ?n_Cell_fields ?eq1_Cell ?eq2_Cell ?pg_Heap ?hd_Heap ?po_Heap ?sa_Heap ?mk_Heap ?kc_Heap ?n_Heap_room ?n_Heap_cells ?n_Heap_used ?n_Heap_born ?pg_Hand ?hd_Hand ?po_Hand ?sa_Hand ?mk_Hand ?kc_Hand ?n_Hand_name ?n_Hand_slots ?pg_Sweeper ?hd_Sweeper ?po_Sweeper ?sa_Sweeper ?mk_Sweeper ?kc_Sweeper ?n_Sweeper_sense ?n_Sweeper_phase ?n_Sweeper_grey ?n_Sweeper_looked ?n_Sweeper_turn ?n_Sweeper_at ?n_Sweeper_stop ?n_Sweeper_walks ?n_Sweeper_looks ?n_Sweeper_passes ?n_Sweeper_loss ?pg_World ?hd_World ?po_World ?sa_World ?mk_World ?kc_World ?n_World_heap ?n_World_kind ?n_World_hands ?n_World_names ?n_World_sweeper ?pg_First ?hd_First ?po_First ?sa_First ?mk_First ?kc_First ?oi_First ?pg_Each ?hd_Each ?po_Each ?sa_Each ?mk_Each ?kc_Each ?oi_Each ?pg_Last ?hd_Last ?po_Last ?sa_Last ?mk_Last ?kc_Last ?oi_Last ?pg_Kind ?hd_Kind ?po_Kind ?sa_Kind ?mk_Kind ?kc_Kind ?n_Kind_looking ?n_Kind_tells ?x_Full ?e_Full_Full ?z_bool ?z_int ?z_isinstance ?z_len ?z_list ?z_range ?z_str ?z_tuple ?gl_NEW ?gr_NEW ?gl_OLD ?gr_OLD
    (case a_Cell => k_is)
    (case a_Heap => k_is)
    (case a_Hand => k_is)
    (case a_Sweeper => k_is)
    (case a_World => k_is)
    (case a_First => k_is)
    (case a_Each => k_is)
    (case a_Last => k_is)
    (case a_Kind => k_is)
    (case a_Full => k_is)
    (case a1 => k_is)
    (case i1 => k_is)
    (case l1 => k_is)
    (case c1 => k_is)
    (case k1 => k_is)
    (case a2 => k_is)
    (case i2 => k_is)
    (case l2 => k_is)
    (case c2 => k_is)
    (case k2 => k_is)
    (case a3 => k_is)
    (case i3 => k_is)
    (case l3 => k_is)
    (case c3 => k_is)
    (case k3 => k_is)
    (case a4 => k_is)
    (case i4 => k_is)
    (case l4 => k_is)
    (case t4 => k_is)
    (case dr4_0 => first | exact rfl | exact ⟨_, rfl⟩)
    (case dr4_1 => first | exact rfl | exact ⟨_, rfl⟩)
    (case c4 => k_is)
    (case k4 => k_is)
    (case a5 => k_is)
    (case i5 => k_is)
    (case l5 => k_is)
    (case c5 => k_is)
    (case k5 => k_is)
    (case a6 => k_is)
    (case i6 => k_is)
    (case l6 => k_is)
    (case c6 => k_is)
    (case k6 => k_is)
    (case a7 => k_is)
    (case i7 => k_is)
    (case l7 => k_is)
    (case c7 => k_is)
    (case k7 => k_is)
    (case a8 => k_is)
    (case i8 => k_is)
    (case l8 => k_is)
    (case c8 => k_is)
    (case k8 => k_is)
    (case a9 => k_is)
    (case l9 => k_is)
    (case c9 => k_is)
    (case k9 => k_is)
    (case a10 => k_is)
    (case l10 => k_is)
    (case c10 => k_is)
    (case k10 => k_is)
    (case a11 => k_is)
    (case i11 => k_is)
    (case l11 => k_is)
    (case c11 => k_is)
    (case k11 => k_is)
    (case a12 => k_is)
    (case i12 => k_is)
    (case l12 => k_is)
    (case c12 => k_is)
    (case k12 => k_is)
    (case a13 => k_is)
    (case i13 => k_is)
    (case l13 => k_is)
    (case c13 => k_is)
    (case k13 => k_is)
    (case a14 => k_is)
    (case l14 => k_is)
    (case c14 => k_is)
    (case k14 => k_is)
    (case a15 => k_is)
    (case l15 => k_is)
    (case c15 => k_is)
    (case k15 => k_is)
    (case a16 => k_is)
    (case l16 => k_is)
    (case c16 => k_is)
    (case k16 => k_is)
    (case a17 => k_is)
    (case l17 => k_is)
    (case c17 => k_is)
    (case k17 => k_is)
    (case a18 => k_is)
    (case l18 => k_is)
    (case c18 => k_is)
    (case k18 => k_is)
    (case a19 => k_is)
    (case l19 => k_is)
    (case c19 => k_is)
    (case k19 => k_is)
    (case a20 => k_is)
    (case l20 => k_is)
    (case c20 => k_is)
    (case k20 => k_is)
    (case a21 => k_is)
    (case i21 => k_is)
    (case l21 => k_is)
    (case c21 => k_is)
    (case k21 => k_is)
    (case a22 => k_is)
    (case i22 => k_is)
    (case l22 => k_is)
    (case c22 => k_is)
    (case k22 => k_is)
    (case a23 => k_is)
    (case i23 => k_is)
    (case l23 => k_is)
    (case c23 => k_is)
    (case k23 => k_is)
    (case a24 => k_is)
    (case i24 => k_is)
    (case l24 => k_is)
    (case c24 => k_is)
    (case k24 => k_is)
    (case a25 => k_is)
    (case i25 => k_is)
    (case l25 => k_is)
    (case c25 => k_is)
    (case k25 => k_is)
    (case a26 => k_is)
    (case l26 => k_is)
    (case c26 => k_is)
    (case k26 => k_is)
    (case a27 => k_is)
    (case l27 => k_is)
    (case c27 => k_is)
    (case k27 => k_is)
    (case a28 => k_is)
    (case l28 => k_is)
    (case c28 => k_is)
    (case k28 => k_is)
    (case a29 => k_is)
    (case l29 => k_is)
    (case c29 => k_is)
    (case k29 => k_is)
    (case a30 => k_is)
    (case l30 => k_is)
    (case c30 => k_is)
    (case k30 => k_is)
    (case a31 => k_is)
    (case l31 => k_is)
    (case c31 => k_is)
    (case k31 => k_is)
    (case a32 => k_is)
    (case l32 => k_is)
    (case c32 => k_is)
    (case k32 => k_is)
    (case a33 => k_is)
    (case l33 => k_is)
    (case c33 => k_is)
    (case k33 => k_is)
    (case a34 => k_is)
    (case l34 => k_is)
    (case c34 => k_is)
    (case k34 => k_is)
    (case a35 => k_is)
    (case l35 => k_is)
    (case c35 => k_is)
    (case k35 => k_is)
    (case a36 => k_is)
    (case l36 => k_is)
    (case c36 => k_is)
    (case k36 => k_is)
    (case a37 => k_is)
    (case l37 => k_is)
    (case c37 => k_is)
    (case k37 => k_is)
    (case a38 => k_is)
    (case l38 => k_is)
    (case c38 => k_is)
    (case k38 => k_is)
    (case a39 => k_is)
    (case l39 => k_is)
    (case c39 => k_is)
    (case k39 => k_is)
    (case a40 => k_is)
    (case l40 => k_is)
    (case c40 => k_is)
    (case k40 => k_is)
    (case a41 => k_is)
    (case l41 => k_is)
    (case c41 => k_is)
    (case k41 => k_is)
    (case pg_Cell => k_is)
    (case hd_Cell => k_is)
    (case po_Cell => k_is)
    (case sa_Cell => k_is)
    (case mk_Cell => k_is)
    (case kc_Cell => k_is)
    (case n_Cell_birth => k_is)
    (case n_Cell_bulk => k_is)
    (case n_Cell_tone => k_is)
    (case n_Cell_load => k_is)
    (case n_Cell_fields => k_is)
    (case eq1_Cell => k_is)
    (case eq2_Cell => k_is)
    (case pg_Heap => k_is)
    (case hd_Heap => k_is)
    (case po_Heap => k_is)
    (case sa_Heap => k_is)
    (case mk_Heap => k_is)
    (case kc_Heap => k_is)
    (case n_Heap_room => k_is)
    (case n_Heap_cells => k_is)
    (case n_Heap_used => k_is)
    (case n_Heap_born => k_is)
    (case pg_Hand => k_is)
    (case hd_Hand => k_is)
    (case po_Hand => k_is)
    (case sa_Hand => k_is)
    (case mk_Hand => k_is)
    (case kc_Hand => k_is)
    (case n_Hand_name => k_is)
    (case n_Hand_slots => k_is)
    (case pg_Sweeper => k_is)
    (case hd_Sweeper => k_is)
    (case po_Sweeper => k_is)
    (case sa_Sweeper => k_is)
    (case mk_Sweeper => k_is)
    (case kc_Sweeper => k_is)
    (case n_Sweeper_sense => k_is)
    (case n_Sweeper_phase => k_is)
    (case n_Sweeper_grey => k_is)
    (case n_Sweeper_looked => k_is)
    (case n_Sweeper_turn => k_is)
    (case n_Sweeper_at => k_is)
    (case n_Sweeper_stop => k_is)
    (case n_Sweeper_walks => k_is)
    (case n_Sweeper_looks => k_is)
    (case n_Sweeper_passes => k_is)
    (case n_Sweeper_loss => k_is)
    (case pg_World => k_is)
    (case hd_World => k_is)
    (case po_World => k_is)
    (case sa_World => k_is)
    (case mk_World => k_is)
    (case kc_World => k_is)
    (case n_World_heap => k_is)
    (case n_World_kind => k_is)
    (case n_World_hands => k_is)
    (case n_World_names => k_is)
    (case n_World_sweeper => k_is)
    (case pg_First => k_is)
    (case hd_First => k_is)
    (case po_First => k_is)
    (case sa_First => k_is)
    (case mk_First => k_is)
    (case kc_First => k_is)
    (case oi_First => k_is)
    (case pg_Each => k_is)
    (case hd_Each => k_is)
    (case po_Each => k_is)
    (case sa_Each => k_is)
    (case mk_Each => k_is)
    (case kc_Each => k_is)
    (case oi_Each => k_is)
    (case pg_Last => k_is)
    (case hd_Last => k_is)
    (case po_Last => k_is)
    (case sa_Last => k_is)
    (case mk_Last => k_is)
    (case kc_Last => k_is)
    (case oi_Last => k_is)
    (case pg_Kind => k_is)
    (case hd_Kind => k_is)
    (case po_Kind => k_is)
    (case sa_Kind => k_is)
    (case mk_Kind => k_is)
    (case kc_Kind => k_is)
    (case n_Kind_looking => k_is)
    (case n_Kind_tells => k_is)
    (case x_Full => k_exc)
    (case e_Full_Full => kts_exm)
    (case z_bool => k_is)
    (case z_int => k_is)
    (case z_isinstance => k_is)
    (case z_len => k_is)
    (case z_list => k_is)
    (case z_range => k_is)
    (case z_str => k_is)
    (case z_tuple => k_is)
    (case gl_NEW => k_is)
    (case gr_NEW => first | exact rfl | exact ⟨_, rfl⟩)
    (case gl_OLD => k_is)
    (case gr_OLD => first | exact rfl | exact ⟨_, rfl⟩)
#print axioms PySem.Challenge.cw_greywalk_k13_a_world_told_holds


