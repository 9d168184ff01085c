import PyProof.Rows.All
import Wide.All
import OpenK.AllK
import Wide.FinOn
import Lean
import PyProof.EqAt
import PyProof.EqKinds
import PyProof.TupleCall
import KE.KItemsList
import PySem.Challenge.RW_greywalk_k09_ways_in_order
set_option Elab.async false
set_option linter.all false
set_option maxRecDepth 100000
namespace L2
open PySem PySem.Spec PyProof.Rows

abbrev Key := Sum Int Str
def keyIs : Key → Value → Bool
  | .inl k, v => Value.isInt k v
  | .inr x, v => Value.isStrOf x v
def keyH (w : World) : Key → Int
  | .inl k => hashInt k
  | .inr x => hashStr w x
theorem keyIs_shape : ∀ {k : Key} {v : Value}, keyIs k v = true → (∃ i t, k = Sum.inl i ∧ v = Value.int i t) ∨ (∃ x t, k = Sum.inr x ∧ v = Value.str x t)
  | .inl i, v, h => by
    obtain ⟨t, e⟩ := Value.isInt_shape (k := i) (v := v) h
    exact .inl ⟨i, t, rfl, e⟩
  | .inr x, v, h => by
    obtain ⟨t, e⟩ := Value.isStrOf_shape (x := x) (v := v) h
    exact .inr ⟨x, t, rfl, e⟩
theorem keyIs_int (i : Int) (t : Tok) : keyIs (.inl i) (.int i t) = true := by simp [keyIs, Value.isInt]
theorem keyIs_str (x : Str) (t : Tok) : keyIs (.inr x) (.str x t) = true := by simp [keyIs, Value.isStrOf]
theorem key_ll (a b : Int) : decide ((Sum.inl a : Key) = Sum.inl b) = (a == b) := by
  by_cases e : a = b
  · subst e; simp
  · have h : ¬ (Sum.inl a : Key) = Sum.inl b := fun q => e (Sum.inl.inj q)
    rw [decide_eq_false h]
    exact (beq_eq_false_iff_ne.mpr e).symm
theorem key_rr (a b : Str) : decide ((Sum.inr a : Key) = Sum.inr b) = decide (a = b) := by
  by_cases e : a = b
  · subst e; simp
  · have h : ¬ (Sum.inr a : Key) = Sum.inr b := fun q => e (Sum.inr.inj q)
    rw [decide_eq_false h, decide_eq_false e]
theorem key_lr (a : Int) (b : Str) : decide ((Sum.inl a : Key) = Sum.inr b) = false := decide_eq_false (fun q => nomatch q)
theorem key_rl (a : Str) (b : Int) : decide ((Sum.inr a : Key) = Sum.inl b) = false := decide_eq_false (fun q => nomatch q)

def mixKind (prog : Program) (w : World) : PySem.KeyKind prog w Key where
  is := keyIs
  hash := keyH w
  inj := fun v a b ha hb => by
    rcases keyIs_shape ha with ⟨i, t, rfl, rfl⟩ | ⟨x, t, rfl, rfl⟩
    · rcases keyIs_shape hb with ⟨j, u, rfl, e⟩ | ⟨y, u, rfl, e⟩
      · injection e with e1 _; rw [e1]
      · exact nomatch e
    · rcases keyIs_shape hb with ⟨j, u, rfl, e⟩ | ⟨y, u, rfl, e⟩
      · exact nomatch e
      · injection e with e1 _; rw [e1]
  byValue := fun k v h => by
    rcases keyIs_shape h with ⟨i, t, rfl, rfl⟩ | ⟨x, t, rfl, rfl⟩ <;> rfl
  pyHash := fun hv h => by
    rcases keyIs_shape hv with ⟨i, t, rfl, rfl⟩ | ⟨x, t, rfl, rfl⟩
    · exact wpAny_pyHash_int h
    · exact wpAny_pyHash_str h
  eqBool := fun hu hv h => by
    rcases keyIs_shape hu with ⟨i, t, rfl, rfl⟩ | ⟨x, t, rfl, rfl⟩
    · rcases keyIs_shape hv with ⟨j, u, rfl, rfl⟩ | ⟨y, u, rfl, rfl⟩
      · rw [key_ll] at h; exact wpAny_eqBool_int h
      · rw [key_lr] at h; exact SeqAt.EqAt.int_str i t y u _ _ _ _ h
    · rcases keyIs_shape hv with ⟨j, u, rfl, rfl⟩ | ⟨y, u, rfl, rfl⟩
      · rw [key_rl] at h; exact SeqAt.EqAt.str_int x t j u _ _ _ _ h
      · rw [key_rr] at h; exact wpAny_eqBool_str h
  «strs» := fun k x t v h => by
    rcases keyIs_shape h with ⟨i, u, rfl, e⟩ | ⟨y, u, rfl, e⟩
    · exact nomatch e
    · injection e with e1 _
      subst e1
      cases v <;> rfl

theorem mixKind_int (prog : Program) (w : World) (i : Int) (t : Tok) : (mixKind prog w).is (.inl i) (.int i t) = true := keyIs_int i t
theorem mixKind_str (prog : Program) (w : World) (x : Str) (t : Tok) : (mixKind prog w).is (.inr x) (.str x t) = true := keyIs_str x t
end L2

namespace L2
open PySem PySem.Spec PyProof.Rows

inductive V where
  | non | bl (b : Bool) | int (i : Int) | str (x : Str) | byt (b : Array UInt8) | flt (b : UInt64) | ref (a : Addr) | ty (n : String)
  deriving DecidableEq

def RelV : V → Value → Prop
  | .non, u => u = Value.none
  | .bl b, u => u = Value.bool b
  | .int i, u => ∃ t, u = Value.int i t
  | .str x, u => ∃ t, u = Value.str x t
  | .byt b, u => ∃ t, u = Value.bytes b t
  | .flt b, u => ∃ t, u = Value.float b t
  | .ref a, u => u = Value.ref a
  | .ty n, u => u = Value.type n

abbrev Vals : List V → List Value → Prop := Paired RelV
theorem Vals.length {xs : List V} {us : List Value} (r : Vals xs us) : xs.length = us.length := Paired.length r
theorem Vals.get : ∀ {xs : List V} {us : List Value} {i : Nat} {x : V}, Vals xs us → xs[i]? = some x → ∃ u, us[i]? = some u ∧ RelV x u
  | _, _, _, _, .nil, e => by simp at e
  | _, _, 0, _, .cons r _, e => by simp at e; subst e; exact ⟨_, rfl, r⟩
  | _, _, i + 1, x, .cons _ t, e => by
    obtain ⟨u, h1, h2⟩ := Vals.get (i := i) (x := x) t (by simpa using e)
    exact ⟨u, by simpa using h1, h2⟩
theorem Vals.set {x : V} {u : Value} (r : RelV x u) : ∀ {xs : List V} {us : List Value} (i : Nat), Vals xs us → Vals (xs.set i x) (us.set i u)
  | _, _, _, .nil => .nil
  | _, _, 0, .cons _ t => .cons r t
  | _, _, i + 1, .cons q t => .cons q (Vals.set r i t)
theorem Vals.append : ∀ {xs ys : List V} {us ws : List Value}, Vals xs us → Vals ys ws → Vals (xs ++ ys) (us ++ ws)
  | _, _, _, _, .nil, s => s
  | _, _, _, _, .cons r t, s => .cons r (Vals.append t s)
theorem Vals.take : ∀ {xs : List V} {us : List Value} (n : Nat), Vals xs us → Vals (xs.take n) (us.take n)
  | _, _, 0, _ => .nil
  | _, _, _ + 1, .nil => .nil
  | _, _, n + 1, .cons r t => .cons r (Vals.take n t)
theorem Vals.drop : ∀ {xs : List V} {us : List Value} (n : Nat), Vals xs us → Vals (xs.drop n) (us.drop n)
  | _, _, 0, r => r
  | _, _, _ + 1, .nil => .nil
  | _, _, n + 1, .cons _ t => Vals.drop n t
def RelO : Option V → Option Value → Prop
  | some v, some u => RelV v u
  | none, none => True
  | _, _ => False
def KV {κ : Type} : List (κ × V) → List (κ × Value) → Prop := Paired fun (p : κ × V) (q : κ × Value) => p.1 = q.1 ∧ RelV p.2 q.2

def kV : Key → V
  | .inl i => .int i
  | .inr x => .str x

inductive HO where
    | lst (xs : List V)
    | tup (xs : List V)
    | dK (kvs : List (Key × V)) | dT (kvs : List (List Key × V))
    | set (S : Int → Bool) (n : Nat)
    | ins (C dx : Addr) (fs : List (Str × V))
    | own (x : Addr)
    | xd (fs : List (Str × V))
    | met (f x : Addr)
    | rng (lo hi : Int)
    | frz (o : Obj) (u : HO)
    | tbl (ps : Array Value)
    | ext (φ : Heap → Prop)

abbrev Hp := Addr → Option HO
def upd (H : Hp) (a : Addr) (o : HO) : Hp := fun b => if b = a then some o else H b
theorem upd_same {H : Hp} {a : Addr} {o : HO} : upd H a o a = some o := by unfold upd; rw [if_pos rfl]
theorem upd_ne {H : Hp} {a b : Addr} {o : HO} (h : b ≠ a) : upd H a o b = H b := by unfold upd; rw [if_neg h]
theorem upd_upd {H : Hp} {a : Addr} {o u : HO} : upd (upd H a o) a u = upd H a u := by
  funext b; unfold upd; split <;> rfl
theorem ne_of {H : Hp} {a b : Addr} {o u : HO} (h : H a = some o) (h' : H b = some u) (d : o ≠ u) : a ≠ b := by
  intro e; subst e; rw [h] at h'; exact d (Option.some.inj h')
theorem ne_of_none {H : Hp} {a b : Addr} {o : HO} (h : H a = some o) (h' : H b = none) : a ≠ b := by
  intro e; subst e; rw [h] at h'; cases h'

section
variable (P : Program) (w : World)
def ObjOk (H : Hp) (h : Heap) (a : Addr) : HO → Prop
  | .lst xs => xs.length ≤ sizeLine ∧ ∃ (its : List Value) (n : Nat), Vals xs its ∧ h.get? a = some { cls := .type "list", data := .seq its.toArray n }
  | .tup xs => xs.length ≤ sizeLine ∧ ∃ its : List Value, Vals xs its ∧ IsTup h a its.toArray
  | .dK kvs => kvs.length ≤ sizeLine ∧ (a == sysModules) = false ∧ ∃ vs, KV kvs vs ∧ h.DictOf (mixKind P w) a vs
  | .dT kvs => kvs.length ≤ sizeLine ∧ (a == sysModules) = false ∧ ∃ xs : List (List Key × Addr × Value),
      Paired (fun (p : List Key × V) (q : List Key × Addr × Value) => p.1 = q.1 ∧ H q.2.1 = some (.tup (p.1.map kV)) ∧ RelV p.2 q.2.2) kvs xs ∧
      ∃ o es ep, h.get? a = some o ∧ o.ExactDict ∧ o.data = .dict es ep ∧ es.toList = xs.map (entryOfKey (tupleKind (mixKind P w))) ∧ (xs.map (·.1)).Nodup
  | .set S n => h.SetOf (intKind P w) a S n
  | .ins C dx fs => H dx = some (.own a) ∧ fs.length ≤ 1000 ∧ dx ≠ a ∧ h.get? a = some (PySem.W.instObj C dx) ∧
      ∃ mA, h.Ns1 dx mA ∧ (∀ f, RelO (fs.lookup f) (mA f)) ∧ PySem.Within mA (fs.map (·.1))
  | .own _ => ∃ o, h.get? a = some o
  | .xd fs => ∃ mA, h.Ns1 a mA ∧ ∀ f, RelO (fs.lookup f) (mA f)
  | .rng lo hi => ∃ t u v, h.get? a = some { cls := .type "range", data := .fields #[.int lo t, .int hi u, .int 1 v] }
  | .frz o u => h.get? a = some o ∧ ObjOk H h a u
  | .tbl ps => h.get? a = some { cls := .none, data := .fields ps }
  | .met f x => h.get? a = some (PySem.W.methodObj (.ref f) (.ref x))
  | .ext φ => φ h ∧ (∃ o, h.get? a = some o) ∧ ∀ h1 h2 : Heap, φ h1 → (∀ o, h1.get? a = some o → h2.get? a = some o) → φ h2
def HOk (H : Hp) (h : Heap) : Prop := ∀ a o, H a = some o → ObjOk P w H h a o
end

section
variable {P : Program} {w : World} {H H' : Hp} {h h' : Heap} {a : Addr} {o : HO}
theorem ObjOk.lt (x : ObjOk P w H h a o) : a < h.objs.size := by
  cases o with
  | lst xs => obtain ⟨_, _, _, _, e⟩ := x; exact Heap.lt_size e
  | tup xs => obtain ⟨_, _, _, p⟩ := x; exact p.lt
  | dK kvs => obtain ⟨_, _, _, _, o, _, _, e, _⟩ := x; exact Heap.lt_size e
  | dT kvs => obtain ⟨_, _, _, _, o, _, _, e, _⟩ := x; exact Heap.lt_size e
  | set S n => obtain ⟨o, _, _, _, e, _⟩ := x; exact Heap.lt_size e
  | ins C dx fs => obtain ⟨_, _, _, e, _⟩ := x; exact Heap.lt_size e
  | own y => obtain ⟨_, e⟩ := x; exact Heap.lt_size e
  | xd fs => obtain ⟨_, ⟨_, _, _, e, _⟩, _⟩ := x; exact Heap.lt_size e
  | rng lo hi => obtain ⟨_, _, _, e⟩ := x; exact Heap.lt_size e
  | frz ob u => obtain ⟨e, _⟩ := x; exact Heap.lt_size e
  | tbl ps => exact Heap.lt_size (show h.get? a = some _ from x)
  | met f y => exact Heap.lt_size (show h.get? a = some _ from x)
  | ext φ => obtain ⟨_, ⟨_, e⟩, _⟩ := x; exact Heap.lt_size e
theorem Paired.mapP {α β : Type} {F G : α → β → Prop} : ∀ {l₁ : List α} {l₂ : List β}, Paired F l₁ l₂ → (∀ a b, F a b → G a b) → Paired G l₁ l₂
  | _, _, .nil, _ => .nil
  | _, _, .cons r t, f => .cons (f _ _ r) (Paired.mapP t f)
theorem ObjOk.stay (x : ObjOk P w H h a o) (k : ∀ b u, (b = a ∨ H b = some (.own a)) → h.get? b = some u → h'.get? b = some u)
    (ho : ∀ b, H b = some (.own a) → H' b = some (.own a)) (ht : ∀ b xs, H b = some (.tup xs) → H' b = some (.tup xs)) : ObjOk P w H' h' a o := by
  induction o with
  | lst xs => obtain ⟨z, its, n, r, e⟩ := x; exact ⟨z, its, n, r, k _ _ (.inl rfl) e⟩
  | tup xs => obtain ⟨z, its, r, ob, e, c⟩ := x; exact ⟨z, its, r, ob, k _ _ (.inl rfl) e, c⟩
  | dK kvs => obtain ⟨z, y, vs, r, ob, es, ep, e, c⟩ := x; exact ⟨z, y, vs, r, ob, es, ep, k _ _ (.inl rfl) e, c⟩
  | dT kvs =>
    obtain ⟨z, y, xs, r, ob, es, ep, e, c⟩ := x
    exact ⟨z, y, xs, Paired.mapP r fun p q z => ⟨z.1, ht _ _ z.2.1, z.2.2⟩, ob, es, ep, k _ _ (.inl rfl) e, c⟩
  | set S n => obtain ⟨ob, es, ep, t, e, c⟩ := x; exact ⟨ob, es, ep, t, k _ _ (.inl rfl) e, c⟩
  | ins C dx fs =>
    obtain ⟨d, z, ne, e, mA, ⟨od, es, ep, e2, c⟩, r⟩ := x
    exact ⟨ho _ d, z, ne, k _ _ (.inl rfl) e, mA, ⟨od, es, ep, k _ _ (.inr d) e2, c⟩, r⟩
  | own y => obtain ⟨ob, e⟩ := x; exact ⟨ob, k _ _ (.inl rfl) e⟩
  | xd fs => obtain ⟨mA, ⟨od, es, ep, e, c⟩, r⟩ := x; exact ⟨mA, ⟨od, es, ep, k _ _ (.inl rfl) e, c⟩, r⟩
  | rng lo hi => obtain ⟨t, u, v, e⟩ := x; exact ⟨t, u, v, k _ _ (.inl rfl) e⟩
  | frz ob u ih => obtain ⟨e, q⟩ := x; exact ⟨k _ _ (.inl rfl) e, ih q⟩
  | tbl ps =>
    have e : h.get? a = some { cls := .none, data := .fields ps } := x
    show h'.get? a = some { cls := .none, data := .fields ps }
    exact k a _ (.inl rfl) e
  | met f y =>
    have e : h.get? a = some (PySem.W.methodObj (.ref f) (.ref y)) := x
    show h'.get? a = some (PySem.W.methodObj (.ref f) (.ref y))
    exact k a _ (.inl rfl) e
  | ext φ => obtain ⟨p, ⟨o, e⟩, st⟩ := x; exact ⟨st _ _ p fun o q => k _ _ (.inl rfl) q, ⟨o, k _ _ (.inl rfl) e⟩, st⟩
theorem HOk.lt (x : HOk P w H h) (e : H a = some o) : a < h.objs.size := (x a o e).lt
theorem HOk.fresh (x : HOk P w H h) (e : h.objs.size ≤ a) : H a = none := by
  cases q : H a with
  | none => rfl
  | some u => exact absurd (Nat.lt_of_lt_of_le (x.lt q) e) (Nat.lt_irrefl _)
theorem HOk.kept (x : HOk P w H h) (k : ∀ b u, h.get? b = some u → h'.get? b = some u) : HOk P w H h' := fun a o e =>
  (x a o e).stay (fun b u _ q => k b u q) (fun _ q => q) fun _ _ q => q
theorem HOk.laid (x : HOk P w H h) (k : ∀ b u, h.get? b = some u → h'.get? b = some u) (hp : h.objs.size ≤ a) (new : ObjOk P w (upd H a o) h' a o) : HOk P w (upd H a o) h' := fun b u e => by
  have hn := x.fresh hp
  by_cases hb : b = a
  · subst hb; rw [upd_same] at e; cases e; exact new
  · rw [upd_ne hb] at e
    exact (x b u e).stay (fun c v _ q => k c v q) (fun c q => by rw [upd_ne (ne_of_none q hn)]; exact q) fun c xs q => by rw [upd_ne (ne_of_none q hn)]; exact q
end

def Rd (H : Hp) (a : Addr) (u : HO) : Prop := H a = some u ∨ ∃ o, H a = some (.frz o u)
theorem Rd.ok {P : Program} {w : World} {H : Hp} {h : Heap} {a : Addr} {u : HO} (r : Rd H a u) (x : HOk P w H h) : ObjOk P w H h a u := by
  rcases r with r | ⟨o, r⟩
  · exact x a u r
  · obtain ⟨_, q⟩ := x a _ r
    exact q
def Mut : Option HO → Prop
  | some (.lst _) => True
  | some (.dK _) => True
  | some (.dT _) => True
  | some (.set _ _) => True
  | some (.ins _ _ _) => True
  | some (.ext _) => True
  | _ => False
section
variable {P : Program} {w : World} {H : Hp} {h h' : Heap} {x e : Addr} {o' : HO}
theorem HOk.write (ok : HOk P w H h) (mu : Mut (H x)) (he : e = x ∨ H e = some (.own x)) (k : ∀ b u, b ≠ e → h.get? b = some u → h'.get? b = some u) (heo : ∃ u, h'.get? e = some u)
    (new : ObjOk P w (upd H x o') h' x o') : HOk P w (upd H x o') h' := fun b u q => by
  have nown : ∀ c y, H c = some (.own y) → c ≠ x := fun c y r z => by subst z; rw [r] at mu; exact mu
  have ntup : ∀ c xs, H c = some (.tup xs) → c ≠ x := fun c xs r z => by subst z; rw [r] at mu; exact mu
  by_cases hb : b = x
  · subst hb; rw [upd_same] at q; cases q; exact new
  · rw [upd_ne hb] at q
    by_cases hbe : b = e
    · have q' : H b = some (.own x) := by
        rcases he with z | z
        · exact absurd (hbe.trans z) hb
        · rw [hbe]; exact z
      rw [q] at q'; cases q'
      obtain ⟨v, hv⟩ := heo
      exact ⟨v, by rw [hbe]; exact hv⟩
    · refine (ok b u q).stay (fun c v hc r => k c v ?_ r) (fun c r => by rw [upd_ne (nown c b r)]; exact r) fun c xs r => by rw [upd_ne (ntup c xs r)]; exact r
      rcases hc with rfl | hc
      · exact hbe
      · rintro rfl
        rcases he with z | z
        · exact nown c b hc z
        · rw [hc] at z; cases z; exact hb rfl
end

structure Un (fs ex : List Addr) (H H' : Hp) (h h' : Heap) : Prop where
  keep : ∀ b o, h.get? b = some o → H b = none → b ∉ fs → b ∉ ex → h'.get? b = some o
  slot : ∀ b o, h.get? b = some o → H b = none → b ∈ fs → b ∉ ex → ∃ sl, h'.get? b = some { o with slots := sl }
  free : ∀ b o, h.get? b = some o → H b = none → b ∉ ex → H' b = none
  there : ∀ b o, h.get? b = some o → b ∉ ex → ∃ o', h'.get? b = some o'
  tups : ∀ b xs, H b = some (.tup xs) → H' b = some (.tup xs)
  frzs : ∀ b o u, H b = some (.frz o u) → H' b = some (.frz o u)
  tbls : ∀ b ps, H b = some (.tbl ps) → ∃ more, H' b = some (.tbl (ps ++ more))
section
variable {fs fs' ex ex' : List Addr} {H H1 H2 : Hp} {h h1 h2 h' : Heap} {a x e : Addr} {o : HO}
theorem Un.any (u : Un fs ex H H1 h h1) {b : Addr} {ob : Obj} (q : h.get? b = some ob) (n : H b = none) (hx : b ∉ ex) : ∃ sl, h1.get? b = some { ob with slots := sl } := by
  by_cases hb : b ∈ fs
  · exact u.slot b ob q n hb hx
  · exact ⟨ob.slots, u.keep b ob q n hb hx⟩
theorem Un.kept (k : ∀ b u, h.get? b = some u → h'.get? b = some u) : Un fs ex H H h h' :=
  ⟨fun b ob q _ _ _ => k b ob q, fun b ob q _ _ _ => ⟨ob.slots, k b ob q⟩, fun _ _ _ n _ => n, fun b ob q _ => ⟨ob, k b ob q⟩, fun _ _ q => q, fun _ _ _ q => q, fun _ ps q => ⟨#[], by rw [q]; simp⟩⟩
theorem Un.refl : Un fs ex H H h h := Un.kept fun _ _ q => q
theorem Un.laid (k : ∀ b u, h.get? b = some u → h'.get? b = some u) (hp : h.objs.size ≤ a) (hn : H a = none) : Un fs ex H (upd H a o) h h' where
  keep := fun b u q _ _ _ => k b u q
  slot := fun b u q _ _ _ => ⟨u.slots, k b u q⟩
  free := fun b u q n _ => by rw [upd_ne (Nat.ne_of_lt (Nat.lt_of_lt_of_le (Heap.lt_size q) hp))]; exact n
  there := fun b u q _ => ⟨u, k b u q⟩
  tups := fun b xs q => by rw [upd_ne (ne_of_none q hn)]; exact q
  frzs := fun b u xs q => by rw [upd_ne (ne_of_none q hn)]; exact q
  tbls := fun b ps q => ⟨#[], by rw [upd_ne (ne_of_none q hn), q]; simp⟩
theorem Un.write (mu : Mut (H x)) (he : e = x ∨ H e = some (.own x)) (k : ∀ b u, b ≠ e → h.get? b = some u → h'.get? b = some u) (heo : ∃ u, h'.get? e = some u) : Un fs ex H (upd H x o) h h' := by
  have hx : ∀ b, H b = none → b ≠ x := fun b n z => by subst z; rw [n] at mu; exact mu
  have hb : ∀ b, H b = none → b ≠ e := fun b n z => by
    subst z
    rcases he with r | r
    · exact hx b n r
    · rw [n] at r; cases r
  have hm : ∀ b u, H b = some u → ¬ Mut (some u) → b ≠ x := fun b u q nm z => by subst z; rw [q] at mu; exact nm mu
  refine ⟨fun b u q n _ _ => k b u (hb b n) q, fun b u q n _ _ => ⟨u.slots, k b u (hb b n) q⟩, fun b u q n _ => by rw [upd_ne (hx b n)]; exact n, fun b u q _ => ?_,
    fun b xs q => by rw [upd_ne (hm b _ q fun z => z)]; exact q, fun b u xs q => by rw [upd_ne (hm b _ q fun z => z)]; exact q, fun b ps q => ⟨#[], by rw [upd_ne (hm b _ q fun z => z), q]; simp⟩⟩
  by_cases hbe : b = e
  · subst hbe; exact heo
  · exact ⟨u, k b u hbe q⟩
end

def trk (h : Heap) (H : Hp) : List Addr := (List.range h.objs.size).filter fun a => (H a).isSome
def hidT (h : Heap) (H : Hp) : Heap := PySem.W.hideAll h (trk h H)
theorem hidT_size (h : Heap) (H : Hp) : (hidT h H).objs.size = h.objs.size := PySem.W.hideAll_size _ _
theorem hidT_get {h : Heap} {H : Hp} {b : Addr} {o : Obj} (e : h.get? b = some o) (n : H b = none) : (hidT h H).get? b = some o :=
  PySem.W.hideAll_get _ e fun hm => by
    have q : (H b).isSome = true := (List.mem_filter.mp hm).2
    rw [n] at q; simp at q
theorem of_hidT {h : Heap} {H : Hp} {b : Addr} {o : Obj} (e : (hidT h H).get? b = some o) : h.get? b = some o ∧ H b = none := by
  have e' : h.get? b = some o := PySem.W.of_hideAll (trk h H) e
  refine ⟨e', ?_⟩
  cases q : H b with
  | none => rfl
  | some x =>
    have hm : b ∈ trk h H := List.mem_filter.mpr ⟨List.mem_range.mpr (Heap.lt_size e'), by simp [q]⟩
    have z : (hidT h H).get? b = none := PySem.W.hideAll_none (trk h H) hm
    rw [z] at e; cases e

def allNews (g h : Heap) (L : Addr) : List (Addr × Obj) := (List.range h.objs.size).filterMap fun a => if a = L ∨ (g.get? a).isSome = true then none else (h.get? a).map fun o => (a, o)
def rest (g h : Heap) (L d : Addr) : List (Addr × Obj) := (allNews g h L).filter fun p => decide (p.1 ≠ d)
end L2

namespace L2
open PySem PySem.Spec PyProof.Rows

structure Mod (K : PySem.W.Frag) (mg : Str → Option Value) (base : Heap) : Prop where
  kin : K.In base
  glob : base.Ns mainGlobals mg
  blt : ∃ mb, base.Ns builtinsNs mb ∧ ∀ x : Str, x ≠ "__name__" → mb x = bootBuiltins x
  nolimit : base.NoLimit

structure Cx where
  prog : Program
  w : World
  K : PySem.W.Frag
  mg : Str → Option Value
  base : Heap
  A : Around
  N : List Str
  s₀ : Shared
  H₀ : Hp
  env : Env
  outer : List Env
  stack : List Env
  ex : List Addr
  fn : Str → Bool
  calm : Bool
  pn : List (Addr × Obj)
  xe : Value → Shared → Prop
def frs (l : List Env) : List Addr := l.filterMap (·.frame)
abbrev Cx.fs (X : Cx) : List Addr := frs X.outer

def Vis (sc : Scope) (x : Str) : Prop := sc.names.lookup x = some .local ∨ sc.names.lookup x = some .cell ∨ sc.names.lookup x = some .free
def Loc (sc : Scope) (x : Str) : Prop := sc.names.lookup x = some .local ∨ sc.names.lookup x = some .cell
def Look (env : Env) (h : Heap) (m : Str → Option Value) (x : Str) (u : Value) : Prop :=
  (env.kindOf x = some .local ∧ m x = some u) ∨ ((env.kindOf x = some .cell ∨ env.kindOf x = some .free) ∧ ∃ c, env.cells.lookup x = some c ∧ h.IsCell c (some u))

structure Cx.Ok (X : Cx) : Prop where
  mod : Mod X.K X.mg X.base
  kind : X.env.scope.kind = .function
  glob : X.env.globals = mainGlobals
  blt : X.env.builtins = builtinsNs
  above : X.s₀.heap.objs.size ≤ X.env.locals
  inj : ∀ x y c, X.env.cells.lookup x = some c → X.env.cells.lookup y = some c → x = y
  has : ∀ x, (X.env.kindOf x = some .cell ∨ X.env.kindOf x = some .free) → ∃ c, X.env.cells.lookup x = some c
  cab : ∀ x c, X.fn x = true → X.env.cells.lookup x = some c → X.s₀.heap.objs.size ≤ c
  hd : X.calm = true → X.A.handled = none
  frames : X.A.frames = some X.stack
  stk : X.stack = X.outer ∨ (X.stack = X.env :: X.outer ∧ X.env.frame = some X.env.locals)
  exf : ∀ b ∈ X.ex, b ≠ X.env.locals ∧ ∀ x c, X.env.cells.lookup x = some c → c ≠ b
  bs : ∀ b o, X.base.get? b = some o → X.s₀.heap.get? b = some o ∧ X.H₀ b = none
  bsz : X.base.objs.size ≤ X.s₀.heap.objs.size
  noex : ∀ b o, X.base.get? b = some o → b ∉ X.ex
  exfs : ∀ b ∈ X.ex, b ∉ X.fs
  funs : X.s₀.heap.FunFrames X.base X.outer
  frf : ∀ b ∈ X.fs, X.H₀ b = none

structure Inv (X : Cx) (pins : List (Addr × Obj)) (σ : List (Option V)) (H : Hp) (s : Shared) : Prop where
  ok : X.Ok
  os : s.os = X.s₀.os
  bare : AllBare s.gens
  base : Un X.fs X.ex X.H₀ H X.s₀.heap s.heap
  loc : ∃ m, s.heap.Ns X.env.locals m ∧ ∀ (i : Nat) (x : Str) (v : V), X.N[i]? = some x → σ[i]? = some (some v) → Vis X.env.scope x → ∃ u, RelV v u ∧ Look X.env s.heap m x u
  cell : ∀ x c, X.env.cells.lookup x = some c → ∃ v, s.heap.IsCell c v
  free : H X.env.locals = none
  freeC : ∀ x c, X.env.cells.lookup x = some c → H c = none
  pin : ∀ p ∈ X.pn ++ pins, s.heap.get? p.1 = some p.2 ∧ H p.1 = none ∧ p.1 ≠ X.env.locals ∧ p.1 ∉ X.fs ∧ ∀ v, p.2.data ≠ .cell v
  hok : HOk X.prog X.w H s.heap
  len : σ.length = X.N.length

section
variable {X : Cx} {pins : List (Addr × Obj)} {σ : List (Option V)} {H H' : Hp} {s : Shared} {h' : Heap}

theorem Cx.Ok.nofr (ok : X.Ok) {b : Addr} {o : Obj} (e : X.base.get? b = some o) : b ∉ X.fs := fun hb => by
  have := (ok.funs.mem hb).1
  rw [e] at this; cases this
theorem Inv.bs (I : Inv X pins σ H s) : ∀ b o, X.base.get? b = some o → s.heap.get? b = some o ∧ H b = none := fun b o e =>
  ⟨I.base.keep b o (I.ok.bs b o e).1 (I.ok.bs b o e).2 (I.ok.nofr e) (I.ok.noex b o e), I.base.free b o (I.ok.bs b o e).1 (I.ok.bs b o e).2 (I.ok.noex b o e)⟩
theorem Inv.bk (I : Inv X pins σ H s) : ∀ b o, X.base.get? b = some o → s.heap.get? b = some o := fun b o e => (I.bs b o e).1
theorem Inv.mod (I : Inv X pins σ H s) : Mod X.K X.mg X.base := I.ok.mod
theorem Inv.kIn (I : Inv X pins σ H s) : X.K.In s.heap := I.ok.mod.kin.keeps I.bk
theorem Inv.lt (I : Inv X pins σ H s) : X.env.locals < s.heap.objs.size := let ⟨_, hn, _⟩ := I.loc; hn.lt
theorem Inv.sz (I : Inv X pins σ H s) : X.s₀.heap.objs.size ≤ s.heap.objs.size := Nat.le_trans I.ok.above (Nat.le_of_lt I.lt)
theorem Inv.nofs (I : Inv X pins σ H s) {a : Addr} (h : s.heap.objs.size ≤ a) : a ∉ X.fs := fun hb => by
  obtain ⟨_, o, ho, _⟩ := I.ok.funs.mem hb
  exact absurd (Nat.lt_of_lt_of_le (Heap.lt_size ho) (Nat.le_trans I.sz h)) (Nat.lt_irrefl _)
theorem Inv.cne (I : Inv X pins σ H s) : ∀ x c, X.env.cells.lookup x = some c → c ≠ X.env.locals := fun x c e z => by
  obtain ⟨v, o, ho, hd⟩ := I.cell x c e
  obtain ⟨m, ⟨o', es, ep, ho', hd', _⟩, _⟩ := I.loc
  rw [z, ho'] at ho; cases ho; rw [hd'] at hd; cases hd
theorem Inv.funs (I : Inv X pins σ H s) : s.heap.FunFrames X.base X.outer := by
  have all : ∀ (l : List Env), (∀ b ∈ frs l, b ∈ X.fs) → X.s₀.heap.FunFrames X.base l → s.heap.FunFrames X.base l := by
    intro l
    induction l with
    | nil => intro _ _; trivial
    | cons env r ih =>
      intro hs hl
      obtain ⟨hk, ⟨L, o, hf, hn, ho, hd⟩, hr⟩ := hl
      have hL : L ∈ X.fs := hs L (by unfold frs; rw [List.filterMap_cons, hf]; exact List.mem_cons_self)
      obtain ⟨sl, e⟩ := I.base.slot L o ho (I.ok.frf L hL) hL fun z => I.ok.exfs L z hL
      exact ⟨hk, ⟨L, _, hf, hn, e, hd⟩, ih (fun b hb => hs b (by unfold frs; rw [List.filterMap_cons, hf]; exact List.mem_cons_of_mem _ hb)) hr⟩
  exact all X.outer (fun _ hb => hb) I.ok.funs

theorem Inv.stack (I : Inv X pins σ H s) : s.heap.FunFrames X.base X.stack := by
  rcases I.ok.stk with e | ⟨e, hf⟩
  · rw [e]; exact I.funs
  · rw [e]
    obtain ⟨m, hn, _⟩ := I.loc
    refine .cons (by rw [I.ok.kind]; decide) hf hn ?_ I.funs
    exact Heap.get?_none_of_le (Nat.le_trans I.ok.bsz I.ok.above)
theorem Inv.stkSub (I : Inv X pins σ H s) : ∀ b ∈ frs X.stack, b ∈ X.env.locals :: X.fs := fun b hb => by
  rcases I.ok.stk with e | ⟨e, hf⟩
  · rw [e] at hb; exact List.mem_cons_of_mem _ hb
  · rw [e] at hb
    unfold frs at hb
    rw [List.filterMap_cons, hf] at hb
    exact hb
theorem Inv.stkFree (I : Inv X pins σ H s) : ∀ b ∈ frs X.stack, H b = none := fun b hb => by
  rcases List.mem_cons.mp (I.stkSub b hb) with e | hb
  · rw [e]; exact I.free
  · obtain ⟨_, o, ho, _⟩ := I.ok.funs.mem hb
    exact I.base.free b o ho (I.ok.frf b hb) fun z => I.ok.exfs b z hb

theorem Inv.step {g' : Array GenState} {t' : Nat} {d' : Drawn} {ch : List Addr} (I : Inv X pins σ H s)
    (hch : ∀ b ∈ ch, (b ∈ X.ex ∨ X.s₀.heap.objs.size ≤ b) ∧ b ≠ X.env.locals ∧ (∀ x c, X.env.cells.lookup x = some c → c ≠ b) ∧ ∀ p ∈ X.pn ++ pins, p.1 ≠ b)
    (keep : ∀ b o, b ≠ X.env.locals → b ∉ X.fs → b ∉ ch → s.heap.get? b = some o → H b = none → h'.get? b = some o)
    (slot : ∀ b o, b ≠ X.env.locals → b ∈ X.fs → b ∉ ch → s.heap.get? b = some o → H b = none → ∃ sl, h'.get? b = some { o with slots := sl }) (free : ∀ b o, b ∉ ch → s.heap.get? b = some o → H b = none → H' b = none)
    (there : ∀ b o, b ∉ ch → s.heap.get? b = some o → ∃ o', h'.get? b = some o')
    (tups : ∀ b xs, H b = some (.tup xs) → H' b = some (.tup xs)) (frzs : ∀ b o u, H b = some (.frz o u) → H' b = some (.frz o u)) (tbls : ∀ b ps, H b = some (.tbl ps) → ∃ more, H' b = some (.tbl (ps ++ more)))
    (ns : ∀ m, s.heap.Ns X.env.locals m → h'.Ns X.env.locals m) (hok : HOk X.prog X.w H' h') (hg : AllBare g') :
    Inv X pins σ H' { s with heap := h', gens := g', drawn := d', toks := t' } := by
  have neL : ∀ b o, X.s₀.heap.get? b = some o → b ≠ X.env.locals := fun b o e => Nat.ne_of_lt (Nat.lt_of_lt_of_le (Heap.lt_size e) I.ok.above)
  have neC : ∀ b o, X.s₀.heap.get? b = some o → b ∉ X.ex → b ∉ ch := fun b o e hx hb => by
    rcases (hch b hb).1 with z | z
    · exact hx z
    · exact absurd (Nat.lt_of_lt_of_le (Heap.lt_size e) z) (Nat.lt_irrefl _)
  have cellK : ∀ x c, X.env.cells.lookup x = some c → ∀ v, s.heap.IsCell c v → h'.IsCell c v := fun x c e v ⟨o, ho, hd⟩ => by
    have nch : c ∉ ch := fun z => (hch c z).2.2.1 x c e rfl
    by_cases hc : c ∈ X.fs
    · obtain ⟨sl, q⟩ := slot c o (I.cne x c e) hc nch ho (I.freeC x c e)
      exact ⟨_, q, hd⟩
    · exact ⟨o, keep c o (I.cne x c e) hc nch ho (I.freeC x c e), hd⟩
  refine ⟨I.ok, I.os, hg, ⟨fun b o e n hb hx => ?_, fun b o e n hb hx => ?_, fun b o e n hx => ?_, fun b o e hx => ?_, fun b xs e => tups b xs (I.base.tups b xs e), fun b o xs e => frzs b o xs (I.base.frzs b o xs e), fun b ps e => ?_⟩, ?_, fun x c e => ?_, ?_, fun x c e => ?_, fun p hp => ?_, hok, I.len⟩
  · exact keep b o (neL b o e) hb (neC b o e hx) (I.base.keep b o e n hb hx) (I.base.free b o e n hx)
  · obtain ⟨sl, e1⟩ := I.base.slot b o e n hb hx
    obtain ⟨sl', e2⟩ := slot b _ (neL b o e) hb (neC b o e hx) e1 (I.base.free b o e n hx)
    exact ⟨sl', e2⟩
  · obtain ⟨o', e1⟩ := I.base.there b o e hx
    exact free b o' (neC b o e hx) e1 (I.base.free b o e n hx)
  · obtain ⟨o', e1⟩ := I.base.there b o e hx
    exact there b o' (neC b o e hx) e1
  · obtain ⟨m1, e1⟩ := I.base.tbls b ps e
    obtain ⟨m2, e2⟩ := tbls b _ e1
    exact ⟨m1 ++ m2, by rw [e2, Array.append_assoc]⟩
  · obtain ⟨m, hn, hl⟩ := I.loc
    refine ⟨m, ns m hn, fun i x v e1 e2 e3 => ?_⟩
    obtain ⟨u, r, l⟩ := hl i x v e1 e2 e3
    refine ⟨u, r, ?_⟩
    rcases l with l | ⟨k, c, e, z⟩
    · exact .inl l
    · exact .inr ⟨k, c, e, cellK x c e _ z⟩
  · obtain ⟨v, z⟩ := I.cell x c e
    exact ⟨v, cellK x c e v z⟩
  · obtain ⟨m, ⟨o, _, _, ho, _⟩, _⟩ := I.loc
    exact free _ o (fun z => (hch _ z).2.1 rfl) ho I.free
  · obtain ⟨v, o, ho, hd⟩ := I.cell x c e
    exact free c o (fun z => (hch c z).2.2.1 x c e rfl) ho (I.freeC x c e)
  · obtain ⟨e, n, ne, nf, d⟩ := I.pin p hp
    have nch : p.1 ∉ ch := fun z => (hch p.1 z).2.2.2 p hp rfl
    exact ⟨keep p.1 p.2 ne nf nch e n, free p.1 p.2 nch e n, ne, nf, d⟩
theorem Inv.un {t' : Nat} (I : Inv X pins σ H s) (u : Un X.fs [] H H' s.heap h') (hok : HOk X.prog X.w H' h') : Inv X pins σ H' { s with heap := h', toks := t' } := by
  obtain ⟨m, ⟨o, es, ep, ho, r⟩, _⟩ := id I.loc
  obtain ⟨sl, hL⟩ := u.any ho I.free (by simp)
  exact I.step (g' := s.gens) (d' := s.drawn) (ch := []) (fun _ z => nomatch z) (fun b o _ hb _ e n => u.keep b o e n hb (by simp)) (fun b o _ hb _ e n => u.slot b o e n hb (by simp)) (fun b o _ e n => u.free b o e n (by simp)) (fun b o _ e => u.there b o e (by simp)) u.tups u.frzs u.tbls (fun m' hm => by
    obtain ⟨o', es', ep', ho', r'⟩ := hm
    rw [ho] at ho'; cases ho'
    exact ⟨_, es', ep', hL, r'⟩) hok I.bare
theorem Inv.call {g' : Array GenState} {t' : Nat} {d' : Drawn} {ch : List Addr} (I : Inv X pins σ H s) (u : Un (frs X.stack) ch H H' s.heap h') (hok : HOk X.prog X.w H' h') (hg : AllBare g')
    (hch : ∀ b ∈ ch, (b ∈ X.ex ∨ X.s₀.heap.objs.size ≤ b) ∧ b ≠ X.env.locals ∧ (∀ x c, X.env.cells.lookup x = some c → c ≠ b) ∧ ∀ p ∈ X.pn ++ pins, p.1 ≠ b) :
    Inv X pins σ H' { s with heap := h', gens := g', drawn := d', toks := t' } := by
  obtain ⟨m, ⟨o, es, ep, ho, r⟩, _⟩ := id I.loc
  obtain ⟨sl, hL⟩ := u.any ho I.free fun z => (hch _ z).2.1 rfl
  exact I.step (ch := ch) hch (fun b o hL hb hc e n => u.keep b o e n (fun z => (List.mem_cons.mp (I.stkSub b z)).elim hL hb) hc) (fun b o _ _ hc e n => u.any e n hc) (fun b o hc e n => u.free b o e n hc) (fun b o hc e => u.there b o e hc) u.tups u.frzs u.tbls (fun m' hm => by
    obtain ⟨o', es', ep', ho', r'⟩ := hm
    rw [ho] at ho'; cases ho'
    exact ⟨_, es', ep', hL, r'⟩) hok hg
theorem Inv.turned {t' : Nat} {it : Addr} (I : Inv X pins σ H s) (k : ∀ b o, b ≠ it → s.heap.get? b = some o → h'.get? b = some o) (hn : H it = none) (hL : it ≠ X.env.locals)
    (h1 : it ∈ X.ex ∨ X.s₀.heap.objs.size ≤ it) (h2 : ∀ x c, X.env.cells.lookup x = some c → c ≠ it) (h3 : ∀ p ∈ X.pn ++ pins, p.1 ≠ it) : Inv X pins σ H { s with heap := h', toks := t' } := by
  have nit : ∀ b u, H b = some u → b ≠ it := fun b u e z => by rw [z, hn] at e; cases e
  refine I.step (g' := s.gens) (d' := s.drawn) (ch := [it]) (fun b hb => ?_) (fun b o _ _ hc e _ => k b o (fun z => hc (by simp [z])) e) (fun b o _ _ hc e _ => ⟨o.slots, k b o (fun z => hc (by simp [z])) e⟩) (fun _ _ _ _ n => n)
    (fun b o hc e => ⟨o, k b o (fun z => hc (by simp [z])) e⟩) (fun _ _ e => e) (fun _ _ _ e => e) (fun b ps e => ⟨#[], by rw [e]; simp⟩) (fun m hm => ?_) (fun b u e => ?_) I.bare
  · have e : b = it := by simpa using hb
    subst e
    exact ⟨h1, hL, h2, h3⟩
  · obtain ⟨o, es, ep, ho, r⟩ := hm
    exact ⟨o, es, ep, k _ o (Ne.symm hL) ho, r⟩
  · refine (I.hok b u e).stay (fun c v hc q => k c v ?_ q) (fun _ q => q) fun _ _ q => q
    rcases hc with z | z
    · rw [z]; exact nit b u e
    · exact nit c _ z
theorem Inv.tok (I : Inv X pins σ H s) (t : Nat) : Inv X pins σ H { s with toks := t } := I.un (h' := s.heap) (t' := t) Un.refl I.hok
theorem Inv.kept {t' : Nat} (I : Inv X pins σ H s) (k : ∀ b u, s.heap.get? b = some u → h'.get? b = some u) : Inv X pins σ H { s with heap := h', toks := t' } := I.un (Un.kept k) (I.hok.kept k)
theorem Inv.laid {a : Addr} {o : HO} {t' : Nat} (I : Inv X pins σ H s) (k : ∀ b u, s.heap.get? b = some u → h'.get? b = some u) (hp : s.heap.objs.size ≤ a) (new : ObjOk X.prog X.w (upd H a o) h' a o) :
    Inv X pins σ (upd H a o) { s with heap := h', toks := t' } := I.un (Un.laid k hp (I.hok.fresh hp)) (I.hok.laid k hp new)
theorem Inv.write {x e : Addr} {o : HO} {t' : Nat} (I : Inv X pins σ H s) (mu : Mut (H x)) (he : e = x ∨ H e = some (.own x)) (k : ∀ b u, b ≠ e → s.heap.get? b = some u → h'.get? b = some u) (heo : ∃ u, h'.get? e = some u)
    (new : ObjOk X.prog X.w (upd H x o) h' x o) : Inv X pins σ (upd H x o) { s with heap := h', toks := t' } := I.un (Un.write mu he k heo) (I.hok.write mu he k heo new)
theorem Inv.pins_of {pins' : List (Addr × Obj)} (I : Inv X pins σ H s) (h : ∀ p ∈ pins', s.heap.get? p.1 = some p.2 ∧ H p.1 = none ∧ p.1 ≠ X.env.locals ∧ p.1 ∉ X.fs ∧ ∀ v, p.2.data ≠ .cell v) : Inv X pins' σ H s :=
  ⟨I.ok, I.os, I.bare, I.base, I.loc, I.cell, I.free, I.freeC, fun p hp => (List.mem_append.mp hp).elim (fun z => I.pin p (List.mem_append_left _ z)) (h p), I.hok, I.len⟩

theorem nodup_ix {N : List Str} (hN : N.Nodup) {i j : Nat} {x : Str} (a : N[i]? = some x) (b : N[j]? = some x) : i = j := by
  obtain ⟨h1, e1⟩ := List.getElem?_eq_some_iff.mp a
  obtain ⟨h2, e2⟩ := List.getElem?_eq_some_iff.mp b
  exact (List.getElem_inj hN).mp (e1.trans e2.symm)

theorem store_ok2 {M : Model} {A : Around} {E : Value → Shared → Prop} {i : Nat} {x : Str} {v : V} {u : Value} {Q : Unit → Shared → Prop} (I : Inv X pins σ H s) (hN : X.N.Nodup) (hi : X.N[i]? = some x) (hx : Loc X.env.scope x) (r : RelV v u)
    (h : ∀ s', Inv X pins (σ.set i (some v)) H s' → (∃ a, Heap.SameBut a s.heap s'.heap ∧ (a = X.env.locals ∨ X.env.cells.lookup x = some a)) → Q () s') (hf : X.fn x = true ∨ X.env.scope.names.lookup x = some .local := by first | exact .inl rfl | exact .inr rfl | assumption) : wpAny M A (storeName X.env x u) Q E s := by
  obtain ⟨m, hn, hl⟩ := id I.loc
  have hcls : (X.env.scope.kind == .class || (X.env.scope.kind == .module && X.env.locals != X.env.globals)) = false := by rw [I.ok.kind]; rfl
  have hiσ : i < σ.length := by rw [I.len]; exact (List.getElem?_eq_some_iff.mp hi).1
  have cne := I.cne
  have tracked : ∀ {a : Addr} {h' : Heap}, (∃ o, s.heap.get? a = some o ∧ H a = none) → Heap.SameBut a s.heap h' → HOk X.prog X.w H h' := fun {a h'} ha hs b ob e => by
    obtain ⟨_, _, hfree⟩ := ha
    refine (I.hok b ob e).stay (fun c w' hc q => (hs.2 c ?_).trans q) (fun _ q => q) fun _ _ q => q
    rintro rfl
    rcases hc with rfl | hc
    · rw [hfree] at e; cases e
    · rw [hfree] at hc; cases hc
  rcases hx with hk | hk
  · refine wpAny_storeName_local hk hn (fun h' hn' hs => ?_) hcls
    obtain ⟨oL, _, _, hoL, _⟩ := id hn
    refine h _ ⟨I.ok, I.os, I.bare, ⟨fun b o e n hb hx => ?_, fun b o e n hb hx => ?_, I.base.free, fun b o e hx => ?_, I.base.tups, I.base.frzs, I.base.tbls⟩, ⟨_, hn', fun j y v' e1 e2 e3 => ?_⟩, fun y c e => ?_, I.free, I.freeC, fun p hp => ?_, tracked ⟨oL, hoL, I.free⟩ hs, by simpa using I.len⟩ ⟨_, hs, .inl rfl⟩
    · exact (hs.2 b (Nat.ne_of_lt (Nat.lt_of_lt_of_le (Heap.lt_size e) I.ok.above))).trans (I.base.keep b o e n hb hx)
    · obtain ⟨sl, e1⟩ := I.base.slot b o e n hb hx
      exact ⟨sl, (hs.2 b (Nat.ne_of_lt (Nat.lt_of_lt_of_le (Heap.lt_size e) I.ok.above))).trans e1⟩
    · obtain ⟨o', e1⟩ := I.base.there b o e hx
      exact ⟨o', (hs.2 b (Nat.ne_of_lt (Nat.lt_of_lt_of_le (Heap.lt_size e) I.ok.above))).trans e1⟩
    · by_cases hj : j = i
      · subst hj
        rw [hi] at e1; cases e1
        rw [List.getElem?_set_self hiσ] at e2
        cases e2
        exact ⟨u, r, .inl ⟨hk, by simp⟩⟩
      · rw [List.getElem?_set_ne (Ne.symm hj)] at e2
        obtain ⟨u', r', q⟩ := hl j y v' e1 e2 e3
        refine ⟨u', r', ?_⟩
        rcases q with ⟨k, e⟩ | ⟨k, c, e, z⟩
        · refine .inl ⟨k, ?_⟩
          have : y ≠ x := fun e => hj (nodup_ix hN e1 (e ▸ hi))
          simp [this, e]
        · exact .inr ⟨k, c, e, z.sameBut hs (cne y c e)⟩
    · obtain ⟨w', z⟩ := I.cell y c e
      exact ⟨w', z.sameBut hs (cne y c e)⟩
    · obtain ⟨e, n, ne, nf, d⟩ := I.pin p hp
      exact ⟨(hs.2 p.1 ne).trans e, n, ne, nf, d⟩
  · have hfn : X.fn x = true := by
      rcases hf with z | z
      · exact z
      · rw [z] at hk; cases hk
    obtain ⟨c, hc⟩ := I.ok.has x (.inl hk)
    obtain ⟨w', z⟩ := I.cell x c hc
    refine wpAny_storeName_cell I.ok.kind hk hc z (fun h' hc' hs => ?_)
    obtain ⟨oc, hoc, hocd⟩ := id z
    refine h { s with heap := h' } ⟨I.ok, I.os, I.bare, ⟨fun b o e n hb hx => ?_, fun b o e n hb hx => ?_, I.base.free, fun b o e hx => ?_, I.base.tups, I.base.frzs, I.base.tbls⟩, ⟨m, hn.sameBut hs (Ne.symm (cne x c hc)), fun j y v' e1 e2 e3 => ?_⟩, fun y c' e => ?_, I.free, I.freeC, fun p hp => ?_, tracked ⟨oc, hoc, I.freeC x c hc⟩ hs, by simpa using I.len⟩ ⟨c, hs, .inr hc⟩
    · exact (hs.2 b (Nat.ne_of_lt (Nat.lt_of_lt_of_le (Heap.lt_size e) (I.ok.cab x c hfn hc)))).trans (I.base.keep b o e n hb hx)
    · obtain ⟨sl, e1⟩ := I.base.slot b o e n hb hx
      exact ⟨sl, (hs.2 b (Nat.ne_of_lt (Nat.lt_of_lt_of_le (Heap.lt_size e) (I.ok.cab x c hfn hc)))).trans e1⟩
    · obtain ⟨o', e1⟩ := I.base.there b o e hx
      exact ⟨o', (hs.2 b (Nat.ne_of_lt (Nat.lt_of_lt_of_le (Heap.lt_size e) (I.ok.cab x c hfn hc)))).trans e1⟩
    · by_cases hj : j = i
      · subst hj
        rw [hi] at e1; cases e1
        rw [List.getElem?_set_self hiσ] at e2
        cases e2
        exact ⟨u, r, .inr ⟨.inl hk, c, hc, hc'⟩⟩
      · rw [List.getElem?_set_ne (Ne.symm hj)] at e2
        obtain ⟨u', r', q⟩ := hl j y v' e1 e2 e3
        refine ⟨u', r', ?_⟩
        rcases q with q | ⟨k, c', e, z'⟩
        · exact .inl q
        · refine .inr ⟨k, c', e, z'.sameBut hs ?_⟩
          rintro rfl
          exact hj (nodup_ix hN e1 (I.ok.inj _ _ _ e hc ▸ hi))
    · by_cases hcc : c' = c
      · subst hcc; exact ⟨_, hc'⟩
      · obtain ⟨w2, z2⟩ := I.cell y c' e
        exact ⟨w2, z2.sameBut hs hcc⟩
    · obtain ⟨e, n, ne, nf, d⟩ := I.pin p hp
      refine ⟨(hs.2 p.1 ?_).trans e, n, ne, nf, d⟩
      intro q
      rw [q, hoc] at e
      have q' : oc = p.2 := Option.some.inj e
      exact d w' (by rw [← q']; exact hocd)
theorem store_ok {M : Model} {A : Around} {E : Value → Shared → Prop} {i : Nat} {x : Str} {v : V} {u : Value} {Q : Unit → Shared → Prop} (I : Inv X pins σ H s) (hN : X.N.Nodup) (hi : X.N[i]? = some x) (hx : Loc X.env.scope x) (r : RelV v u)
    (h : ∀ s', Inv X pins (σ.set i (some v)) H s' → Q () s') (hf : X.fn x = true ∨ X.env.scope.names.lookup x = some .local := by first | exact .inl rfl | exact .inr rfl | assumption) : wpAny M A (storeName X.env x u) Q E s :=
  store_ok2 I hN hi hx r (fun s' I' _ => h s' I') hf
theorem Inv.call' {s' : Shared} {ch : List Addr} (I : Inv X pins σ H s) (ho : s'.os = s.os) (u : Un (frs X.stack) ch H H' s.heap s'.heap) (hok : HOk X.prog X.w H' s'.heap) (hg : AllBare s'.gens)
    (hch : ∀ b ∈ ch, (b ∈ X.ex ∨ X.s₀.heap.objs.size ≤ b) ∧ b ≠ X.env.locals ∧ (∀ x c, X.env.cells.lookup x = some c → c ≠ b) ∧ ∀ p ∈ X.pn ++ pins, p.1 ≠ b) : Inv X pins σ H' s' := by
  obtain ⟨h', g', d', t', o'⟩ := s'
  have e : o' = s.os := ho
  subst e
  exact I.call (g' := g') (t' := t') (d' := d') u hok hg hch
end

abbrev XK := Value → Option Addr → Hp → Prop
abbrev St := List (Option V)
abbrev VK := V → Hp → Prop
abbrev TE := St → Hp → VK → Prop
abbrev TT := St → Hp → (Bool → Hp → Prop) → Prop
abbrev TA := St → Hp → (List V → Hp → Prop) → Prop
structure Ends where
  nx : St → Hp → Prop
  rt : VK
  bk : St → Hp → Prop := fun _ _ => False
  ct : St → Hp → Prop := fun _ _ => False
abbrev TS := Ends → St → Hp → Prop

def EP (X : Cx) (pins : List (Addr × Obj)) (σ : St) (Q : VK) (u : Value) (s' : Shared) : Prop := ∃ v H', Inv X pins σ H' s' ∧ RelV v u ∧ Q v H'
def TP (X : Cx) (pins : List (Addr × Obj)) (σ : St) (Q : Bool → Hp → Prop) (b : Bool) (s' : Shared) : Prop := ∃ H', Inv X pins σ H' s' ∧ Q b H'
def AP (X : Cx) (pins : List (Addr × Obj)) (σ : St) (Q : List V → Hp → Prop) (us : List Value) (s' : Shared) : Prop := ∃ vs H', Inv X pins σ H' s' ∧ Vals vs us ∧ Q vs H'
def SP (X : Cx) (pins : List (Addr × Obj)) (D : Ends) (f : Flow) (s' : Shared) : Prop :=
  match f with
  | .next => ∃ σ' H', Inv X pins σ' H' s' ∧ D.nx σ' H'
  | .brk => ∃ σ' H', Inv X pins σ' H' s' ∧ D.bk σ' H'
  | .cont => ∃ σ' H', Inv X pins σ' H' s' ∧ D.ct σ' H'
  | .ret u => ∃ v σ' H', Inv X pins σ' H' s' ∧ RelV v u ∧ D.rt v H'

def PE (X : Cx) (e : Expr) (t : TE) : Prop :=
  ∀ (pins : List (Addr × Obj)) (s : Shared) (σ : St) (H : Hp) (Q : VK), Inv X pins σ H s → t σ H Q → wpAny (model X.prog X.w) X.A (eval e X.env) (EP X pins σ Q) X.xe s
def PT (X : Cx) (e : Expr) (t : TT) : Prop :=
  ∀ (pins : List (Addr × Obj)) (s : Shared) (σ : St) (H : Hp) (Q : Bool → Hp → Prop), Inv X pins σ H s → t σ H Q → wpAny (model X.prog X.w) X.A (isTrue e X.env (eval e X.env)) (TP X pins σ Q) X.xe s
def PW (X : Cx) (e : Expr) (t : TT) : Prop :=
  ∀ (whole : Sem Value) (pins : List (Addr × Obj)) (s : Shared) (σ : St) (H : Hp) (Q : Bool → Hp → Prop), Inv X pins σ H s → t σ H Q → wpAny (model X.prog X.w) X.A (isTrue e X.env whole) (TP X pins σ Q) X.xe s
theorem PW.pt {X : Cx} {e : Expr} {t : TT} (h : PW X e t) : PT X e t := h _
def PA (X : Cx) (es : List Expr) (t : TA) : Prop :=
  ∀ (pos : Pos) (pins : List (Addr × Obj)) (s : Shared) (σ : St) (H : Hp) (Q : List V → Hp → Prop), Inv X pins σ H s → t σ H Q → wpAny (model X.prog X.w) X.A (spliced (backTo pos (starEach es X.env))) (AP X pins σ Q) X.xe s
def PS (X : Cx) (st : Stmt) (t : TS) : Prop :=
  ∀ (pins : List (Addr × Obj)) (s : Shared) (σ : St) (H : Hp) (D : Ends), Inv X pins σ H s → t D σ H → wpAny (model X.prog X.w) X.A (exec st X.env) (SP X pins D) X.xe s
def PSs (X : Cx) (st : List Stmt) (t : TS) : Prop :=
  ∀ (pins : List (Addr × Obj)) (s : Shared) (σ : St) (H : Hp) (D : Ends), Inv X pins σ H s → t D σ H → wpAny (model X.prog X.w) X.A (execs st X.env) (SP X pins D) X.xe s
theorem thn {α : Type} {t : Sem α} {Q Q' : α → Shared → Prop} {M : Model} {A : Around} {E : Value → Shared → Prop} {s : Shared} (h : wpAny M A t Q E s) (hQ : ∀ a s, Q a s → Q' a s) : wpAny M A t Q' E s := wpAny_mono h hQ fun _ _ x => x
end L2

namespace L2
open PySem PySem.Spec PyProof.Rows
section
variable {X : Cx}

def tVar (i : Nat) : TE := fun σ H Q => ∃ v, σ[i]? = some (some v) ∧ Q v H
def tC (v : V) : TE := fun _ H Q => Q v H
theorem pe_var {i : Nat} {x : Str} {pos : Pos} (hN : X.N[i]? = some x) (hv : Vis X.env.scope x) (hd : (x == ("__debug__" : Str)) = false := by decide) (hcd : (x == ("__classdict__" : Str)) = false := by decide) : PE X (.Name x pos) (tVar i) := by
  intro pins s σ H Q I h
  obtain ⟨v, e, h⟩ := h
  obtain ⟨m, hn, hl⟩ := I.loc
  obtain ⟨u, r, l⟩ := hl i x v hN e hv
  have fin : EP X pins σ Q u s := ⟨v, H, I, r, h⟩
  rcases l with ⟨hk, hm⟩ | ⟨hk, c, hc, hcell⟩
  · exact wpAny_Name (wpAny_loadName_local I.ok.kind hk hn hm fin) hd
  · rcases hk with hk | hk
    · exact wpAny_Name (wpAny_loadName_cell I.ok.kind hk hc hcell fin) hd
    · exact wpAny_Name (wpAny_loadName_free I.ok.kind hk hc hcell fin hcd) hd
theorem pe_int {i j pos} : PE X (.Constant (.int i) j pos) (tC (.int i)) := fun _ _ _ H _ I h => wpAny_Constant_int ⟨.int i, H, I.tok _, ⟨_, rfl⟩, h⟩
theorem pe_bl {b j pos} : PE X (.Constant (.bool b) j pos) (tC (.bl b)) := fun _ _ _ H _ I h => Constant_bool ⟨.bl b, H, I, rfl, h⟩
theorem pe_non {j pos} : PE X (.Constant .none j pos) (tC .non) := fun _ _ _ H _ I h => Constant_none ⟨.non, H, I, rfl, h⟩
theorem pe_str {x j pos} : PE X (.Constant (.str x) j pos) (tC (.str x)) := fun _ _ _ H _ I h => Calls.Constant_str ⟨.str x, H, I.tok _, ⟨_, rfl⟩, h⟩

def Gl (X : Cx) (x : Str) : Prop := X.env.kindOf x = some .globalImplicit
theorem ld_glob {E : Value → Shared → Prop} {pins : List (Addr × Obj)} {s : Shared} {σ : St} {H : Hp} {x : Str} {u : Value} {pos : Pos} {Q : Value → Shared → Prop} (I : Inv X pins σ H s) (hg : Gl X x) (hm : X.mg x = some u) (h : Q u s)
    (hd : (x == ("__debug__" : Str)) = false := by decide) : wpAny (model X.prog X.w) X.A (eval (.Name x pos) X.env) Q E s :=
  Calls.Name_function_global I.ok.kind hg (Calls.loadGlobal_global (by rw [I.ok.glob]; exact I.mod.glob.keeps I.bk) hm h) hd
theorem ld_blt {E : Value → Shared → Prop} {pins : List (Addr × Obj)} {s : Shared} {σ : St} {H : Hp} {x : Str} {u : Value} {pos : Pos} {Q : Value → Shared → Prop} (I : Inv X pins σ H s) (hg : Gl X x) (hm : X.mg x = none) (hv : bootBuiltins x = some u) (h : Q u s)
    (hn : x ≠ "__name__" := by decide) (hd : (x == ("__debug__" : Str)) = false := by decide) : wpAny (model X.prog X.w) X.A (eval (.Name x pos) X.env) Q E s := by
  obtain ⟨mb, h1, h2⟩ := I.mod.blt
  exact Calls.Name_function_global I.ok.kind hg (Calls.loadGlobal_builtin (by rw [I.ok.glob]; exact I.mod.glob.keeps I.bk) hm (by rw [I.ok.blt]; exact h1.keeps I.bk) ((h2 x hn).trans hv) h) hd
theorem pe_bltn {x : Str} {v : V} {u : Value} {pos : Pos} (hg : Gl X x) (hm : X.mg x = none) (hv : bootBuiltins x = some u) (r : RelV v u) (hn : x ≠ "__name__" := by decide) (hd : (x == ("__debug__" : Str)) = false := by decide) : PE X (.Name x pos) (tC v) :=
  fun _ _ _ H _ I h => ld_blt I hg hm hv ⟨v, H, I, r, h⟩ hn hd

variable {a b : Expr} {ta tb : TE} {pos : Pos}
def PC (X : Cx) (op : CmpOp) (a b : Expr) (t : TE) : Prop :=
  ∀ (pins : List (Addr × Obj)) (s : Shared) (σ : St) (H : Hp) (Q : VK), Inv X pins σ H s → t σ H Q →
    wpAny (model X.prog X.w) X.A (eval a X.env) (fun v s₁ => wpAny (model X.prog X.w) X.A (eval b X.env) (fun u s₂ => wpAny (model X.prog X.w) X.A (compareOp op v u) (EP X pins σ Q) X.xe s₂) X.xe s₁) X.xe s
theorem nobehind (b : Expr) {op : CmpOp} (h : op ≠ .In) (h2 : op ≠ .NotIn) : behindInMarks op b = false := by
  have e1 : (op == CmpOp.In) = false := by cases op <;> first | rfl | exact absurd rfl h
  have e2 : (op == CmpOp.NotIn) = false := by cases op <;> first | rfl | exact absurd rfl h2
  cases b <;> simp [behindInMarks, e1, e2]
def tB (t : TE) : TT := fun σ H Q => t σ H fun x H1 => ∃ c, x = .bl c ∧ Q c H1
theorem pe_cmp {op : CmpOp} {t : TE} (h : PC X op a b t) (h1 : behindInMarks op b = false := by first | exact nobehind _ (by decide) (by decide) | rfl) : PE X (.Compare a [op] [b] pos) t := fun pins s σ H Q I hw => wpAny_Compare1 (h pins s σ H Q I hw) h1
theorem pt_cmp {op : CmpOp} {t : TE} (h : PC X op a b t) (h1 : behindInMarks op b = false := by first | exact nobehind _ (by decide) (by decide) | rfl) : PT X (.Compare a [op] [b] pos) (tB t) := by
  intro pins s σ H Q I hw
  refine wpAny_isTrue_Compare1 (thn (h pins s σ H _ I hw) fun v s1 h1 => thn h1 fun u s2 h2 => thn h2 fun c s3 ⟨x, H1, I1, r1, q1⟩ => ?_) h1
  obtain ⟨d, rfl, q⟩ := q1
  cases r1
  exact wpAny_truthy_bool ⟨H1, I1, q⟩
theorem pt_val {e : Expr} {t : TE} (h : PE X e t) (he : ∀ whole, isTrue e X.env whole = (do let v ← whole; standAt e.pos; holding [v] (truthy v)) := by intro _; rfl) : PT X e (tB t) := by
  intro pins s σ H Q I hw
  refine isTrue_plain (thn (h pins s σ H _ I hw) fun v s1 ⟨x, H1, I1, r1, q1⟩ => ?_) (he _)
  obtain ⟨d, rfl, q⟩ := q1
  cases r1
  exact wpAny_truthy_bool ⟨H1, I1, q⟩

variable {tA tB' : TT} {rest : List Expr}
def tAnd (t u : TT) : TT := fun σ H Q => t σ H fun c H1 => if c = true then u σ H1 Q else Q false H1
def tOr (t u : TT) : TT := fun σ H Q => t σ H fun c H1 => if c = true then Q true H1 else u σ H1 Q
def tNot (t : TT) : TT := fun σ H Q => t σ H fun c H1 => Q (!c) H1
theorem pw_and1 (ha : PT X a tA) : PW X (.BoolOp .And [a] pos) tA := by
  intro wh pins s σ H Q I h
  refine isTrue_and (thn (ha pins s σ H Q I h) fun c s1 e => ?_)
  cases c with
  | true => exact isTrue_and_nil e
  | false => exact e
theorem pw_or1 (ha : PT X a tA) : PW X (.BoolOp .Or [a] pos) tA := by
  intro wh pins s σ H Q I h
  refine isTrue_or (thn (ha pins s σ H Q I h) fun c s1 e => ?_)
  cases c with
  | false => exact isTrue_or_nil e
  | true => exact e
theorem pw_and (ha : PT X a tA) (hb : PW X (.BoolOp .And (b :: rest) pos) tB') : PW X (.BoolOp .And (a :: b :: rest) pos) (tAnd tA tB') := by
  intro wh pins s σ H Q I h
  refine isTrue_and (thn (ha pins s σ H _ I h) fun c s1 ⟨H1, I1, q1⟩ => ?_)
  cases c with
  | true => exact hb wh pins s1 σ H1 Q I1 q1
  | false => exact ⟨H1, I1, q1⟩
theorem pw_or (ha : PT X a tA) (hb : PW X (.BoolOp .Or (b :: rest) pos) tB') : PW X (.BoolOp .Or (a :: b :: rest) pos) (tOr tA tB') := by
  intro wh pins s σ H Q I h
  refine isTrue_or (thn (ha pins s σ H _ I h) fun c s1 ⟨H1, I1, q1⟩ => ?_)
  cases c with
  | true => exact ⟨H1, I1, q1⟩
  | false => exact hb wh pins s1 σ H1 Q I1 q1
theorem pt_not (ha : PT X a tA) : PT X (.UnaryOp .Not a pos) (tNot tA) := by
  intro pins s σ H Q I h
  exact isTrue_not (ha pins s σ H (fun c H1 => Q (!c) H1) I h)
def tAndV (ta tb : TE) : TE := fun σ H Q => ta σ H fun x H1 => ∃ c, x = .bl c ∧ if c = true then tb σ H1 Q else Q (.bl false) H1
def tNotV (ta : TE) : TE := fun σ H Q => ta σ H fun x H1 => ∃ c, x = .bl c ∧ Q (.bl (!c)) H1
theorem pe_one {op} {t : TE} (h : PE X a t) : PE X (.BoolOp op [a] pos) t := fun pins s σ H Q I hw => BoolOp_one (h pins s σ H Q I hw)
theorem pe_and (ha : PE X a ta) (hb : PE X (.BoolOp .And (b :: rest) pos) tb) : PE X (.BoolOp .And (a :: b :: rest) pos) (tAndV ta tb) := by
  intro pins s σ H Q I h
  refine BoolOp_and (thn (ha pins s σ H _ I h) fun v s1 ⟨x, H1, I1, r1, q1⟩ => ?_)
  obtain ⟨c, rfl, q1⟩ := q1
  cases r1
  refine wpAny_truthy_bool ?_
  cases c with
  | true => exact hb pins s1 σ H1 Q I1 q1
  | false => exact ⟨.bl false, H1, I1, rfl, q1⟩
theorem pe_not (ha : PE X a ta) : PE X (.UnaryOp .Not a pos) (tNotV ta) := by
  intro pins s σ H Q I h
  refine UnaryOp_ (thn (ha pins s σ H _ I h) fun v s1 ⟨x, H1, I1, r1, q1⟩ => ?_)
  obtain ⟨c, rfl, q1⟩ := q1
  cases r1
  exact not_of (wpAny_truthy_bool ⟨.bl (!c), H1, I1, rfl, q1⟩)
end
end L2

namespace L2
open PySem PySem.Spec PyProof.Rows

def SqL (K : PySem.W.Frag) (H : Hp) (a : Addr) (xs : List V) : Prop :=
  Rd H a (.lst xs) ∨
    ∃ (o : Obj) (its : Array Value) (n : Nat), K.lookup a = some o ∧ o.cls = .type "list" ∧ o.dict = none ∧ o.data = .seq its n ∧ its.size ≤ sizeLine ∧ Vals xs its.toList
def SqT (K : PySem.W.Frag) (H : Hp) (a : Addr) (xs : List V) : Prop :=
  Rd H a (.tup xs) ∨
    ∃ (o : Obj) (its : Array Value) (n : Nat), K.lookup a = some o ∧ o.cls = .type "tuple" ∧ o.data = .seq its n ∧ its.size ≤ sizeLine ∧ Vals xs its.toList
def absV : Value → Option V
  | .none => some .non
  | .bool b => some (.bl b)
  | .int i _ => some (.int i)
  | .str x _ => some (.str x)
  | .bytes b _ => some (.byt b)
  | .float b _ => some (.flt b)
  | .ref a => some (.ref a)
  | .type n => some (.ty n)
  | _ => none
theorem RelV.abs {x : V} {u : Value} (r : RelV x u) : absV u = some x := by
  cases x with
  | non => cases r; rfl
  | bl _ => cases r; rfl
  | int _ => obtain ⟨t, rfl⟩ := r; rfl
  | str _ => obtain ⟨t, rfl⟩ := r; rfl
  | byt _ => obtain ⟨t, rfl⟩ := r; rfl
  | flt _ => obtain ⟨t, rfl⟩ := r; rfl
  | ref _ => cases r; rfl
  | ty _ => cases r; rfl
theorem RelV.inj {x y : V} {u : Value} (r : RelV x u) (q : RelV y u) : x = y := Option.some.inj (r.abs.symm.trans q.abs)
theorem Vals.inj : ∀ {xs ys : List V} {us : List Value}, Vals xs us → Vals ys us → xs = ys
  | _, _, _, .nil, .nil => rfl
  | _, _, _, .cons r t, .cons r' t' => by rw [r.inj r', Vals.inj t t']
section
variable {X : Cx} {pins : List (Addr × Obj)} {σ : St} {H : Hp} {s : Shared} {a : Addr} {xs ys : List V}
theorem SqL.of {K : PySem.W.Frag} (h : H a = some (.lst xs)) : SqL K H a xs := .inl (.inl h)
theorem SqT.of {K : PySem.W.Frag} (h : H a = some (.tup xs)) : SqT K H a xs := .inl (.inl h)
theorem Inv.list (I : Inv X pins σ H s) (h : SqL X.K H a xs) : ∃ its : List Value, Vals xs its ∧ PlainL s.heap a its.toArray ∧ xs.length ≤ sizeLine := by
  rcases h with h | ⟨o, its, n, hk, hc, hd, hs, hz, r⟩
  · obtain ⟨z, its, n, r, e⟩ := h.ok I.hok
    exact ⟨its, r, ⟨_, n, e, rfl, rfl, rfl⟩, z⟩
  · refine ⟨its.toList, r, ⟨o, n, I.kIn a o hk, hc, hd, by simpa using hs⟩, ?_⟩
    have e := r.length
    simp only [Array.length_toList] at e
    omega
theorem Inv.tuple (I : Inv X pins σ H s) (h : SqT X.K H a xs) : ∃ its : List Value, Vals xs its ∧ IsTup s.heap a its.toArray ∧ xs.length ≤ sizeLine := by
  rcases h with h | ⟨o, its, n, hk, hc, hs, hz, r⟩
  · obtain ⟨z, its, r, p⟩ := h.ok I.hok
    exact ⟨its, r, p, z⟩
  · refine ⟨its.toList, r, ⟨o, I.kIn a o hk, hc, n, by simpa using hs⟩, ?_⟩
    have e := r.length
    simp only [Array.length_toList] at e
    omega
theorem Inv.list_inj (I : Inv X pins σ H s) (h : SqL X.K H a xs) (h' : SqL X.K H a ys) : xs = ys := by
  obtain ⟨its, r, ⟨o, n, e, _, _, d⟩, _⟩ := I.list h
  obtain ⟨its', r', ⟨o', n', e', _, _, d'⟩, _⟩ := I.list h'
  rw [e] at e'; cases e'
  rw [d] at d'
  injection d' with d1 _
  have : its = its' := by simpa using congrArg Array.toList d1
  subst this
  exact r.inj r'
theorem Inv.tuple_inj (I : Inv X pins σ H s) (h : SqT X.K H a xs) (h' : SqT X.K H a ys) : xs = ys := by
  obtain ⟨its, r, ⟨o, e, _, n, d⟩, _⟩ := I.tuple h
  obtain ⟨its', r', ⟨o', e', _, n', d'⟩, _⟩ := I.tuple h'
  rw [e] at e'; cases e'
  rw [d] at d'
  injection d' with d1 _
  have : its = its' := by simpa using congrArg Array.toList d1
  subst this
  exact r.inj r'
end

abbrev Cx.wish (X : Cx) (E : Value → Shared → Prop) : Cx := { X with xe := E }
abbrev Cx.nox (X : Cx) : Cx := X.wish fun _ _ => False
theorem Cx.Ok.wish {X : Cx} (ok : X.Ok) (E : Value → Shared → Prop) : (X.wish E).Ok :=
  ⟨ok.mod, ok.kind, ok.glob, ok.blt, ok.above, ok.inj, ok.has, ok.cab, ok.hd, ok.frames, ok.stk, ok.exf, ok.bs, ok.bsz, ok.noex, ok.exfs, ok.funs, ok.frf⟩
theorem Cx.Ok.unwish {X : Cx} {E : Value → Shared → Prop} (ok : (X.wish E).Ok) : X.Ok :=
  ⟨ok.mod, ok.kind, ok.glob, ok.blt, ok.above, ok.inj, ok.has, ok.cab, ok.hd, ok.frames, ok.stk, ok.exf, ok.bs, ok.bsz, ok.noex, ok.exfs, ok.funs, ok.frf⟩
section
variable {X : Cx} {pins : List (Addr × Obj)} {σ : St} {H : Hp} {s : Shared} {E : Value → Shared → Prop}
theorem Inv.wish (I : Inv X pins σ H s) (E : Value → Shared → Prop) : Inv (X.wish E) pins σ H s := ⟨I.ok.wish E, I.os, I.bare, I.base, I.loc, I.cell, I.free, I.freeC, I.pin, I.hok, I.len⟩
theorem Inv.unwish (I : Inv (X.wish E) pins σ H s) : Inv X pins σ H s := ⟨I.ok.unwish, I.os, I.bare, I.base, I.loc, I.cell, I.free, I.freeC, I.pin, I.hok, I.len⟩
theorem SP.unwish {D : Ends} {f : Flow} {s' : Shared} (h : SP (X.wish E) pins D f s') : SP X pins D f s' := by
  cases f with
  | next => obtain ⟨σ', H', I, q⟩ := h; exact ⟨σ', H', I.unwish, q⟩
  | brk => obtain ⟨σ', H', I, q⟩ := h; exact ⟨σ', H', I.unwish, q⟩
  | cont => obtain ⟨σ', H', I, q⟩ := h; exact ⟨σ', H', I.unwish, q⟩
  | ret u => obtain ⟨v, σ', H', I, r, q⟩ := h; exact ⟨v, σ', H', I.unwish, r, q⟩
theorem PSs.nox {st : List Stmt} {t : TS} (h : PSs X.nox st t) : PSs X st t := fun pins s σ H D I hw =>
  wpAny_mono (h pins s σ H D (I.wish _) hw) (fun _ _ q => q.unwish) fun _ _ z => False.elim z
end

section
variable {X : Cx} {st : Stmt} {rest : List Stmt} {t u : TS} {e : Expr} {te : TE} {pos : Pos}
def tNext : TS := fun D σ H => D.nx σ H
def tSeq (t u : TS) : TS := fun D σ H => t { D with nx := u D } σ H
theorem pss_nil : PSs X [] tNext := fun _ _ σ H _ I h => wpAny_execs_nil ⟨σ, H, I, h⟩
theorem pss_cons (h1 : PS X st t) (h2 : PSs X rest u) : PSs X (st :: rest) (tSeq t u) := by
  intro pins s σ H D I h
  refine wpAny_execs_cons (thn (h1 pins s σ H { D with nx := u D } I h) fun f s1 q => ?_)
  cases f with
  | next =>
    obtain ⟨σ', H', I', q⟩ := q
    exact h2 pins s1 σ' H' D I' q
  | ret v => exact q
  | brk => exact q
  | cont => exact q
theorem pss_one (h1 : PS X st t) : PSs X [st] t := by
  intro pins s σ H D I h
  refine wpAny_execs_cons (thn (h1 pins s σ H D I h) fun f s1 q => ?_)
  cases f with
  | next => exact wpAny_execs_nil q
  | ret v => exact q
  | brk => exact q
  | cont => exact q
theorem Inv.quiet {pins : List (Addr × Obj)} {σ : St} {H : Hp} {s : Shared} (I : Inv X pins σ H s) : interactive X.env = false := by simp [interactive, I.ok.kind]
def tDrop (te : TE) : TS := fun D σ H => te σ H fun _ H1 => D.nx σ H1
theorem ps_expr (he : PE X e te) (hs : swapsWith e none pos.line X.env = pure false := by rfl) : PS X (.Expr e pos) (tDrop te) := by
  intro pins s σ H D I h
  exact wpAny_Expr_any (thn (he pins s σ H _ I h) fun v s1 ⟨x, H1, I1, r1, q1⟩ => ⟨σ, H1, I1, q1⟩) I.quiet hs
def tRet (te : TE) : TS := fun D σ H => te σ H D.rt
theorem ps_ret (he : PE X e te) : PS X (.Return (some e) pos) (tRet te) := by
  intro pins s σ H D I h
  exact wpAny_Return_some (thn (he pins s σ H _ I h) fun v s1 ⟨x, H1, I1, r1, q1⟩ => ⟨x, σ, H1, I1, r1, q1⟩)
def tIfS (c : TT) (t u : TS) : TS := fun D σ H => c σ H fun b H1 => if b = true then t D σ H1 else u D σ H1
theorem ps_if {c : Expr} {a b : List Stmt} {tc : TT} (hc : PT X c tc) (ha : PSs X a t) (hb : PSs X b u) : PS X (.If c a b pos) (tIfS tc t u) := by
  intro pins s σ H D I h
  refine wpAny_If (thn (hc pins s σ H _ I h) fun d s1 ⟨H1, I1, q1⟩ => ?_)
  cases d with
  | true => exact ha pins s1 σ H1 D I1 q1
  | false => exact hb pins s1 σ H1 D I1 q1
end

abbrev TG := V → St → Hp → (St → Hp → Prop) → Prop
abbrev TGs := List V → St → Hp → (St → Hp → Prop) → Prop
def PG (X : Cx) (target : Expr) (t : TG) : Prop :=
  ∀ (pins : List (Addr × Obj)) (s : Shared) (σ : St) (H : Hp) (v : V) (u : Value) (Q : St → Hp → Prop), Inv X pins σ H s → RelV v u → t v σ H Q →
    wpAny (model X.prog X.w) X.A (assign target X.env u) (fun _ s' => ∃ σ' H', Inv X pins σ' H' s' ∧ Q σ' H') X.xe s
def PGs (X : Cx) (ts : List Expr) (t : TGs) : Prop :=
  ∀ (pins : List (Addr × Obj)) (s : Shared) (σ : St) (H : Hp) (vs : List V) (us : List Value) (Q : St → Hp → Prop), Inv X pins σ H s → Vals vs us → t vs σ H Q →
    wpAny (model X.prog X.w) X.A (assignInOrder ((assignEach ts X.env).map (·.2)) us) (fun _ s' => ∃ σ' H', Inv X pins σ' H' s' ∧ Q σ' H') X.xe s
abbrev TSet := V → V → V → Hp → (Hp → Prop) → Prop
def PSet (X : Cx) (t : TSet) : Prop :=
  ∀ (pins : List (Addr × Obj)) (s : Shared) (σ : St) (H : Hp) (o i v : V) (ov iv u : Value) (Q : Hp → Prop), Inv X pins σ H s → RelV o ov → RelV i iv → RelV v u → t o i v H Q →
    wpAny (model X.prog X.w) X.A (setItem ov iv u) (fun _ s' => ∃ H', Inv X pins σ H' s' ∧ Q H') X.xe s
section
variable {X : Cx} {pos : Pos}
def gName (i : Nat) : TG := fun v σ H Q => Q (σ.set i (some v)) H
theorem pg_name {i : Nat} {x : Str} (hN : X.N.Nodup) (hi : X.N[i]? = some x) (hx : Loc X.env.scope x) (hf : X.fn x = true ∨ X.env.scope.names.lookup x = some .local := by first | exact .inl rfl | exact .inr rfl | assumption) : PG X (.Name x pos) (gName i) := by
  intro pins s σ H v u Q I r h
  exact wpAny_assign_Name (store_ok I hN hi hx r (fun s' I' => ⟨_, H, I', h⟩) hf)
def gNil : TGs := fun vs σ H Q => vs = [] ∧ Q σ H
def gCons (t : TG) (u : TGs) : TGs := fun vs σ H Q => ∃ v r, vs = v :: r ∧ t v σ H fun σ' H' => u r σ' H' Q
theorem pgs_nil : PGs X [] gNil := by
  intro pins s σ H vs us Q I r h
  obtain ⟨e, h⟩ := h
  subst e
  cases r
  exact assignInOrder_nil ⟨σ, H, I, h⟩
theorem pgs_cons {e : Expr} {es : List Expr} {t : TG} {u : TGs} (h1 : PG X e t) (h2 : PGs X es u)
    (hs : (assignEach (e :: es) X.env).map (·.2) = assign e X.env :: (assignEach es X.env).map (·.2) := by rfl) : PGs X (e :: es) (gCons t u) := by
  intro pins s σ H vs us Q I r h
  obtain ⟨v, vr, e1, h⟩ := h
  subst e1
  cases r with
  | cons r rr =>
    rw [hs]
    refine assignInOrder_cons (thn (h1 pins s σ H _ _ _ I r h) fun _ s1 ⟨σ1, H1, I1, q1⟩ => ?_)
    exact h2 pins s1 σ1 H1 _ _ Q I1 rr q1
def gTup (K : PySem.W.Frag) (n : Nat) (t : TGs) : TG := fun v σ H Q => ∃ a xs, v = .ref a ∧ SqT K H a xs ∧ xs.length = n ∧ t xs σ H Q
theorem pg_tup {es : List Expr} {k : Nat} {t : TGs} {n : Nat} (hc : X.calm = true) (h : PGs X es t)
    (hn : (assignEach es X.env).length = n := by rfl) (hst : (assignEach es X.env).findIdx? (·.1) = none := by rfl) : PG X (.Tuple es k pos) (gTup X.K n t) := by
  intro pins s σ H v u Q I r hw
  obtain ⟨a, xs, e1, hq, hl, hw⟩ := hw
  subst e1
  cases r
  obtain ⟨its, rv, ht, hz⟩ := I.tuple hq
  refine assign_Tuple_tuple (I.ok.hd hc) ht (by simp [hn, ← hl, rv.length]) hst fun h' hx => ?_
  have I1 : Inv X pins σ H { s with heap := h' } := I.kept (t' := s.toks) fun b o e => hx b o (Nat.ne_of_lt (Heap.lt_size e)) e
  exact h pins _ σ H xs _ Q I1 (by simpa using rv) hw
def gSub (to ti : TE) (t : TSet) : TG := fun v σ H Q => to σ H fun o H1 => ti σ H1 fun i H2 => t o i v H2 fun H3 => Q σ H3
theorem pg_sub {o i : Expr} {to ti : TE} {t : TSet} (ho : PE X o to) (hi : PE X i ti) (hs : PSet X t)
    (ha : ∀ v, assign (.Subscript o i pos) X.env v = (do
      let ov ← holding [v] (eval o X.env)
      let iv ← holding [v, ov] (eval i X.env)
      standAt pos
      holding [v, ov, iv] (setItem ov iv v)
      release [v, ov, iv] []) := by intro _; rfl) : PG X (.Subscript o i pos) (gSub to ti t) := by
  intro pins s σ H v u Q I r h
  rw [ha]
  refine wpAny_bind (wpAny_holding (thn (ho pins s σ H _ I h) fun ov s1 ⟨x, H1, I1, r1, q1⟩ => ?_))
  refine wpAny_bind (wpAny_holding (thn (hi pins s1 σ H1 _ I1 q1) fun iv s2 ⟨y, H2, I2, r2, q2⟩ => ?_))
  refine wpAny_bind (wpAny_standAt (wpAny_bind (wpAny_holding (thn (hs pins s2 σ H2 x y v ov iv u _ I2 r1 r2 r q2) fun _ s3 ⟨H3, I3, q3⟩ => ?_))))
  exact wpAny_release ⟨σ, H3, I3, q3⟩
def tAsg (te : TE) (g : TG) : TS := fun D σ H => te σ H fun x H1 => g x σ H1 D.nx
theorem ps_asg {tg e : Expr} {te : TE} {g : TG} (he : PE X e te) (hg : PG X tg g) (hs : swapsWithSole [tg] e pos.line X.env = pure false := by rfl) (hw : swappedStores [tg] e X.env = pure none := by rfl)
    (h1 : (assignEach [tg] X.env).map (·.2) = [assign tg X.env] := by rfl) : PS X (.Assign [tg] e pos) (tAsg te g) := by
  intro pins s σ H D I h
  refine wpAny_Assign_stores (thn (he pins s σ H _ I h) fun v s1 ⟨x, H1, I1, r1, q1⟩ => ?_) hs hw
  rw [h1]
  exact thn (hg pins s1 σ H1 x v _ I1 r1 q1) fun _ s2 q => q
theorem ps_set {i : Nat} {x : Str} {e : Expr} {te : TE} {pos' : Pos} (hN : X.N.Nodup) (hi : X.N[i]? = some x) (hx : Loc X.env.scope x) (he : PE X e te) (hs : swapsWith e (some (.Name x pos')) pos.line X.env = pure false := by rfl) (hf : X.fn x = true ∨ X.env.scope.names.lookup x = some .local := by first | exact .inl rfl | exact .inr rfl | assumption) :
    PS X (.Assign [.Name x pos'] e pos) (tAsg te (gName i)) := by
  intro pins s σ H D I h
  refine wpAny_Assign_Name (thn (he pins s σ H _ I h) fun v s1 ⟨y, H1, I1, r1, q1⟩ => ?_) hs
  exact store_ok I1 hN hi hx r1 (fun s2 I2 => ⟨_, H1, I2, q1⟩) hf
end

section
variable {X : Cx} {pos : Pos}
def tWhile (c : TT) (tb : TS) : TS := fun D σ H => ∃ W : Nat → St → Hp → Prop, (∃ m, W m σ H) ∧ ∀ m σ H, W m σ H →
  c σ H fun b H1 => if b = true then ∃ N : St → Hp → Prop, (∀ σ' H', N σ' H' → ∃ m', m' < m ∧ W m' σ' H') ∧ tb { D with nx := N, ct := N, bk := D.nx } σ H1 else D.nx σ H1
theorem ps_while {c : Expr} {body : List Stmt} {tc : TT} {tb : TS} (hp : PassesOwn (model X.prog X.w) X.A X.env X.xe) (hc : PT X c tc) (hb : PSs X body tb) : PS X (.While c body [] pos) (tWhile tc tb) := by
  intro pins s σ H D I h
  obtain ⟨W, ⟨m0, w0⟩, turn⟩ := h
  refine wpAny_While (codeAny_whileLoop (fun n s' => ∃ σ' H', Inv X pins σ' H' s' ∧ W n σ' H') ?_ m0 ⟨σ, H, I, w0⟩)
  rintro n s1 ⟨σ1, H1, I1, w1⟩
  refine wpAny_passesOwn hp (thn (hc pins s1 σ1 H1 _ I1 (turn n σ1 H1 w1)) fun b s2 ⟨H2, I2, q2⟩ => ?_)
  cases b with
  | true =>
    obtain ⟨N, hN, q2⟩ := q2
    rw [if_pos rfl]
    refine wpAny_passesOwn hp (thn (hb pins s2 σ1 H2 _ I2 q2) fun f s3 q3 => ?_)
    cases f with
    | next =>
      obtain ⟨σ3, H3, I3, n3⟩ := q3
      obtain ⟨m', hm, w3⟩ := hN σ3 H3 n3
      exact ⟨m', hm, σ3, H3, I3, w3⟩
    | cont =>
      obtain ⟨σ3, H3, I3, n3⟩ := q3
      obtain ⟨m', hm, w3⟩ := hN σ3 H3 n3
      exact ⟨m', hm, σ3, H3, I3, w3⟩
    | brk => exact q3
    | ret v => exact q3
  | false =>
    rw [if_neg Bool.false_ne_true]
    exact wpAny_execs_nil ⟨σ1, H2, I2, q2⟩
end

structure It where
  go : Nat → Hp → Prop
  yld : Nat → Hp → V → Hp → Prop
  stop : Nat → Hp → Prop
def FpOk (X : Cx) (pins : List (Addr × Obj)) (H : Hp) (b : Addr) : Prop :=
  H b = none ∧ b ≠ X.env.locals ∧ b ∉ X.fs ∧ (b ∈ X.ex ∨ X.s₀.heap.objs.size ≤ b) ∧ (∀ x c, X.env.cells.lookup x = some c → c ≠ b) ∧ ∀ p ∈ X.pn ++ pins, p.1 ≠ b
theorem Inv.fpOk {X : Cx} {pins : List (Addr × Obj)} {σ : St} {H H' : Hp} {s : Shared} {b : Addr} (I : Inv X pins σ H s) (hb : s.heap.objs.size ≤ b) (hn : H' b = none) : FpOk X pins H' b := by
  refine ⟨hn, Nat.ne_of_gt (Nat.lt_of_lt_of_le I.lt hb), I.nofs hb, .inr (Nat.le_trans I.sz hb), fun x c e z => ?_, fun p hp z => ?_⟩
  · obtain ⟨v, q⟩ := I.cell x c e
    exact absurd (Nat.lt_of_lt_of_le q.lt (by rw [z]; exact hb)) (Nat.lt_irrefl _)
  · exact absurd (Nat.lt_of_lt_of_le (Heap.lt_size (I.pin p hp).1) (by rw [z]; exact hb)) (Nat.lt_irrefl _)
structure Turn (P : Program) (w : World) (K : PySem.W.Frag) (tg : Expr) (J : It) (fp : List Addr) (it : Addr) (tn : Nat → Heap → Prop) : Prop where
  mem : it ∈ fp
  obj : ∀ i h, tn i h → ∀ b ∈ fp, ∃ o, h.get? b = some o ∧ ∀ v, o.data ≠ .cell v
  keep : ∀ i h h', tn i h → (∀ b ∈ fp, ∀ o, h.get? b = some o → h'.get? b = some o) → tn i h'
  item : ∀ (X : Cx), X.prog = P → X.w = w → X.K = K → X.calm = true → ∀ (i : Nat) (pins : List (Addr × Obj)) (s : Shared) (σ : St) (H : Hp) (E : Value → Shared → Prop), Inv X pins σ H s → (∀ b ∈ fp, FpOk X pins H b) → tn i s.heap → J.go i H →
    wpAny (model P w) X.A (pyNext (.ref it)) (fun r s1 => ∃ u, r = some u ∧
      wpAny (model P w) X.A (letOwnedTupleGo tg (.ref it) u) (fun _ s2 => ∃ x H', Inv X pins σ H' s2 ∧ RelV x u ∧ J.yld i H x H' ∧ tn (i + 1) s2.heap ∧ ∀ b ∈ fp, H' b = none) E s1) E s
  done : ∀ (X : Cx), X.prog = P → X.w = w → X.K = K → X.calm = true → ∀ (i : Nat) (pins : List (Addr × Obj)) (s : Shared) (σ : St) (H : Hp) (E : Value → Shared → Prop), Inv X pins σ H s → (∀ b ∈ fp, FpOk X pins H b) → tn i s.heap → J.stop i H →
    wpAny (model P w) X.A (pyNext (.ref it)) (fun r s1 => r = none ∧ Inv X pins σ H s1) E s
  self : ∀ (A : Around) (i : Nat) (s : Shared) (Q : Value → Shared → Prop) (E : Value → Shared → Prop), tn i s.heap → Q (.ref it) s → wpAny (model P w) A (pyIter (.ref it)) Q E s
abbrev TI := St → Hp → (It → Hp → Prop) → Prop
def PIE (X : Cx) (pins : List (Addr × Obj)) (σ : St) (tg : Expr) (R : It → Hp → Prop) (itv : Value) (s2 : Shared) : Prop :=
  ∃ (it : Addr) (fp : List Addr) (tn : Nat → Heap → Prop) (J : It) (H' : Hp), itv = .ref it ∧ Inv X pins σ H' s2 ∧ Turn X.prog X.w X.K tg J fp it tn ∧ tn 0 s2.heap ∧ (∀ b ∈ fp, FpOk X pins H' b) ∧ R J H'
def PI (X : Cx) (tg iter : Expr) (wi : TI) : Prop :=
  ∀ (pins : List (Addr × Obj)) (s : Shared) (σ : St) (H : Hp) (R : It → Hp → Prop), Inv X pins σ H s → wi σ H R →
    wpAny (model X.prog X.w) X.A (eval iter X.env) (fun v s1 => wpAny (model X.prog X.w) X.A (pyIter v) (PIE X pins σ tg R) X.xe s1) X.xe s

theorem go_of {M : Model} {A : Around} {E : Value → Shared → Prop} {s : Shared} {tg : Expr} {it : Addr} {u : Value} {o : Obj} {n : String} {vs : Array Value} {Q : Unit → Shared → Prop} (ho : s.heap.get? it = some o) (hc : o.cls = .type n) (hd : o.data = .fields vs)
    (hn : ["enumerate", "zip", "dict_itemiterator", "dict_reverseitemiterator", "odict_iterator", "itertools.zip_longest", "itertools.pairwise"].contains n = false) (hQ : Q () s) : wpAny M A (letOwnedTupleGo tg (.ref it) u) Q E s := by
  unfold letOwnedTupleGo
  cases tg <;> first
    | exact wpAny_pure hQ
    | (cases u <;> first
        | exact wpAny_pure hQ
        | (refine wpAny_bind (wpAny_load ho ?_)
           rw [hc, hd]
           show wpAny M A (if (["enumerate", "zip", "dict_itemiterator", "dict_reverseitemiterator", "odict_iterator", "itertools.zip_longest", "itertools.pairwise"].contains n && vs[0]? == some (rawInt _)) = true then _ else _) Q E s
           rw [if_neg (by intro h; rw [hn, Bool.false_and] at h; cases h)]
           exact wpAny_pure hQ))

def Itl (K : PySem.W.Frag) (a : Addr) : It :=
  ⟨fun i H => ∃ xs x, SqL K H a xs ∧ xs[i]? = some x, fun i H x H' => H' = H ∧ ∀ xs, SqL K H a xs → xs[i]? = some x, fun i H => ∃ xs, SqL K H a xs ∧ xs.length ≤ i⟩
def Itt (K : PySem.W.Frag) (a : Addr) : It :=
  ⟨fun i H => ∃ xs x, SqT K H a xs ∧ xs[i]? = some x, fun i H x H' => H' = H ∧ ∀ xs, SqT K H a xs → xs[i]? = some x, fun i H => ∃ xs, SqT K H a xs ∧ xs.length ≤ i⟩
def Itr (lo : Int) (n : Nat) : It := ⟨fun i _ => i < n, fun i H x H' => H' = H ∧ x = .int (lo + i), fun i _ => n ≤ i⟩
theorem turn_list {P : Program} {w : World} {K : PySem.W.Frag} {tg : Expr} (a it : Addr) : Turn P w K tg (Itl K a) [it] it (fun i h => h.IsListIter it a i) where
  mem := by simp
  obj := fun i h st b hb => by
    have e : b = it := by simpa using hb
    subst e
    obtain ⟨o, e, c, d⟩ := st
    exact ⟨o, e, fun v z => by rw [d] at z; cases z⟩
  keep := fun i h h' st k => st.at fun o e => k it (by simp) o e
  item := by
    intro X hP hw hK hc i pins s σ H E I hf st hg
    subst hP hw hK
    obtain ⟨xs, x, hq, hx⟩ := hg
    obtain ⟨its, rv, p, hz⟩ := I.list hq
    obtain ⟨u, hu, ru⟩ := rv.get hx
    obtain ⟨f0, f1, f2, f3, f4, f5⟩ := hf it (by simp)
    refine wpAny_pyNext_list_item st p.isList (x := u) (by simpa using hu) fun h' st' sb => ?_
    have I1 : Inv X pins σ H { s with heap := h' } := I.turned (t' := s.toks) (fun b o hb e => (sb.2 b hb).trans e) f0 f1 f3 f4 f5
    obtain ⟨o, e, c, d⟩ := id st'
    exact ⟨u, rfl, go_of (s := { s with heap := h' }) e c d (by decide) ⟨x, H, I1, ru, ⟨rfl, fun ys hy => by rw [I.list_inj hy hq]; exact hx⟩, st', fun b hb => (hf b hb).1⟩⟩
  done := by
    intro X hP hw hK hc i pins s σ H E I hf st hg
    subst hP hw hK
    obtain ⟨xs, hq, hx⟩ := hg
    obtain ⟨its, rv, p, hz⟩ := I.list hq
    obtain ⟨f0, f1, f2, f3, f4, f5⟩ := hf it (by simp)
    have hl := rv.length
    exact wpAny_pyNext_list_end (I.ok.hd hc) st p.isList (by simp; omega) fun h' eb => ⟨rfl, I.turned (t' := s.toks) (fun b o hb e => eb b o hb e) f0 f1 f3 f4 f5⟩
  self := fun _ _ _ _ _ st h => wpAny_pyIter_listiter st h
theorem turn_tuple {P : Program} {w : World} {K : PySem.W.Frag} {tg : Expr} (a it : Addr) : Turn P w K tg (Itt K a) [it] it (fun i h => h.IsTupleIter it a i) where
  mem := by simp
  obj := fun i h st b hb => by
    have e : b = it := by simpa using hb
    subst e
    obtain ⟨o, e, c, d⟩ := st
    exact ⟨o, e, fun v z => by rw [d] at z; cases z⟩
  keep := fun i h h' st k => st.at fun o e => k it (by simp) o e
  item := by
    intro X hP hw hK hc i pins s σ H E I hf st hg
    subst hP hw hK
    obtain ⟨xs, x, hq, hx⟩ := hg
    obtain ⟨its, rv, p, hz⟩ := I.tuple hq
    obtain ⟨u, hu, ru⟩ := rv.get hx
    obtain ⟨f0, f1, f2, f3, f4, f5⟩ := hf it (by simp)
    refine wpAny_pyNext_tuple_item st (show s.heap.IsTuple a its.toArray from p) (x := u) (by simpa using hu) fun h' st' sb => ?_
    have I1 : Inv X pins σ H { s with heap := h' } := I.turned (t' := s.toks) (fun b o hb e => (sb.2 b hb).trans e) f0 f1 f3 f4 f5
    obtain ⟨o, e, c, d⟩ := id st'
    exact ⟨u, rfl, go_of (s := { s with heap := h' }) e c d (by decide) ⟨x, H, I1, ru, ⟨rfl, fun ys hy => by rw [I.tuple_inj hy hq]; exact hx⟩, st', fun b hb => (hf b hb).1⟩⟩
  done := by
    intro X hP hw hK hc i pins s σ H E I hf st hg
    subst hP hw hK
    obtain ⟨xs, hq, hx⟩ := hg
    obtain ⟨its, rv, p, hz⟩ := I.tuple hq
    obtain ⟨f0, f1, f2, f3, f4, f5⟩ := hf it (by simp)
    have hl := rv.length
    exact wpAny_pyNext_tuple_end (I.ok.hd hc) st (show s.heap.IsTuple a its.toArray from p) (by simp; omega) fun h' eb => ⟨rfl, I.turned (t' := s.toks) (fun b o hb e => eb b o hb e) f0 f1 f3 f4 f5⟩
  self := fun _ _ _ _ _ st h => wpAny_pyIter_tupleiter st h
theorem turn_range {P : Program} {w : World} {K : PySem.W.Frag} {tg : Expr} (it : Addr) (lo : Int) (n : Nat) : Turn P w K tg (Itr lo n) [it] it (fun i h => IsRangeIter h it (lo + (i : Nat) * 1) ((n : Int) - (i : Nat)) 1) where
  mem := by simp
  obj := fun i h st b hb => by
    have e : b = it := by simpa using hb
    subst e
    exact ⟨_, st, fun v z => by
      have z' : Data.fields _ = Data.cell v := z
      cases z'⟩
  keep := fun i h h' st k => k it (by simp) _ st
  item := by
    intro X hP hw hK hc i pins s σ H E I hf st hg
    subst hP hw hK
    obtain ⟨f0, f1, f2, f3, f4, f5⟩ := hf it (by simp)
    have W := Walks.range (prog := X.prog) (w := X.w) (I.ok.hd hc) it lo 1 n
    refine W.item i s _ _ hg st fun v h' tk hv st' kk => ?_
    obtain ⟨t, rfl⟩ := hv
    have I1 : Inv X pins σ H { s with heap := h', toks := tk } := I.turned (fun b o hb e => kk b o (by simpa using hb) e) f0 f1 f3 f4 f5
    refine ⟨_, rfl, go_of (s := { s with heap := h', toks := tk }) (n := "range_iterator") st' rfl rfl (by decide) ⟨.int (lo + i), H, I1, ⟨t, ?_⟩, ⟨rfl, rfl⟩, st', fun b hb => (hf b hb).1⟩⟩
    rw [Int.mul_one]
  done := by
    intro X hP hw hK hc i pins s σ H E I hf st hg
    subst hP hw hK
    obtain ⟨f0, f1, f2, f3, f4, f5⟩ := hf it (by simp)
    exact wpAny_pyNext_range_end (I.ok.hd hc) st (by have : n ≤ i := hg; omega) fun h' eb => ⟨rfl, I.turned (t' := s.toks) (fun b o hb e => eb b o hb e) f0 f1 f3 f4 f5⟩
  self := fun _ _ _ _ _ st h => wpAny_pyIter_rangeiter st h
end L2

namespace L2
open PySem PySem.Spec PyProof.Rows
section
variable {X : Cx} {tg : Expr}
def iList (K : PySem.W.Frag) (tl : TE) : TI := fun σ H R => tl σ H fun x H1 => ∃ a, x = .ref a ∧ (∃ xs, SqL K H1 a xs) ∧ R (Itl K a) H1
def iTup (K : PySem.W.Frag) (tl : TE) : TI := fun σ H R => tl σ H fun x H1 => ∃ a, x = .ref a ∧ (∃ xs, SqT K H1 a xs) ∧ R (Itt K a) H1
theorem pi_list {l : Expr} {tl : TE} (hl : PE X l tl) : PI X tg l (iList X.K tl) := by
  intro pins s σ H R I h
  refine thn (hl pins s σ H _ I h) fun v s1 ⟨x, H1, I1, r1, q1⟩ => ?_
  obtain ⟨a, e, ⟨xs, hq⟩, q⟩ := q1
  subst e
  cases r1
  obtain ⟨its, rv, p, hz⟩ := I1.list hq
  refine wpAny_pyIter_list p.isList ?_
  refine ⟨s1.heap.objs.size, [s1.heap.objs.size], _, _, H1, rfl, I1.kept (t' := s1.toks) fun b o e => Heap.get?_push_of_some _ e, turn_list a _, ⟨_, Heap.get?_push_size _ rfl, rfl, rfl⟩, fun b hb => ?_, q⟩
  have e : b = s1.heap.objs.size := by simpa using hb
  subst e
  exact I1.fpOk (Nat.le_refl _) (I1.hok.fresh (Nat.le_refl _))
theorem pi_tup {l : Expr} {tl : TE} (hl : PE X l tl) : PI X tg l (iTup X.K tl) := by
  intro pins s σ H R I h
  refine thn (hl pins s σ H _ I h) fun v s1 ⟨x, H1, I1, r1, q1⟩ => ?_
  obtain ⟨a, e, ⟨xs, hq⟩, q⟩ := q1
  subst e
  cases r1
  obtain ⟨its, rv, p, hz⟩ := I1.tuple hq
  refine wpAny_pyIter_tuple (show s1.heap.IsTuple a its.toArray from p) ?_
  refine ⟨s1.heap.objs.size, [s1.heap.objs.size], _, _, H1, rfl, I1.kept (t' := s1.toks) fun b o e => Heap.get?_push_of_some _ e, turn_tuple a _, ⟨_, Heap.get?_push_size _ rfl, rfl, rfl⟩, fun b hb => ?_, q⟩
  have e : b = s1.heap.objs.size := by simpa using hb
  subst e
  exact I1.fpOk (Nat.le_refl _) (I1.hok.fresh (Nat.le_refl _))
theorem range_it {pins : List (Addr × Obj)} {σ : St} {H : Hp} {s : Shared} {R : It → Hp → Prop} {E : Value → Shared → Prop} {lo hi : Int} {t u v : Tok} {tk : Nat} (I : Inv X pins σ H s) (h1 : -(2 ^ 62) ≤ lo) (h2 : lo < 2 ^ 62) (h3 : -(2 ^ 62) ≤ hi) (h4 : hi < 2 ^ 62)
    (q : R (Itr lo (hi - lo).toNat) H) : wpAny (model X.prog X.w) X.A (pyIter (.ref s.heap.objs.size)) (PIE X pins σ tg R) E { s with heap := s.heap.push { cls := .type "range", data := .fields #[.int lo t, .int hi u, .int 1 v] }, toks := tk } := by
  refine wpAny_pyIter_range (IsRange.new ..) (small_one h1 h2 h3 h4) ?_
  have I1 : Inv X pins σ H { s with heap := s.heap.push { cls := .type "range", data := .fields #[.int lo t, .int hi u, .int 1 v] }, toks := tk } := I.kept fun b o e => Heap.get?_push_of_some _ e
  refine ⟨(s.heap.push { cls := .type "range", data := .fields #[.int lo t, .int hi u, .int 1 v] }).objs.size, [(s.heap.push { cls := .type "range", data := .fields #[.int lo t, .int hi u, .int 1 v] }).objs.size], _, _, H, rfl,
    I1.kept (t' := tk) fun b o e => Heap.get?_push_of_some _ e, turn_range _ lo (hi - lo).toNat, ?_, fun b hb => ?_, q⟩
  · have e1 : lo + ((0 : Nat) : Int) * 1 = lo := by simp
    have e2 : (((hi - lo).toNat : Nat) : Int) - ((0 : Nat) : Int) = Builtin.Range.rangeSize lo hi 1 := by rw [rangeSize_one]; split <;> omega
    show IsRangeIter _ _ (lo + ((0 : Nat) : Int) * 1) ((((hi - lo).toNat : Nat) : Int) - ((0 : Nat) : Int)) 1
    rw [e1, e2]
    exact Heap.get?_push_size _ rfl
  · have e : b = (s.heap.push { cls := .type "range", data := .fields #[.int lo t, .int hi u, .int 1 v] }).objs.size := by simpa using hb
    subst e
    exact I1.fpOk (Nat.le_refl _) (I1.hok.fresh (Nat.le_refl _))
def iRng1 (ta : TA) : TI := fun σ H R => ta σ H fun vs H1 => ∃ j : Int, vs = [.int j] ∧ -(2 ^ 62) ≤ j ∧ j < 2 ^ 62 ∧ R (Itr 0 j.toNat) H1
theorem pi_range1 {a : Expr} {ta : TA} {p pos : Pos} (hg : Gl X "range") (hm : X.mg "range" = none) (ha : PA X [a] ta) (hs : starEach [a] X.env = [(false, eval a X.env)] := by rfl) : PI X tg (.Call (.Name "range" p) [a] [] pos) (iRng1 ta) := by
  intro pins s σ H R I h
  refine Call_ (ld_blt I hg hm boot_range (PyProof.Rows.callWith_type1 (thn (ha pos pins s σ H _ I h) fun us s1 ⟨vs, H1, I1, r1, q1⟩ => ?_) hs rfl))
  obtain ⟨j, e, q1, q2, q⟩ := q1
  subst e
  cases r1 with
  | cons r rr =>
    cases rr
    obtain ⟨t, rfl⟩ := r
    exact call_range_1 (range_it I1 (by omega) (by omega) q1 q2 (by simpa using q))
def tFor (wi : TI) (g : TG) (tb : TS) : TS := fun D σ H => wi σ H fun J H1 => ∃ W : Nat → Nat → St → Hp → Prop, (∃ m, W 0 m σ H1) ∧ ∀ i m σ H, W i m σ H →
  (J.stop i H ∧ D.nx σ H) ∨ (J.go i H ∧ ∃ N : St → Hp → Prop, (∀ σ' H', N σ' H' → ∃ m', m' < m ∧ W (i + 1) m' σ' H') ∧ ∀ x H', J.yld i H x H' → g x σ H' fun σ2 H2 => tb { D with nx := N, ct := N, bk := D.nx } σ2 H2)
def pinsAt (fp : List Addr) (h : Heap) : List (Addr × Obj) := fp.filterMap fun b => (h.get? b).map fun o => (b, o)
theorem mem_pinsAt {fp : List Addr} {h : Heap} {b : Addr} {o : Obj} (hb : b ∈ fp) (e : h.get? b = some o) : (b, o) ∈ pinsAt fp h := List.mem_filterMap.mpr ⟨b, hb, by rw [e]; rfl⟩
theorem of_pinsAt {fp : List Addr} {h : Heap} {p : Addr × Obj} (hp : p ∈ pinsAt fp h) : p.1 ∈ fp ∧ h.get? p.1 = some p.2 := by
  obtain ⟨b, hb, e⟩ := List.mem_filterMap.mp hp
  cases q : h.get? b with
  | none => rw [q] at e; cases e
  | some o =>
    rw [q] at e
    have e' : (b, o) = p := Option.some.inj e
    subst e'
    exact ⟨hb, q⟩
theorem Inv.pinned {pins : List (Addr × Obj)} {σ : St} {H : Hp} {s : Shared} {fp : List Addr} (I : Inv X pins σ H s) (hf : ∀ b ∈ fp, FpOk X pins H b) (ho : ∀ b ∈ fp, ∃ o, s.heap.get? b = some o ∧ ∀ v, o.data ≠ .cell v) : Inv X (pins ++ pinsAt fp s.heap) σ H s :=
  I.pins_of fun p hp => (List.mem_append.mp hp).elim (fun z => I.pin p (List.mem_append_right _ z)) fun z => by
    obtain ⟨hb, e⟩ := of_pinsAt z
    obtain ⟨f0, f1, f2, _⟩ := hf p.1 hb
    obtain ⟨o, e', d⟩ := ho p.1 hb
    rw [e] at e'; cases e'
    exact ⟨e, f0, f1, f2, d⟩
theorem Inv.unpinned {pins pl : List (Addr × Obj)} {σ : St} {H : Hp} {s : Shared} (I : Inv X (pins ++ pl) σ H s) : Inv X pins σ H s := I.pins_of fun p hp => I.pin p (List.mem_append_right _ (List.mem_append_left _ hp))
theorem ps_for {iter : Expr} {body : List Stmt} {wi : TI} {g : TG} {tb : TS} {pos : Pos} (hp : PassesOwn (model X.prog X.w) X.A X.env X.xe) (hc : X.calm = true) (hi : PI X tg iter wi) (hg : PG X tg g) (hb : PSs X body tb)
    (hs : ∀ x, foldedSetIterable iter X.env x = pure x := by intro _; rfl) : PS X (.For tg iter body [] pos) (tFor wi g tb) := by
  intro pins s σ H D I h
  refine wpAny_For (thn (hi pins s σ H _ I h) fun v s1 h1 => thn h1 fun itv s2 h2 => ?_) hs
  obtain ⟨it, fp, tn, J, H2, e, I2, T, st2, f2, W, ⟨m0, w0⟩, turn⟩ := h2
  subst e
  have stat : ∀ {H' : Hp}, (∀ b ∈ fp, H' b = none) → ∀ b ∈ fp, FpOk X pins H' b := fun hn b hb => ⟨hn b hb, (f2 b hb).2⟩
  refine codeAny_forLoop_any (fun n s' => ∃ i σ' H', Inv X pins σ' H' s' ∧ tn i s'.heap ∧ (∀ b ∈ fp, H' b = none) ∧ W i n σ' H') ?_ m0 ⟨0, σ, H2, I2, st2, fun b hb => (f2 b hb).1, w0⟩
  rintro n s3 ⟨i, σ3, H3, I3, st3, fr3, w3⟩
  rcases turn i n σ3 H3 w3 with ⟨stop, qn⟩ | ⟨go, N, hN, step⟩
  · refine wpAny_passesOwn hp (thn (T.done X rfl rfl rfl hc i pins s3 σ3 H3 X.xe I3 (stat fr3) st3 stop) fun r s4 ⟨hr, I4⟩ => ?_)
    subst hr
    exact wpAny_execs_nil ⟨σ3, H3, I4, qn⟩
  · refine wpAny_passesOwn hp (thn (T.item X rfl rfl rfl hc i pins s3 σ3 H3 X.xe I3 (stat fr3) st3 go) fun r s4 ⟨u, hr, h4⟩ => ?_)
    subst hr
    refine wpAny_passesOwn hp (thn h4 fun _ s5 ⟨x, H5, I5, r5, y5, st5, fr5⟩ => ?_)
    have I5' := I5.pinned (stat fr5) (T.obj _ _ st5)
    refine wpAny_passesOwn hp (thn (hg _ s5 σ3 H5 x u _ I5' r5 (step x H5 y5)) fun _ s6 ⟨σ6, H6, I6, q6⟩ => ?_)
    refine wpAny_passesOwn hp (thn (hb _ s6 σ6 H6 _ I6 q6) fun f s7 q7 => ?_)
    have again : ∀ {σ7 : St} {H7 : Hp}, Inv X (pins ++ pinsAt fp s5.heap) σ7 H7 s7 → N σ7 H7 → ∃ m, m < n ∧ ∃ i σ' H', Inv X pins σ' H' s7 ∧ tn i s7.heap ∧ (∀ b ∈ fp, H' b = none) ∧ W i m σ' H' := fun {σ7 H7} I7 n7 => by
      obtain ⟨m', hm, w7⟩ := hN σ7 H7 n7
      refine ⟨m', hm, i + 1, σ7, H7, I7.unpinned, T.keep _ _ _ st5 fun b hb o e => (I7.pin (b, o) (List.mem_append_right _ (List.mem_append_right _ (mem_pinsAt hb e)))).1, fun b hb => ?_, w7⟩
      obtain ⟨o, e, d⟩ := T.obj _ _ st5 b hb
      exact (I7.pin (b, o) (List.mem_append_right _ (List.mem_append_right _ (mem_pinsAt hb e)))).2.1
    cases f with
    | next => obtain ⟨σ7, H7, I7, n7⟩ := q7; exact again I7 n7
    | cont => obtain ⟨σ7, H7, I7, n7⟩ := q7; exact again I7 n7
    | brk => obtain ⟨σ7, H7, I7, q7⟩ := q7; exact ⟨σ7, H7, I7.unpinned, q7⟩
    | ret v => obtain ⟨x7, σ7, H7, I7, r7, q7⟩ := q7; exact ⟨x7, σ7, H7, I7.unpinned, r7, q7⟩
end

theorem for_list {K : PySem.W.Frag} {a : Addr} {xs : List V} {g : TG} {tb : TS} {D : Ends} {σ : St} {H : Hp} (Pv : Nat → St → Hp → Prop) (h0 : Pv 0 σ H) (hl : ∀ i σ H, i ≤ xs.length → Pv i σ H → SqL K H a xs)
    (hs : ∀ i x σ H, xs[i]? = some x → Pv i σ H → g x σ H fun σ2 H2 => tb { D with nx := Pv (i + 1), ct := Pv (i + 1), bk := D.nx } σ2 H2) (hd : ∀ σ H, Pv xs.length σ H → D.nx σ H) :
    ∃ W : Nat → Nat → St → Hp → Prop, (∃ m, W 0 m σ H) ∧ ∀ i m σ H, W i m σ H →
      ((Itl K a).stop i H ∧ D.nx σ H) ∨ ((Itl K a).go i H ∧ ∃ N : St → Hp → Prop, (∀ σ' H', N σ' H' → ∃ m', m' < m ∧ W (i + 1) m' σ' H') ∧ ∀ x H', (Itl K a).yld i H x H' → g x σ H' fun σ2 H2 => tb { D with nx := N, ct := N, bk := D.nx } σ2 H2) := by
  refine ⟨fun i m σ H => m = xs.length - i ∧ i ≤ xs.length ∧ Pv i σ H, ⟨xs.length, by simp, Nat.zero_le _, h0⟩, ?_⟩
  rintro i m σ H ⟨rfl, hi, p⟩
  have q := hl i σ H hi p
  by_cases hlt : i < xs.length
  · refine .inr ⟨⟨xs, xs[i], q, by simp [hlt]⟩, Pv (i + 1), fun σ' H' p' => ⟨xs.length - (i + 1), by omega, rfl, hlt, p'⟩, fun x H' y => ?_⟩
    obtain ⟨e, y⟩ := y
    subst e
    exact hs i x σ _ (y xs q) p
  · have e : i = xs.length := by omega
    subst e
    exact .inl ⟨⟨xs, q, Nat.le_refl _⟩, hd σ H p⟩
theorem for_range {lo : Int} {n : Nat} {g : TG} {tb : TS} {D : Ends} {σ : St} {H : Hp} (Pv : Nat → St → Hp → Prop) (h0 : Pv 0 σ H)
    (hs : ∀ i σ H, i < n → Pv i σ H → g (.int (lo + i)) σ H fun σ2 H2 => tb { D with nx := Pv (i + 1), ct := Pv (i + 1), bk := D.nx } σ2 H2) (hd : ∀ σ H, Pv n σ H → D.nx σ H) :
    ∃ W : Nat → Nat → St → Hp → Prop, (∃ m, W 0 m σ H) ∧ ∀ i m σ H, W i m σ H →
      ((Itr lo n).stop i H ∧ D.nx σ H) ∨ ((Itr lo n).go i H ∧ ∃ N : St → Hp → Prop, (∀ σ' H', N σ' H' → ∃ m', m' < m ∧ W (i + 1) m' σ' H') ∧ ∀ x H', (Itr lo n).yld i H x H' → g x σ H' fun σ2 H2 => tb { D with nx := N, ct := N, bk := D.nx } σ2 H2) := by
  refine ⟨fun i m σ H => m = n - i ∧ i ≤ n ∧ Pv i σ H, ⟨n, by simp, Nat.zero_le _, h0⟩, ?_⟩
  rintro i m σ H ⟨rfl, hi, p⟩
  by_cases hlt : i < n
  · refine .inr ⟨hlt, Pv (i + 1), fun σ' H' p' => ⟨n - (i + 1), by omega, rfl, hlt, p'⟩, fun x H' y => ?_⟩
    obtain ⟨e, y⟩ := y
    subst e y
    exact hs i σ _ hlt p
  · have e : i = n := by omega
    subst e
    exact .inl ⟨Nat.le_refl _, hd σ H p⟩
end L2

namespace L2
open PySem PySem.Spec PyProof.Rows

abbrev R2 := V → V → Hp → VK → Prop
def OpR (X : Cx) (f : Value → Value → Sem Value) (r : R2) : Prop :=
  ∀ (pins : List (Addr × Obj)) (s : Shared) (σ : St) (H : Hp) (x y : V) (v u : Value) (Q : VK), Inv X pins σ H s → RelV x v → RelV y u → r x y H Q →
    wpAny (model X.prog X.w) X.A (f v u) (EP X pins σ Q) X.xe s
def UnR (X : Cx) (f : Value → Sem Value) (r : V → Hp → VK → Prop) : Prop :=
  ∀ (pins : List (Addr × Obj)) (s : Shared) (σ : St) (H : Hp) (x : V) (v : Value) (Q : VK), Inv X pins σ H s → RelV x v → r x H Q →
    wpAny (model X.prog X.w) X.A (f v) (EP X pins σ Q) X.xe s
def CallR (X : Cx) (f : Value) (r : List V → Hp → VK → Prop) : Prop :=
  ∀ (pins : List (Addr × Obj)) (s : Shared) (σ : St) (H : Hp) (xs : List V) (us : List Value) (Q : VK), Inv X pins σ H s → Vals xs us → r xs H Q →
    wpAny (model X.prog X.w) X.A (call f us) (EP X pins σ Q) X.xe s
def tOp (r : R2) (ta tb : TE) : TE := fun σ H Q => ta σ H fun x H1 => tb σ H1 fun y H2 => r x y H2 Q
def tUn (r : V → Hp → VK → Prop) (ta : TE) : TE := fun σ H Q => ta σ H fun x H1 => r x H1 Q
def rI (C : Int → Int → Prop) (g : Int → Int → V) : R2 := fun x y H Q => ∃ i j, x = .int i ∧ y = .int j ∧ C i j ∧ Q (g i j) H
def rI0 (g : Int → Int → V) : R2 := fun x y H Q => ∃ i j, x = .int i ∧ y = .int j ∧ Q (g i j) H
def rU (g : Int → V) : V → Hp → VK → Prop := fun x H Q => ∃ i, x = .int i ∧ Q (g i) H

section
variable {X : Cx} {a b c : Expr} {ta tb tc : TE} {pos : Pos}

theorem binT (ha : PE X a ta) (hb : PE X b tb) {pins : List (Addr × Obj)} {s : Shared} {σ : St} {H : Hp} {R : V → V → Hp → Prop} (I : Inv X pins σ H s)
    (h : ta σ H fun x H1 => tb σ H1 fun y H2 => R x y H2) {Q : Value → Shared → Prop} {f : Value → Value → Sem Value}
    (hf : ∀ v u s2 x y H2, Inv X pins σ H2 s2 → RelV x v → RelV y u → R x y H2 → wpAny (model X.prog X.w) X.A (f v u) Q X.xe s2) :
    wpAny (model X.prog X.w) X.A (eval a X.env) (fun v s₁ => wpAny (model X.prog X.w) X.A (eval b X.env) (fun u s₂ => wpAny (model X.prog X.w) X.A (f v u) Q X.xe s₂) X.xe s₁) X.xe s := by
  refine thn (ha pins s σ H _ I h) fun v s1 ⟨x, H1, I1, r1, q1⟩ => ?_
  refine thn (hb pins s1 σ H1 _ I1 q1) fun u s2 ⟨y, H2, I2, r2, q2⟩ => ?_
  exact hf v u s2 x y H2 I2 r1 r2 q2

theorem pe_op {op : Operator} {r : R2} (ho : OpR X (binaryOp op) r) (ha : PE X a ta) (hb : PE X b tb) : PE X (.BinOp a op b pos) (tOp r ta tb) := by
  intro pins s σ H Q I h
  exact wpAny_BinOp (binT ha hb I h fun v u s2 x y H2 I2 rx ry q => ho pins s2 σ H2 x y v u Q I2 rx ry q)
theorem pe_un {op : UnaryOp} {r : V → Hp → VK → Prop} (ho : UnR X (unaryOp op) r) (ha : PE X a ta) : PE X (.UnaryOp op a pos) (tUn r ta) := by
  intro pins s σ H Q I h
  exact UnaryOp_ (thn (ha pins s σ H _ I h) fun v s1 ⟨x, H1, I1, r1, q1⟩ => ho pins s1 σ H1 x v Q I1 r1 q1)
theorem opI {f : Value → Value → Sem Value} {C : Int → Int → Prop} {g : Int → Int → Int}
    (rule : ∀ (i j : Int) (t u : Tok) (s : Shared) (Q : Value → Shared → Prop) (E : Value → Shared → Prop), C i j → Q (.int (g i j) s.toks) { s with toks := s.toks + 1 } → wpAny (model X.prog X.w) X.A (f (.int i t) (.int j u)) Q E s) :
    OpR X f (rI C fun i j => .int (g i j)) := by
  intro pins s σ H x y v u Q I rx ry h
  obtain ⟨i, j, rfl, rfl, hc, q⟩ := h
  obtain ⟨t, rfl⟩ := rx
  obtain ⟨t', rfl⟩ := ry
  exact rule i j t t' s _ _ hc ⟨.int (g i j), H, I.tok _, ⟨_, rfl⟩, q⟩
theorem opI0 {f : Value → Value → Sem Value} {g : Int → Int → Int}
    (rule : ∀ (i j : Int) (t u : Tok) (s : Shared) (Q : Value → Shared → Prop) (E : Value → Shared → Prop), Q (.int (g i j) s.toks) { s with toks := s.toks + 1 } → wpAny (model X.prog X.w) X.A (f (.int i t) (.int j u)) Q E s) :
    OpR X f (rI0 fun i j => .int (g i j)) := by
  intro pins s σ H x y v u Q I rx ry h
  obtain ⟨i, j, rfl, rfl, q⟩ := h
  obtain ⟨t, rfl⟩ := rx
  obtain ⟨t', rfl⟩ := ry
  exact rule i j t t' s _ _ ⟨.int (g i j), H, I.tok _, ⟨_, rfl⟩, q⟩
theorem opB0 {f : Value → Value → Sem Value} {g : Int → Int → Bool}
    (rule : ∀ (i j : Int) (t u : Tok) (s : Shared) (Q : Value → Shared → Prop) (E : Value → Shared → Prop), Q (.bool (g i j)) s → wpAny (model X.prog X.w) X.A (f (.int i t) (.int j u)) Q E s) :
    OpR X f (rI0 fun i j => .bl (g i j)) := by
  intro pins s σ H x y v u Q I rx ry h
  obtain ⟨i, j, rfl, rfl, q⟩ := h
  obtain ⟨t, rfl⟩ := rx
  obtain ⟨t', rfl⟩ := ry
  exact rule i j t t' s _ _ ⟨.bl (g i j), H, I, rfl, q⟩

def CDiv (i j : Int) : Prop := 0 < j ∧ j < 1073741824
def CPow (i j : Int) : Prop := 0 ≤ j ∧ j ≤ 1000000 ∧ i.natAbs < 2 ^ 64
def CMul (i j : Int) : Prop := (-(2 ^ 64) < i ∧ i < 2 ^ 64) ∨ (-(2 ^ 64) < j ∧ j < 2 ^ 64)
theorem CMul.ok {i j : Int} (h : CMul i j) : IntMulOk i j := by
  rcases h with ⟨h1, h2⟩ | ⟨h1, h2⟩
  · exact .of_left (intBits_le_64 h1 h2)
  · exact .of_right (intBits_le_64 h1 h2)
theorem op_add : OpR X (binaryOp .Add) (rI0 fun i j => .int (i + j)) := opI0 fun _ _ _ _ _ _ _ q => add_int q
theorem op_sub : OpR X (binaryOp .Sub) (rI0 fun i j => .int (i - j)) := opI0 fun _ _ _ _ _ _ _ q => sub_int q
theorem op_mul : OpR X (binaryOp .Mult) (rI CMul fun i j => .int (i * j)) := opI fun _ _ _ _ _ _ _ hc q => mul_int q hc.ok
theorem op_fdiv : OpR X (binaryOp .FloorDiv) (rI CDiv fun i j => .int (i / j)) := opI fun i j _ _ _ _ _ hc q => by
  have h1 : (0 : Int) < j := hc.1
  have h2 : j < 1073741824 := hc.2
  exact floordiv_int (by omega) (by rw [Int.fdiv_eq_ediv_of_nonneg i (by omega)]; exact q) (.inl (PyProof.noPylong_small (by omega)))
theorem op_mod : OpR X (binaryOp .Mod) (rI (fun _ j => 0 < j) fun i j => .int (i % j)) := opI fun i j _ _ _ _ _ hc q => by
  have h1 : (0 : Int) < j := hc
  exact mod_int' (by omega) (by rw [Int.fmod_eq_emod_of_nonneg i (by omega)]; exact q)
theorem op_pow : OpR X (binaryOp .Pow) (rI CPow fun i j => .int (i ^ j.toNat)) := opI fun _ _ _ _ _ _ _ hc q => pow_int_small hc.1 hc.2.1 hc.2.2 q
theorem unI {f : Value → Sem Value} {g : Int → Int}
    (rule : ∀ (i : Int) (t : Tok) (s : Shared) (Q : Value → Shared → Prop) (E : Value → Shared → Prop), Q (.int (g i) s.toks) { s with toks := s.toks + 1 } → wpAny (model X.prog X.w) X.A (f (.int i t)) Q E s) :
    UnR X f (rU fun i => .int (g i)) := by
  intro pins s σ H x v Q I rx h
  obtain ⟨i, rfl, q⟩ := h
  obtain ⟨t, rfl⟩ := rx
  exact rule i t s _ _ ⟨.int (g i), H, I.tok _, ⟨_, rfl⟩, q⟩
theorem un_neg : UnR X (unaryOp .USub) (rU fun i => .int (-i)) := unI fun _ _ _ _ _ q => neg_int q
end

def scal : V → V → Bool
  | .non, .non => true | .non, .int _ => true | .int _, .non => true | .non, .bl _ => true | .bl _, .non => true | .non, .str _ => true | .str _, .non => true
  | .int _, .int _ => true | .bl _, .bl _ => true | .str _, .str _ => true | .byt _, .byt _ => true
  | .int _, .str _ => true | .str _, .int _ => true | .bl _, .str _ => true | .str _, .bl _ => true
  | _, _ => false
def rEq : R2 := fun x y H Q => scal x y = true ∧ Q (.bl (decide (x = y))) H
def rNe : R2 := fun x y H Q => scal x y = true ∧ Q (.bl (!decide (x = y))) H

theorem dec_int {i j : Int} : decide (V.int i = V.int j) = (i == j) := by
  rw [Bool.eq_iff_iff]
  simp
theorem dec_bl {i j : Bool} : decide (V.bl i = V.bl j) = (i == j) := by
  rw [Bool.eq_iff_iff]
  simp
theorem dec_str {i j : Str} : decide (V.str i = V.str j) = (i == j) := by
  rw [Bool.eq_iff_iff]
  simp
theorem dec_byt {i j : Array UInt8} : decide (V.byt i = V.byt j) = (i.toList == j.toList) := by
  rw [Bool.eq_iff_iff]
  cases i
  cases j
  simp

section
variable {X : Cx} {a b c : Expr} {ta tb tc : TE} {pos : Pos}
theorem fin_bl {pins : List (Addr × Obj)} {σ : St} {H : Hp} {s : Shared} {Q : VK} {k k' : Bool} (I : Inv X pins σ H s) (q : Q (.bl k) H) (e : k = k') : EP X pins σ Q (.bool k') s := by
  subst e
  exact ⟨.bl k, H, I, rfl, q⟩
theorem op_eq : OpR X (compareOp .Eq) rEq := by
  intro pins s σ H x y v u Q I rx ry h
  obtain ⟨hs, q⟩ := h
  cases x with
  | non =>
    cases rx
    cases y with
    | non => cases ry; exact PySem.EqNone.eq_none_none (fin_bl I q (by simp))
    | bl j => cases ry; exact PySem.EqNone.eq_none_bool (fin_bl I q (by simp))
    | int j => obtain ⟨t', rfl⟩ := ry; exact PySem.EqNone.eq_none_int (fin_bl I q (by simp))
    | str j => obtain ⟨t', rfl⟩ := ry; exact PySem.EqNone.eq_none_str (fin_bl I q (by simp))
    | _ => exact absurd (show false = true from hs) Bool.false_ne_true
  | bl i =>
    cases rx
    cases y with
    | non => cases ry; exact PySem.EqNone.eq_bool_none (fin_bl I q (by simp))
    | bl j => cases ry; exact eq_bool (fin_bl I q dec_bl)
    | str j => obtain ⟨t', rfl⟩ := ry; exact PySem.EqMixed.eq_bool_str (fin_bl I q (by simp))
    | _ => exact absurd (show false = true from hs) Bool.false_ne_true
  | int i =>
    obtain ⟨t, rfl⟩ := rx
    cases y with
    | non => cases ry; exact PySem.EqNone.eq_int_none (fin_bl I q (by simp))
    | int j => obtain ⟨t', rfl⟩ := ry; exact eq_int (fin_bl I q dec_int)
    | str j => obtain ⟨t', rfl⟩ := ry; exact PySem.EqMixed.eq_int_str (fin_bl I q (by simp))
    | _ => exact absurd (show false = true from hs) Bool.false_ne_true
  | str i =>
    obtain ⟨t, rfl⟩ := rx
    cases y with
    | non => cases ry; exact PySem.EqNone.eq_str_none (fin_bl I q (by simp))
    | bl j => cases ry; exact PySem.EqMixed.eq_str_bool (fin_bl I q (by simp))
    | int j => obtain ⟨t', rfl⟩ := ry; exact PySem.EqMixed.eq_str_int (fin_bl I q (by simp))
    | str j => obtain ⟨t', rfl⟩ := ry; exact eq_str (fin_bl I q dec_str)
    | _ => exact absurd (show false = true from hs) Bool.false_ne_true
  | byt i =>
    obtain ⟨t, rfl⟩ := rx
    cases y with
    | byt j => obtain ⟨t', rfl⟩ := ry; exact PySem.W.eq_bytes (fin_bl I q dec_byt)
    | _ => exact absurd (show false = true from hs) Bool.false_ne_true
  | _ => cases y <;> exact absurd (show false = true from hs) Bool.false_ne_true
theorem op_ne : OpR X (compareOp .NotEq) rNe := by
  intro pins s σ H x y v u Q I rx ry h
  obtain ⟨hs, q⟩ := h
  cases x with
  | non =>
    cases rx
    cases y with
    | non => cases ry; exact PySem.EqNone.ne_none_none (fin_bl I q (by simp))
    | bl j => cases ry; exact PySem.EqNone.ne_none_bool (fin_bl I q (by simp))
    | int j => obtain ⟨t', rfl⟩ := ry; exact PySem.EqNone.ne_none_int (fin_bl I q (by simp))
    | str j => obtain ⟨t', rfl⟩ := ry; exact PySem.EqNone.ne_none_str (fin_bl I q (by simp))
    | _ => exact absurd (show false = true from hs) Bool.false_ne_true
  | bl i =>
    cases rx
    cases y with
    | non => cases ry; exact PySem.EqNone.ne_bool_none (fin_bl I q (by simp))
    | bl j => cases ry; exact ne_bool (fin_bl I q (congrArg not dec_bl))
    | str j => obtain ⟨t', rfl⟩ := ry; exact PySem.EqMixed.ne_bool_str (fin_bl I q (by simp))
    | _ => exact absurd (show false = true from hs) Bool.false_ne_true
  | int i =>
    obtain ⟨t, rfl⟩ := rx
    cases y with
    | non => cases ry; exact PySem.EqNone.ne_int_none (fin_bl I q (by simp))
    | int j => obtain ⟨t', rfl⟩ := ry; exact ne_int (fin_bl I q (congrArg not dec_int))
    | str j => obtain ⟨t', rfl⟩ := ry; exact PySem.EqMixed.ne_int_str (fin_bl I q (by simp))
    | _ => exact absurd (show false = true from hs) Bool.false_ne_true
  | str i =>
    obtain ⟨t, rfl⟩ := rx
    cases y with
    | non => cases ry; exact PySem.EqNone.ne_str_none (fin_bl I q (by simp))
    | bl j => cases ry; exact PySem.EqMixed.ne_str_bool (fin_bl I q (by simp))
    | int j => obtain ⟨t', rfl⟩ := ry; exact PySem.EqMixed.ne_str_int (fin_bl I q (by simp))
    | str j => obtain ⟨t', rfl⟩ := ry; exact ne_str (fin_bl I q (congrArg not dec_str))
    | _ => exact absurd (show false = true from hs) Bool.false_ne_true
  | byt i =>
    obtain ⟨t, rfl⟩ := rx
    cases y with
    | byt j => obtain ⟨t', rfl⟩ := ry; exact PySem.W.ne_bytes (fin_bl I q (congrArg not dec_byt))
    | _ => exact absurd (show false = true from hs) Bool.false_ne_true
  | _ => cases y <;> exact absurd (show false = true from hs) Bool.false_ne_true

theorem op_lt : OpR X (compareOp .Lt) (rI0 fun i j => .bl (decide (i < j))) := opB0 fun _ _ _ _ _ _ _ q => lt_int q
theorem op_gt : OpR X (compareOp .Gt) (rI0 fun i j => .bl (decide (j < i))) := opB0 fun _ _ _ _ _ _ _ q => gt_int q
theorem op_ge : OpR X (compareOp .GtE) (rI0 fun i j => .bl (decide (j ≤ i))) := opB0 fun _ _ _ _ _ _ _ q => ge_int q
theorem op_isN : OpR X (compareOp .Is) (fun x y H Q => y = .non ∧ Q (.bl (decide (x = .non))) H) := by
  intro pins s σ H x y v u Q I rx ry h
  obtain ⟨rfl, q⟩ := h
  cases ry
  refine is_none_gen (fin_bl I q ?_)
  cases x <;> first
    | (cases rx; rfl)
    | (obtain ⟨t, rfl⟩ := rx; rfl)
theorem op_notN : OpR X (compareOp .IsNot) (fun x y H Q => y = .non ∧ Q (.bl (!decide (x = .non))) H) := by
  intro pins s σ H x y v u Q I rx ry h
  obtain ⟨rfl, q⟩ := h
  cases ry
  refine isnot_none_gen (fin_bl I q ?_)
  cases x <;> first
    | (cases rx; rfl)
    | (obtain ⟨t, rfl⟩ := rx; rfl)

def isObj : HO → Bool
  | .lst _ => true
  | .ins _ _ _ => true
  | _ => false
theorem obj_there {pins : List (Addr × Obj)} {s : Shared} {σ : St} {H : Hp} {a : Addr} {o : HO} (I : Inv X pins σ H s) (h : H a = some o) (p : isObj o = true) : ∃ ob, s.heap.get? a = some ob ∧ ob.cls ≠ .type "tuple" := by
  cases o with
  | lst xs =>
    obtain ⟨_, its, n, _, e⟩ : xs.length ≤ sizeLine ∧ ∃ (its : List Value) (n : Nat), Vals xs its ∧ s.heap.get? a = some { cls := .type "list", data := .seq its.toArray n } := I.hok a _ h
    exact ⟨_, e, (by show Value.type "list" ≠ .type "tuple"; decide +kernel)⟩
  | ins C dx fs =>
    have x := I.hok a _ h
    obtain ⟨_, _, _, e, _⟩ := x
    exact ⟨_, e, (by show Value.ref C ≠ .type "tuple"; exact fun z => by cases z)⟩
  | _ => exact absurd (show false = true from p) Bool.false_ne_true
theorem nomark (b : Expr) {op : CmpOp} (h : op ≠ .In := by decide) (h2 : op ≠ .NotIn := by decide) : behindInMarks op b = false := by
  have e1 : (op == CmpOp.In) = false := by cases op <;> first | rfl | exact absurd rfl h
  have e2 : (op == CmpOp.NotIn) = false := by cases op <;> first | rfl | exact absurd rfl h2
  cases b <;> simp [behindInMarks, e1, e2]
theorem pe_cmpR {op : CmpOp} {r : R2} (ho : OpR X (compareOp op) r) (ha : PE X a ta) (hb : PE X b tb) (hm : behindInMarks op b = false) : PE X (.Compare a [op] [b] pos) (tOp r ta tb) := by
  intro pins s σ H Q I h
  exact wpAny_Compare1 (binT ha hb I h fun v u s2 x y H2 I2 rx ry q => ho pins s2 σ H2 x y v u Q I2 rx ry q) hm
def tTest (t : TE) : TT := fun σ H Q => t σ H fun x H' => ∃ k, x = .bl k ∧ Q k H'
theorem pt_cmpR {op : CmpOp} {r : R2} (ho : OpR X (compareOp op) r) (ha : PE X a ta) (hb : PE X b tb) (hm : behindInMarks op b = false) : PT X (.Compare a [op] [b] pos) (tTest (tOp r ta tb)) := by
  intro pins s σ H Q I h
  refine wpAny_isTrue_Compare1 (thn (ha pins s σ H _ I h) fun v s1 ⟨x, H1, I1, r1, q1⟩ => thn (hb pins s1 σ H1 _ I1 q1) fun u s2 ⟨y, H2, I2, r2, q2⟩ =>
    thn (ho pins s2 σ H2 x y v u _ I2 r1 r2 q2) fun c s3 ⟨z, H3, I3, r3, k, e, q3⟩ => ?_) hm
  subst e
  cases r3
  exact wpAny_truthy_bool ⟨H3, I3, q3⟩
theorem line63 : (sizeLine : Nat) < 2 ^ 63 := by rw [sizeLine_eq]; decide
theorem vals1 {x : V} {us : List Value} (r : Vals [x] us) : ∃ u, us = [u] ∧ RelV x u := by
  cases r with
  | cons r1 r2 => cases r2; exact ⟨_, rfl, r1⟩
theorem vals2 {x y : V} {us : List Value} (r : Vals [x, y] us) : ∃ u w', us = [u, w'] ∧ RelV x u ∧ RelV y w' := by
  cases r with
  | cons r1 r2 =>
    cases r2 with
    | cons r3 r4 => cases r4; exact ⟨_, _, rfl, r1, r3⟩
theorem call_max2 (hc : X.calm = true) : CallR X (.builtin "max") (fun xs H Q => ∃ i j, xs = [.int i, .int j] ∧ Q (.int (if j > i then j else i)) H) := by
  intro pins s σ H xs us Q I r h
  obtain ⟨i, j, rfl, q⟩ := h
  obtain ⟨u, w', rfl, ⟨t, rfl⟩, ⟨t', rfl⟩⟩ := vals2 r
  refine max_two_ints (I.ok.hd hc) fun h' tk k => ⟨_, H, I.kept k, ?_, q⟩
  by_cases hj : j > i
  · rw [if_pos hj, if_pos hj]; exact ⟨_, rfl⟩
  · rw [if_neg hj, if_neg hj]; exact ⟨_, rfl⟩
end
end L2

namespace L2
open PySem PySem.Spec PyProof.Rows

structure ObjM (h : Heap) (x dx C : Addr) (mA : Str → Option Value) : Prop where
  obj : h.get? x = some (PySem.W.instObj C dx)
  ns : h.Ns1 dx mA
  ne : dx ≠ x

theorem lookIn_ns {h : Heap} {dx : Addr} {mA : Str → Option Value} (n : h.Ns1 dx mA) : ∃ od, h.get? dx = some od ∧ ∀ name, PySem.W.lookIn name od = some (mA name) := by
  obtain ⟨o, es, ep, ho, hd, hk, _, hm⟩ := n
  refine ⟨o, ho, fun name => ?_⟩
  have e := hm name
  unfold nsFind findBy at e
  rw [← Array.find?_toList] at e
  unfold PySem.W.lookIn
  rw [hd]
  dsimp only
  split
  · rename_i y q
    rw [q] at e
    exact congrArg some e
  · rename_i q
    rw [q] at e
    have a : es.toList.any (·.refKey) = false := by
      rw [List.any_eq_false]
      intro y hy
      obtain ⟨z, t, hkey⟩ := hk y (Array.mem_toList_iff.mp hy)
      simp [DictEntry.refKey, hkey]
    have a' : ¬ es.toList.any (·.refKey) = true := by rw [a]; exact Bool.false_ne_true
    rw [if_neg a']
    exact congrArg some e

theorem ObjM.look {h : Heap} {x dx C : Addr} {mA : Str → Option Value} (I : ObjM h x dx C mA) : ∃ od, PySem.W.InstAt h x (PySem.W.instObj C dx) C (some od) ∧ ∀ name, PySem.W.lookIn name od = some (mA name) :=
  let ⟨od, ho, hl⟩ := lookIn_ns I.ns
  ⟨od, ⟨I.obj, rfl, rfl, ho⟩, hl⟩

section
variable {prog : Program} {w : World} {A : Around} {E : Value → Shared → Prop} {s : Shared} {K : PySem.W.Frag} {x dx C f : Addr} {mA : Str → Option Value} {name : Str} {v : Value}

theorem get_map {expr : Bool} {Q : Value → Shared → Prop} (X : K.In s.heap) (I : ObjM s.heap x dx C mA) (hg : PySem.W.plainGet K C name = true) (hh : PySem.W.hasDictIn K C = true)
    (ha : PySem.W.findIn K (.ref C) name = some none) (hv : mA name = some v) (hv' : PySem.W.handedIn v = true) (h : Q v { s with toks := s.toks + 1 }) :
    wpAny (model prog w) A (getAttr (.ref x) name expr) Q E s := by
  obtain ⟨od, J, hl⟩ := I.look
  exact PySem.W.get_value X J (PySem.W.plainGet_of hg).1 (PySem.W.findObj_own hh ha rfl (by rw [hl, hv])) hv' h

theorem get_meth {pl : Sem Bool} {Q : Value × List Value → Shared → Prop} (X : K.In s.heap) (I : ObjM s.heap x dx C mA) (hg : PySem.W.plainGet K C name = true)
    (hf : PySem.W.findIn K (.ref C) name = some (some (.ref f))) (ht : PySem.W.isFn K (.ref f) = true) (hv : mA name = none) (h : Q (.ref f, [.ref x]) s) :
    wpAny (model prog w) A (getMethod (.ref x) name pl) Q E s := by
  obtain ⟨od, J, hl⟩ := I.look
  exact PySem.W.method_fn X J (PySem.W.plainGet_of hg).1 (PySem.W.plainGet_of hg).2 hf (beq_iff_eq.mp ht) (by show (PySem.W.lookIn name od).map (·.isSome) = some false; rw [hl, hv]; rfl) h

theorem set_map {ns : List Str} {Q : Unit → Shared → Prop} (X : K.In s.heap) (I : ObjM s.heap x dx C mA)
    (hs : PySem.W.findIn K (.ref C) "__setattr__" = some (some (.builtin "object.__setattr__"))) (hp : PySem.W.plainOver K C = true) (ht : PySem.W.takerIn K C name = some none) (hh : PySem.W.hasDictIn K C = true)
    (hw : PySem.Within mA ns) (hsz : ns.length ≤ sizeLine)
    (h : ∀ h', ObjM h' x dx C (fun y => if y = name then some v else mA y) → Heap.SameBut dx s.heap h' → Q () { s with heap := h', toks := s.toks + 2 }) :
    wpAny (model prog w) A (setAttr (.ref x) name v) Q E s := by
  obtain ⟨od, J, hl⟩ := I.look
  refine PySem.W.set_plain X J hs (PySem.W.osa_open (s := { s with toks := s.toks + 1 }) (r := none) X J hp ht fun b => ?_)
  obtain ⟨cd, hc, hd'⟩ := PySem.W.any_some hh
  have hx : s.heap.get? x = some ⟨.ref C, some dx, .plain, #[]⟩ := I.obj
  refine wpAny_bind (wpAny_pure (wpAny_bind (wpAny_bind (wpAny_loadPart hx (wpAny_bind (PySem.W.Looks.here (s := { s with toks := s.toks + 1 }) (PySem.W.looks_clsIn X hc) ?_))))))
  rw [hd']
  refine wpAny_pure (a := some dx) (wpAny_bind (wpAny_pure (wpAny_bind ?_)))
  refine wpAny_nsSet1 (s := { s with toks := s.toks + 1 }) I.ns fun h' hn2 hs2 => ?_
  obtain ⟨oD, esD, epD, hoD, hdD, hcD⟩ := hn2.count (PySem.Within.cons name v hw)
  refine wpAny_bind (wpAny_lookBehind hoD (by rw [hdD]; exact pastItsLine_dict (Nat.le_trans hcD (by rw [List.length_cons]; omega))) ?_)
  exact wpAny_pure (h _ ⟨(hs2.2 _ (Ne.symm I.ne)).trans I.obj, hn2, I.ne⟩ hs2)

theorem make_map {R : Result → Shared → Prop} {vs : List Value} {kw : List (Str × Value)} (X : K.In s.heap) (hm : PySem.W.makesIn K C = true)
    (hi : PySem.W.findIn K (.ref C) "__init__" = some (some (.ref f))) (hf : PySem.W.typeIn K (.ref f) = some (.type "function"))
    (h : codeAny (model prog w) (A.under (.builtin "type.__call__" ⟨.ref C :: vs, kw⟩)) (.call (.ref f) ⟨.ref (s.heap.objs.size + 1) :: vs, kw⟩) (PySem.W.InitBack (s.heap.objs.size + 1) R)
      { s with heap := (s.heap.push PySem.W.emptyDict).push (PySem.W.instObj C s.heap.objs.size) }) :
    codeAny (model prog w) A (.call (.ref C) ⟨vs, kw⟩) R s := by
  obtain ⟨hh, g, d, t, os⟩ := s
  exact PySem.W.make_core (PySem.W.makes_of X hm) (PySem.W.looks_findIn X hi) (fun self => PySem.W.bind_fn X self hf) (.inl rfl) h
end

def putF (f : Str) (v : V) : List (Str × V) → List (Str × V)
  | [] => [(f, v)]
  | (g, x) :: r => if g = f then (g, v) :: r else (g, x) :: putF f v r
theorem lookup_putF (f g : Str) (v : V) : ∀ fs : List (Str × V), (putF f v fs).lookup g = if g = f then some v else fs.lookup g
  | [] => by
    show List.lookup g [(f, v)] = _
    by_cases h : g = f
    · have hb : (g == f) = true := beq_iff_eq.mpr h
      simp only [List.lookup, hb, if_pos h]
    · have hb : (g == f) = false := beq_eq_false_iff_ne.mpr h
      simp only [List.lookup, hb, if_neg h]
  | (k, x) :: r => by
    have ih := lookup_putF f g v r
    rw [show putF f v ((k, x) :: r) = (if k = f then (k, v) :: r else (k, x) :: putF f v r) from rfl]
    by_cases hk : k = f
    · rw [if_pos hk]
      by_cases h : g = k
      · have hb : (g == k) = true := beq_iff_eq.mpr h
        simp only [List.lookup, hb, if_pos (h.trans hk)]
      · have hb : (g == k) = false := beq_eq_false_iff_ne.mpr h
        simp only [List.lookup, hb, if_neg (fun e : g = f => h (e.trans hk.symm))]
    · rw [if_neg hk]
      by_cases h : g = k
      · have hb : (g == k) = true := beq_iff_eq.mpr h
        simp only [List.lookup, hb, if_neg (fun e : g = f => hk (h.symm.trans e))]
      · have hb : (g == k) = false := beq_eq_false_iff_ne.mpr h
        simp only [List.lookup, hb]
        exact ih
theorem keys_putF (f : Str) (v : V) : ∀ fs : List (Str × V), f ∈ (putF f v fs).map (·.1) ∧ ∀ g, g ∈ fs.map (·.1) → g ∈ (putF f v fs).map (·.1)
  | [] => ⟨by simp [putF], fun g h => by simp at h⟩
  | (k, x) :: r => by
    obtain ⟨i1, i2⟩ := keys_putF f v r
    rw [show putF f v ((k, x) :: r) = (if k = f then (k, v) :: r else (k, x) :: putF f v r) from rfl]
    by_cases hk : k = f
    · rw [if_pos hk]
      subst hk
      exact ⟨by simp, fun g h => by simpa using h⟩
    · rw [if_neg hk]
      refine ⟨?_, fun g h => ?_⟩
      · rw [List.map_cons]
        exact List.mem_cons_of_mem _ i1
      · rw [List.map_cons] at h ⊢
        rcases List.mem_cons.mp h with e | e
        · exact List.mem_cons.mpr (.inl e)
        · exact List.mem_cons_of_mem _ (i2 g e)
theorem length_putF (f : Str) (v : V) : ∀ fs : List (Str × V), (putF f v fs).length ≤ fs.length + 1
  | [] => by simp [putF]
  | (k, x) :: r => by
    have ih := length_putF f v r
    rw [show putF f v ((k, x) :: r) = (if k = f then (k, v) :: r else (k, x) :: putF f v r) from rfl]
    by_cases hk : k = f
    · rw [if_pos hk, List.length_cons, List.length_cons]; omega
    · rw [if_neg hk, List.length_cons, List.length_cons]; omega

theorem RelO.some_of {v : V} {o : Option Value} (r : RelO (some v) o) : ∃ u, o = some u ∧ RelV v u := by
  cases o with
  | none => exact (show False from r).elim
  | some u => exact ⟨u, rfl, r⟩
theorem RelO.none_of {o : Option Value} (r : RelO none o) : o = none := by
  cases o with
  | none => rfl
  | some u => exact (show False from r).elim
theorem handed_of {v : V} {u : Value} (r : RelV v u) : PySem.W.handedIn u = true := by
  cases v with
  | non => cases (show u = Value.none from r); rfl
  | bl b => cases (show u = Value.bool b from r); rfl
  | int i => obtain ⟨t, e⟩ := (show ∃ t, u = Value.int i t from r); cases e; rfl
  | str x => obtain ⟨t, e⟩ := (show ∃ t, u = Value.str x t from r); cases e; rfl
  | byt b => obtain ⟨t, e⟩ := (show ∃ t, u = Value.bytes b t from r); cases e; rfl
  | flt b => obtain ⟨t, e⟩ := (show ∃ t, u = Value.float b t from r); cases e; rfl
  | ref a => cases (show u = Value.ref a from r); rfl
  | ty n => cases (show u = Value.type n from r); rfl

section
variable {P : Program} {w : World} {H H' : Hp} {h h' : Heap} {a C dx : Addr} {fs fs' : List (Str × V)}
theorem ins_get (hok : HOk P w H h) (e : H a = some (.ins C dx fs)) : ∃ mA, ObjM h a dx C mA ∧ (∀ f, RelO (fs.lookup f) (mA f)) ∧ PySem.Within mA (fs.map (·.1)) ∧ fs.length ≤ 1000 ∧ H dx = some (.own a) := by
  obtain ⟨d, z, ne, ob, mA, n, r, q⟩ := (show ObjOk P w H h a (.ins C dx fs) from hok a _ e)
  exact ⟨mA, ⟨ob, n, ne⟩, r, q, z, d⟩
end

structure Cls (K : PySem.W.Frag) (C : Addr) : Prop where
  pg : PySem.W.plainGet K C Str.empty = true
  hd : PySem.W.hasDictIn K C = true
  po : PySem.W.plainOver K C = true
  sa : PySem.W.findIn K (.ref C) "__setattr__" = some (some (.builtin "object.__setattr__"))
theorem Cls.get {K : PySem.W.Frag} {C : Addr} (c : Cls K C) (f : Str) : PySem.W.plainGet K C f = true := c.pg
def NoAttr (K : PySem.W.Frag) (C : Addr) (f : Str) : Prop := PySem.W.findIn K (.ref C) f = some none
theorem NoAttr.taker {K : PySem.W.Frag} {C : Addr} {f : Str} (n : NoAttr K C f) : PySem.W.takerIn K C f = some none := by
  unfold PySem.W.takerIn
  rw [show PySem.W.findIn K (.ref C) f = some none from n]
  rfl
structure Con (K : PySem.W.Frag) (C : Addr) (f : Str) (v : V) (u : Value) : Prop where
  at_ : PySem.W.findIn K (.ref C) f = some (some u)
  rel : RelV v u
  get : PySem.W.specialIn K u "__get__" = some none
  cp : PySem.W.copiedNames.contains f = false
structure Meth (K : PySem.W.Frag) (C : Addr) (m : Str) (f : Addr) : Prop where
  at_ : PySem.W.findIn K (.ref C) m = some (some (.ref f))
  fn : PySem.W.isFn K (.ref f) = true
  kp : PySem.W.keepIn K (.ref f) = true

section
variable {X : Cx} {pins : List (Addr × Obj)} {σ : St} {H : Hp} {s : Shared} {a C dx : Addr} {fs : List (Str × V)} {f : Str} {v : V} {A : Around} {E : Value → Shared → Prop}

theorem getattr_ok {b : Bool} {Q : Value → Shared → Prop} (I : Inv X pins σ H s) (e : H a = some (.ins C dx fs)) (c : Cls X.K C) (n : NoAttr X.K C f) (l : fs.lookup f = some v)
    (h : ∀ u s', Inv X pins σ H s' → RelV v u → Q u s') : wpAny (model X.prog X.w) A (getAttr (.ref a) f b) Q E s := by
  obtain ⟨mA, O, r, _, _, _⟩ := ins_get I.hok e
  obtain ⟨u, hu, ru⟩ := RelO.some_of (v := v) (o := mA f) (by rw [← l]; exact r f)
  exact get_map I.kIn O (c.get f) c.hd n hu (handed_of ru) (h u _ (I.tok _) ru)

theorem getmeth_ok {m : Str} {g : Addr} {pl : Sem Bool} {Q : Value × List Value → Shared → Prop} (I : Inv X pins σ H s) (e : H a = some (.ins C dx fs)) (c : Cls X.K C) (k : Meth X.K C m g) (l : fs.lookup m = none)
    (h : Q (.ref g, [.ref a]) s) : wpAny (model X.prog X.w) A (getMethod (.ref a) m pl) Q E s := by
  obtain ⟨mA, O, r, _, _, _⟩ := ins_get I.hok e
  have hn : mA m = none := RelO.none_of (by rw [← l]; exact r m)
  exact get_meth I.kIn O (c.get m) k.at_ k.fn hn h

theorem setattr_ok {y : V} {u : Value} {Q : Unit → Shared → Prop} (I : Inv X pins σ H s) (e : H a = some (.ins C dx fs)) (c : Cls X.K C) (n : NoAttr X.K C f) (hl : fs.length < 1000) (ry : RelV y u)
    (h : ∀ s', Inv X pins σ (upd H a (.ins C dx (putF f y fs))) s' → Q () s') : wpAny (model X.prog X.w) A (setAttr (.ref a) f u) Q E s := by
  obtain ⟨mA, O, r, wi, _, ho⟩ := ins_get I.hok e
  have hz : (fs.map (·.1)).length ≤ sizeLine := by rw [List.length_map, sizeLine_eq]; omega
  refine set_map I.kIn O c.sa c.po n.taker c.hd wi hz fun h' O' sb => h _ ?_
  have hd : ∃ o, h'.get? dx = some o := let ⟨o, _, _, e', _⟩ := O'.ns; ⟨o, e'⟩
  refine I.write (x := a) (e := dx) (by rw [e]; exact True.intro) (.inr ho) (fun b q hb z => (sb.2 b hb).trans z) hd ?_
  refine ⟨by rw [upd_ne O.ne]; exact ho, ?_, O.ne, O'.obj, _, O'.ns, fun g => ?_, fun g hg => ?_⟩
  · have := length_putF f y fs; omega
  · show RelO ((putF f y fs).lookup g) (if g = f then some u else mA g)
    rw [lookup_putF]
    by_cases q : g = f
    · rw [if_pos q, if_pos q]; exact ry
    · rw [if_neg q, if_neg q]; exact r g
  · by_cases q : g = f
    · rw [q]; exact (keys_putF f y fs).1
    · refine (keys_putF f y fs).2 g (wi g fun z => hg ?_)
      show (if g = f then some u else mA g) = none
      rw [if_neg q]; exact z

theorem Inv.made (I : Inv X pins σ H s) : Inv X pins σ (upd (upd H s.heap.objs.size (.own (s.heap.objs.size + 1))) (s.heap.objs.size + 1) (.ins C s.heap.objs.size []))
    { s with heap := (s.heap.push PySem.W.emptyDict).push (PySem.W.instObj C s.heap.objs.size) } := by
  have e1 : (s.heap.push PySem.W.emptyDict).get? s.heap.objs.size = some PySem.W.emptyDict := Heap.get?_push_size s.heap rfl
  have e2 : ((s.heap.push PySem.W.emptyDict).push (PySem.W.instObj C s.heap.objs.size)).get? (s.heap.objs.size + 1) = some (PySem.W.instObj C s.heap.objs.size) := by
    have := Heap.get?_push_size (s.heap.push PySem.W.emptyDict) (o := PySem.W.instObj C s.heap.objs.size) rfl
    rwa [Heap.size_push] at this
  have e3 : (s.heap.push PySem.W.emptyDict).Ns s.heap.objs.size (fun _ => none) := ⟨PySem.W.emptyDict, #[], _, e1, rfl, (fun e he => absurd he (by simp)), fun _ => rfl⟩
  have I1 := I.laid (a := s.heap.objs.size) (o := .own (s.heap.objs.size + 1)) (h' := s.heap.push PySem.W.emptyDict) (t' := s.toks) (fun b u q => Heap.get?_push_of_some _ q) (Nat.le_refl _) ⟨_, e1⟩
  refine I1.laid (a := s.heap.objs.size + 1) (o := .ins C s.heap.objs.size []) (t' := s.toks) (fun b u q => Heap.get?_push_of_some _ q) (Nat.le_of_eq (Heap.size_push _ _)) ?_
  have ne : s.heap.objs.size ≠ s.heap.objs.size + 1 := Nat.ne_of_lt (Nat.lt_succ_self _)
  refine ⟨by rw [upd_ne ne, upd_same], Nat.zero_le _, ne, e2, fun _ => none, (Heap.Ns1.of_empty e3).at fun o q => Heap.get?_push_of_some _ q, fun _ => True.intro, fun y hy => absurd rfl hy⟩

theorem attr_of {prog : Program} {w : World} {env : Env} {e : Expr} {f : Str} {pos : Pos} {s : Shared} {Q : Value → Shared → Prop} (hb : attributeBase e f env (eval e env) = eval e env)
    (h : wpAny (model prog w) A (eval e env) (fun o s₁ => wpAny (model prog w) A (getAttr o f true) Q E s₁) E s) : wpAny (model prog w) A (eval (.Attribute e f pos) env) Q E s :=
  Attribute_any_ h (by rw [arm_eval_Attribute, hb])
end

def tFld (K : PySem.W.Frag) (ta : TE) (f : Str) : TE := fun σ H Q => ta σ H fun x H1 => ∃ a C dx fs v, x = .ref a ∧ H1 a = some (.ins C dx fs) ∧ Cls K C ∧ NoAttr K C f ∧ fs.lookup f = some v ∧ Q v H1
def sFld (K : PySem.W.Frag) (ta tv : TE) (f : Str) : TS := fun D σ H => tv σ H fun y H1 => ta σ H1 fun x H2 => ∃ a C dx fs, x = .ref a ∧ H2 a = some (.ins C dx fs) ∧ Cls K C ∧ NoAttr K C f ∧ fs.length < 1000 ∧
  D.nx σ (upd H2 a (.ins C dx (putF f y fs)))
section
variable {X : Cx} {o e value : Expr} {f : Str} {pos pos' tpos : Pos} {ta tv : TE}
theorem pe_fld (he : PE X e ta) (hb : attributeBase e f X.env (eval e X.env) = eval e X.env) : PE X (.Attribute e f pos) (tFld X.K ta f) := by
  intro pins s σ H Q I h
  refine attr_of hb (thn (he pins s σ H _ I h) fun u s1 ⟨x, H1, I1, rx, a, C, dx, fs, v, ex, ea, c, n, l, q⟩ => ?_)
  subst ex
  obtain rfl : u = Value.ref a := rx
  exact getattr_ok I1 ea c n l fun u' s2 I2 ru => ⟨v, H1, I2, ru, q⟩
theorem ps_fld (ha : PE X o ta) (hv : PE X value tv) (hs : swapsWith value (some (.Attribute o f pos')) pos.line X.env = pure false) : PS X (.Assign [.Attribute o f pos'] value pos) (sFld X.K ta tv f) := by
  intro pins s σ H D I h
  refine plainObj_wpAny_Assign_Attribute (thn (hv pins s σ H _ I h) fun u s1 ⟨y, H1, I1, ry, q⟩ => thn (ha pins s1 σ H1 _ I1 q) fun ov s2 ⟨x, H2, I2, rx, a, C, dx, fs, ex, ea, c, n, l, q2⟩ => ?_) hs
  subst ex
  obtain rfl : ov = Value.ref a := rx
  exact setattr_ok I2 ea c n l ry fun s3 I3 => ⟨σ, _, I3, q2⟩
end

section
variable {X : Cx} {pins : List (Addr × Obj)} {σ : St} {H : Hp} {s : Shared} {A : Around} {E : Value → Shared → Prop} {Q : Value → Shared → Prop} {c : Value} {b : Bool}
inductive TyOf (K : PySem.W.Frag) (H : Hp) : V → Value → Prop where
  | non : TyOf K H .non (.type "NoneType")
  | bl (x : Bool) : TyOf K H (.bl x) (.type "bool")
  | int (i : Int) : TyOf K H (.int i) (.type "int")
  | str (x : Str) : TyOf K H (.str x) (.type "str")
  | flt (x : UInt64) : TyOf K H (.flt x) (.type "float")
  | lst {a : Addr} {xs : List V} (e : H a = some (.lst xs)) : TyOf K H (.ref a) (.type "list")
  | frz {a : Addr} {o : Obj} {xs : List V} (e : H a = some (.frz o (.lst xs))) : TyOf K H (.ref a) (.type "list")
  | tup {a : Addr} {xs : List V} (e : H a = some (.tup xs)) : TyOf K H (.ref a) (.type "tuple")
  | dK {a : Addr} {kvs : List (Key × V)} (e : H a = some (.dK kvs)) : TyOf K H (.ref a) (.type "dict")
  | dT {a : Addr} {kvs : List (List Key × V)} (e : H a = some (.dT kvs)) : TyOf K H (.ref a) (.type "dict")
  | ins {a C dx : Addr} {fs : List (Str × V)} (e : H a = some (.ins C dx fs)) (cl : Cls K C) (ha : PySem.W.findIn K (.ref C) "__class__" = some (some (.builtin "object.__class__")))
      (hn : PySem.W.specialIn K (.builtin "object.__class__") "__get__" = some (some (.builtin "getset_descriptor.__get__"))) (htk : PySem.W.takesIn K (.builtin "object.__class__") = some true)
      (hm : PySem.W.mroIn K C (.type "object") = some true) : TyOf K H (.ref a) (.ref C)
theorem isinst_ok {x : V} {u t : Value} (I : Inv X pins σ H s) (rx : RelV x u) (ty : TyOf X.K H x t) (e : PySem.W.kitOne X.K t c = some b) (h : ∀ tk, Q (.bool b) { s with toks := tk }) :
    wpAny (model X.prog X.w) A (call (.builtin "isinstance") [u, c]) Q E s := by
  cases ty with
  | non => cases (show u = Value.none from rx); exact PySem.W.kia_one PySem.W.kitx_none I.kIn True.intro e (fun z => nomatch z) h
  | bl y => cases (show u = Value.bool y from rx); exact PySem.W.kia_one PySem.W.kitx_bool I.kIn True.intro e (fun z => nomatch z) h
  | int i => obtain ⟨t, q⟩ := (show ∃ t, u = Value.int i t from rx); cases q; exact PySem.W.kia_one PySem.W.kitx_int I.kIn True.intro e (fun z => nomatch z) h
  | str y => obtain ⟨t, q⟩ := (show ∃ t, u = Value.str y t from rx); cases q; exact PySem.W.kia_one PySem.W.kitx_str I.kIn True.intro e (fun z => nomatch z) h
  | flt y => obtain ⟨t, q⟩ := (show ∃ t, u = Value.float y t from rx); cases q; exact PySem.W.kia_one PySem.W.kitx_float I.kIn True.intro e (fun z => nomatch z) h
  | @lst a xs ea =>
    cases (show u = Value.ref a from rx)
    obtain ⟨_, _, n, _, h1⟩ := (show ObjOk X.prog X.w H s.heap a (.lst xs) from I.hok a _ ea)
    exact PySem.W.kia_one PySem.W.kitx_list I.kIn ⟨_, h1, rfl⟩ e (fun z => nomatch z) h
  | @frz a ob xs ea =>
    cases (show u = Value.ref a from rx)
    obtain ⟨_, _, _, n, _, h1⟩ := (show ObjOk X.prog X.w H s.heap a (.frz ob (.lst xs)) from I.hok a _ ea)
    exact PySem.W.kia_one PySem.W.kitx_list I.kIn ⟨_, h1, rfl⟩ e (fun z => nomatch z) h
  | @tup a xs ea =>
    cases (show u = Value.ref a from rx)
    obtain ⟨_, _, _, p⟩ := (show ObjOk X.prog X.w H s.heap a (.tup xs) from I.hok a _ ea)
    obtain ⟨o, h1, h2, _⟩ := p
    exact PySem.W.kia_one PySem.W.kitx_tuple I.kIn ⟨o, h1, h2⟩ e (fun z => nomatch z) h
  | @dK a kvs ea =>
    cases (show u = Value.ref a from rx)
    obtain ⟨_, _, vs, _, p⟩ := (show ObjOk X.prog X.w H s.heap a (.dK kvs) from I.hok a _ ea)
    obtain ⟨o, es, ep, h1, h2, _⟩ := p
    exact PySem.W.kia_one PySem.W.kitx_dict I.kIn ⟨o, h1, h2.1⟩ e (fun z => nomatch z) h
  | @dT a kvs ea =>
    cases (show u = Value.ref a from rx)
    obtain ⟨_, _, xs, _, o, es, ep, h1, h2, _⟩ := (show ObjOk X.prog X.w H s.heap a (.dT kvs) from I.hok a _ ea)
    exact PySem.W.kia_one PySem.W.kitx_dict I.kIn ⟨o, h1, h2.1⟩ e (fun z => nomatch z) h
  | @ins a C dx fs ea cl ha hn htk hm =>
    cases (show u = Value.ref a from rx)
    obtain ⟨mA, O, _⟩ := ins_get I.hok ea
    obtain ⟨od, J, _⟩ := O.look
    exact PySem.W.kia_one (PySem.W.kitx_own (cl.get _) cl.hd ha hn htk hm) I.kIn J e (fun z => nomatch z) h
end
end L2

namespace L2
open PySem PySem.Spec PyProof.Rows

structure Room (k : Nat) (A : Around) : Prop where
  hd : A.handled = none
  dp : A.depth + 3 * k + 5 < recursionLimit
  un : A.units + 16 * k + 200 < cLine
theorem Room.mono {j k : Nat} {A : Around} (r : Room k A) (h : j ≤ k) : Room j A := ⟨r.hd, by have := r.dp; omega, by have := r.un; omega⟩
theorem Room.deeper {k : Nat} {A : Around} (r : Room (k + 1) A) (env : Env) : Room k (A.deeper env) :=
  ⟨r.hd, by have := r.dp; show A.depth + 1 + 3 * k + 5 < _; omega, by have := r.un; show A.units + 3 + 16 * k + 200 < _; omega⟩
theorem make_depth {A : Around} {C : Addr} {us : List Value} {kw : List (Str × Value)} : (A.under (.builtin "type.__call__" ⟨.ref C :: us, kw⟩)).depth = A.depth + 1 := by
  first | rfl | simp [Around.under, Code.weight, Code.isCreation, Code.isGuard, Code.isCaller, Code.frames, Code.isFrame, guardIds]
theorem make_units {A : Around} {C : Addr} {us : List Value} {kw : List (Str × Value)} : (A.under (.builtin "type.__call__" ⟨.ref C :: us, kw⟩)).units = A.units + 1 := by
  first | rfl | simp [Around.under, Code.cUnits, Code.frames, Code.isFrame]
theorem Room.make {k : Nat} {A : Around} (r : Room (k + 1) A) (C : Addr) (us : List Value) (kw : List (Str × Value)) : Room k (A.under (.builtin "type.__call__" ⟨.ref C :: us, kw⟩)) :=
  ⟨r.hd, by have := r.dp; rw [make_depth]; omega, by have := r.un; rw [make_units]; omega⟩
theorem Room.depth {k : Nat} {A : Around} (r : Room k A) : A.depth < recursionLimit := by have := r.dp; omega
theorem Room.units {k : Nat} {A : Around} (r : Room k A) : A.units + 64 < cLine := by have := r.un; omega
def tNil : TA := fun _ H Q => Q [] H
def tCons (ta : TE) (tr : TA) : TA := fun σ H Q => ta σ H fun x H1 => tr σ H1 fun xs H2 => Q (x :: xs) H2
section
variable {X : Cx} {e : Expr} {es : List Expr} {te : TE} {t : TA} {pos : Pos}
theorem pa_nil : PA X [] tNil := fun _ _ _ _ H Q I h => Calls.spliced_nil ⟨[], H, I, .nil, h⟩
theorem pa_cons (ha : PE X e te) (hr : PA X es t) (hs : starEach (e :: es) X.env = (false, eval e X.env) :: starEach es X.env := by rfl) : PA X (e :: es) (tCons te t) := by
  intro pos pins s σ H Q I h
  rw [hs]
  show wpAny _ _ (spliced ((false, eval e X.env) :: backTo pos (starEach es X.env))) _ _ s
  refine Calls.spliced_cons (thn (ha pins s σ H _ I h) fun u s1 ⟨x, H1, I1, r1, q1⟩ => ?_)
  exact thn (hr pos pins s1 σ H1 _ I1 q1) fun us s2 ⟨xs, H2, I2, r2, q2⟩ => ⟨x :: xs, H2, I2, .cons r1 r2, q2⟩

def tTup (t : TA) : TE := fun σ H Q => t σ H fun xs H1 => xs.length ≤ sizeLine ∧ ∀ p, H1 p = none → Q (.ref p) (upd H1 p (.tup xs))
def tLst (t : TA) : TE := fun σ H Q => t σ H fun xs H1 => xs.length ≤ sizeLine ∧ ∀ p, H1 p = none → Q (.ref p) (upd H1 p (.lst xs))
theorem pe_tup {x1} (h : PA X es t) : PE X (.Tuple es x1 pos) (tTup t) := by
  intro pins s σ H Q I hq
  refine wpAny_Tuple_spliced (thn (h pos pins s σ H _ I hq) fun us s1 ⟨xs, H1, I1, r, z, q⟩ => ⟨by rw [← r.length]; exact z, ?_⟩)
  have hf : H1 s1.heap.objs.size = none := I1.hok.fresh (Nat.le_refl _)
  refine ⟨.ref s1.heap.objs.size, upd H1 s1.heap.objs.size (.tup xs), I1.laid (t' := s1.toks) (fun b u e => Heap.get?_push_of_some _ e) (Nat.le_refl _) ?_, rfl, q _ hf⟩
  exact ⟨z, us, r, ⟨_, Heap.get?_push_size _ rfl, rfl, _, rfl⟩⟩
theorem pe_lst (h : PA X es t) : PE X (.List es pos) (tLst t) := by
  intro pins s σ H Q I hq
  refine wpAny_List_spliced (thn (h pos pins s σ H _ I hq) fun us s1 ⟨xs, H1, I1, r, z, q⟩ => ⟨by rw [← r.length]; exact z, ?_⟩)
  have hf : H1 s1.heap.objs.size = none := I1.hok.fresh (Nat.le_refl _)
  refine ⟨.ref s1.heap.objs.size, upd H1 s1.heap.objs.size (.lst xs), I1.laid (t' := s1.toks) (fun b u e => Heap.get?_push_of_some _ e) (Nat.le_refl _) ?_, rfl, q _ hf⟩
  exact ⟨z, us, 0, r, Heap.get?_push_size _ rfl⟩
end

abbrev Sp := List V → Hp → VK → XK → Prop
abbrev CXT := List Env → Hp → Shared → XK → Value → Shared → Prop

structure Env0 (P : Program) (w : World) (K : PySem.W.Frag) (mg : Str → Option Value) (base : Heap) (A : Around) (outer : List Env) (s : Shared) (H : Hp) : Prop where
  frames : A.frames = some outer
  mod : Mod K mg base
  bs : ∀ b o, base.get? b = some o → s.heap.get? b = some o ∧ H b = none
  bsz : base.objs.size ≤ s.heap.objs.size
  funs : s.heap.FunFrames base outer
  frf : ∀ b ∈ frs outer, H b = none
  hok : HOk P w H s.heap
  bare : AllBare s.gens
def CE (outer : List Env) (P : Program) (w : World) (H : Hp) (s : Shared) (Q : VK) (u : Value) (s' : Shared) : Prop :=
  ∃ v H', s'.os = s.os ∧ AllBare s'.gens ∧ Un (frs outer) [] H H' s.heap s'.heap ∧ HOk P w H' s'.heap ∧ RelV v u ∧ Q v H'
def CR (CX : CXT) (outer : List Env) (P : Program) (w : World) (H : Hp) (s : Shared) (Q : VK) (E : XK) (r : Result) (s' : Shared) : Prop :=
  match r with
  | .ok (.ret u) => CE outer P w H s Q u s'
  | .ok _ => False
  | .error e => CX outer H s E e s'
structure FnOk (P : Program) (w : World) (K : PySem.W.Frag) (mg : Str → Option Value) (base : Heap) (CX : CXT) (k : Nat) (f : Addr) (fd : FuncData) (ps : List Str) (sp : Sp) : Prop where
  len : ∀ vs H Q E, sp vs H Q E → vs.length = ps.length
  run : ∀ (A : Around) (outer : List Env) (s : Shared) (H : Hp) (args : Args) (us : List Value) (vs : List V) (Q : VK) (E : XK), Room k A → Env0 P w K mg base A outer s H → BindsTo s fd args (ps.zip us) → Vals vs us → sp vs H Q E →
    codeAny (model P w) A (.call (.ref f) args) (CR CX outer P w H s Q E) s
theorem Env0.make {P : Program} {w : World} {K : PySem.W.Frag} {mg : Str → Option Value} {base : Heap} {A : Around} {outer : List Env} {s : Shared} {H : Hp} (e : Env0 P w K mg base A outer s H) (C : Addr) (us : List Value) (kw : List (Str × Value)) :
    Env0 P w K mg base (A.under (.builtin "type.__call__" ⟨.ref C :: us, kw⟩)) outer s H := ⟨by first | exact e.frames | (simpa [Around.under, Code.envs, Code.isFrame, pushEnvs] using e.frames), e.mod, e.bs, e.bsz, e.funs, e.frf, e.hok, e.bare⟩
section
variable {X : Cx} {pins : List (Addr × Obj)} {σ : St} {H : Hp} {s s' : Shared}
theorem Inv.env0 (I : Inv X pins σ H s) : Env0 X.prog X.w X.K X.mg X.base X.A X.stack s H :=
  ⟨I.ok.frames, I.ok.mod, I.bs, Nat.le_trans I.ok.bsz I.sz, I.stack, I.stkFree, I.hok, I.bare⟩
theorem Inv.after {Q : VK} {u : Value} (I : Inv X pins σ H s) (h : CE X.stack X.prog X.w H s Q u s') : EP X pins σ Q u s' := by
  obtain ⟨v, H', os, bare, un, hok, r, q⟩ := h
  obtain ⟨hh, g, d, t, os'⟩ := s'
  obtain rfl : os' = s.os := os
  exact ⟨v, H', I.call (h' := hh) (g' := g) (d' := d) (t' := t) (ch := []) un hok bare (fun b z => absurd z (by simp)), r, q⟩
end

def tCall (sp : Sp) (dvs : List V) (E : XK) (t : TA) : TE := fun σ H Q => t σ H fun vs H1 => sp (vs ++ dvs) H1 Q E
def tMeth (C : Addr) (m : Str) (sp : Sp) (dvs : List V) (E : XK) (ta : TE) (t : TA) : TE := fun σ H Q => ta σ H fun x H1 => ∃ a dx fs, x = .ref a ∧ H1 a = some (.ins C dx fs) ∧ fs.lookup m = none ∧
  t σ H1 fun vs H2 => sp (x :: (vs ++ dvs)) H2 Q E
def tMake (C : Addr) (sp : Sp) (dvs : List V) (E : XK) (t : TA) : TE := fun σ H Q => t σ H fun vs H1 => ∀ x dx, H1 x = none → H1 dx = none → dx ≠ x →
  sp (.ref x :: (vs ++ dvs)) (upd (upd H1 dx (.own x)) x (.ins C dx [])) (fun v H2 => v = .non ∧ Q (.ref x) H2) E

def Binds (K : PySem.W.Frag) (fd : FuncData) (ps : List Str) (ds : List Value) : Prop :=
  ∀ (s : Shared) (us : List Value), K.In s.heap → (us ++ ds).length = ps.length → BindsTo s fd ⟨us, []⟩ (ps.zip (us ++ ds))
theorem Binds.all {K : PySem.W.Frag} {fd : FuncData} {ps : List Str} (h : ∀ us : List Value, us.length = ps.length → bindArgs fd ⟨us, []⟩ = pure (ps.zip us)) : Binds K fd ps [] := fun s us _ hl => by
  rw [List.append_nil] at hl ⊢
  exact .of_eq (h us hl)

def Passes (CX : CXT) (X : Cx) (E : XK) : Prop := ∀ (pins : List (Addr × Obj)) (σ : St) (H : Hp) (s : Shared) (e : Value) (s' : Shared), Inv X pins σ H s → CX X.stack H s E e s' → X.xe e s'

section
variable {X : Cx} {CX : CXT} {k : Nat} {f C : Addr} {fd : FuncData} {ps : List Str} {sp : Sp} {dvs : List V} {ds : List Value} {E : XK} {x m : Str} {p pos apos : Pos} {e o : Expr} {es : List Expr} {ta : TE} {t : TA}

theorem run_fn {pins : List (Addr × Obj)} {σ : St} {H : Hp} {s : Shared} {Q : VK} {us : List Value} {vs : List V} (F : FnOk X.prog X.w X.K X.mg X.base CX k f fd ps sp) (hr : Room k X.A) (hb : Binds X.K fd ps ds) (hd : Vals dvs ds) (hx : Passes CX X E)
    (I : Inv X pins σ H s) (r : Vals vs us) (h : sp (vs ++ dvs) H Q E) : wpAny (model X.prog X.w) X.A (call (.ref f) us) (EP X pins σ Q) X.xe s := by
  have r2 : Vals (vs ++ dvs) (us ++ ds) := r.append hd
  have hl : (us ++ ds).length = ps.length := by rw [← r2.length]; exact F.len _ _ _ _ h
  refine wpAny_call (codeAny_mono (F.run X.A X.stack s H ⟨us, []⟩ (us ++ ds) (vs ++ dvs) Q E hr I.env0 (hb s us I.kIn hl) r2 h) fun r s' hq => ?_)
  cases r with
  | error e => exact hx pins σ H s e s' I hq
  | ok fl =>
    cases fl with
    | ret u => exact I.after hq
    | next => exact False.elim hq
    | brk => exact False.elim hq
    | cont => exact False.elim hq

theorem pe_call (F : FnOk X.prog X.w X.K X.mg X.base CX k f fd ps sp) (hr : Room k X.A) (hg : Gl X x) (hm : X.mg x = some (.ref f)) (hk : PySem.W.keepIn X.K (.ref f) = true) (hb : Binds X.K fd ps ds) (hd : Vals dvs ds) (hx : Passes CX X E)
    (ha : PA X (e :: es) t) (hdb : (x == ("__debug__" : Str)) = false := by decide) (he : starEach (e :: es) X.env = (false, eval e X.env) :: starEach es X.env := by rfl) (hpl : (backTo pos (starEach es X.env)).any (·.1) = false := by rfl) :
    PE X (.Call (.Name x p) (e :: es) [] pos) (tCall sp dvs E t) := by
  intro pins s σ H Q I h
  refine wpAny_Call_Name_kw (ld_glob I hg hm ?_ hdb)
  refine PySem.W.callWith_K (h₀ := X.base) I.ok.mod.kin hk (thn (ha pos pins s σ H _ I h) fun us s1 ⟨vs, H1, I1, r, q⟩ => ⟨I1.kIn, ?_⟩) he hpl
  exact run_fn F hr hb hd hx I1 r q
theorem pe_meth {pl : Sem Bool} (he : PE X o ta) (c : Cls X.K C) (hm : Meth X.K C m f) (F : FnOk X.prog X.w X.K X.mg X.base CX k f fd ps sp) (hr : Room k X.A) (hb : Binds X.K fd ps ds) (hd : Vals dvs ds) (hx : Passes CX X E) (ha : PA X (e :: es) t)
    (hst : starEach (e :: es) X.env = (false, eval e X.env) :: starEach es X.env := by rfl) (hpl : (backTo pos (starEach es X.env)).any (·.1) = false := by rfl)
    (ht : eval (.Call (.Attribute o m apos) (e :: es) [] pos) X.env = (do
      let ov ← eval o X.env
      standAt apos.atName
      let (f, first) ← holding [ov] (getMethod ov m pl)
      callWith pos f first (backTo pos (starEach (e :: es) X.env)) (backToKw pos (keywordEach [] X.env))) := by rfl) :
    PE X (.Call (.Attribute o m apos) (e :: es) [] pos) (tMeth C m sp dvs E ta t) := by
  intro pins s σ H Q I h
  refine PySem.W.methodCall_KW (pl := pl) (thn (he pins s σ H _ I h) fun u s1 ⟨x, H1, I1, rx, a, dx, fs, ex, ea, l, q⟩ => ?_) ht
  subst ex
  obtain rfl : u = Value.ref a := rx
  refine getmeth_ok I1 ea c hm l ?_
  refine PySem.W.callWith_K (first := [.ref a]) (h₀ := X.base) I.ok.mod.kin hm.kp (thn (ha pos pins s1 σ H1 _ I1 q) fun us s2 ⟨vs, H2, I2, r, q2⟩ => ⟨I2.kIn, ?_⟩) hst hpl
  exact run_fn (us := .ref a :: us) (vs := .ref a :: vs) F hr hb hd hx I2 (.cons rfl r) q2
theorem pe_meth0 {pl : Sem Bool} (he : PE X o ta) (c : Cls X.K C) (hm : Meth X.K C m f) (F : FnOk X.prog X.w X.K X.mg X.base CX k f fd ps sp) (hr : Room k X.A) (hb : Binds X.K fd ps ds) (hd : Vals dvs ds) (hx : Passes CX X E)
    (ht : eval (.Call (.Attribute o m apos) [] [] pos) X.env = (do
      let ov ← eval o X.env
      standAt apos.atName
      let (f, first) ← holding [ov] (getMethod ov m pl)
      callWith pos f first (backTo pos (starEach [] X.env)) (backToKw pos (keywordEach [] X.env))) := by rfl) :
    PE X (.Call (.Attribute o m apos) [] [] pos) (tMeth C m sp dvs E ta tNil) := by
  intro pins s σ H Q I h
  refine PySem.W.methodCall_KW (pl := pl) (thn (he pins s σ H _ I h) fun u s1 ⟨x, H1, I1, rx, a, dx, fs, ex, ea, l, q⟩ => ?_) ht
  subst ex
  obtain rfl : u = Value.ref a := rx
  refine getmeth_ok I1 ea c hm l ?_
  exact PySem.W.callWith_K0 (first := [.ref a]) I1.kIn hm.kp (run_fn (us := [.ref a]) (vs := [.ref a]) F hr hb hd hx I1 (.cons rfl .nil) q)

structure Mk (K : PySem.W.Frag) (C f : Addr) : Prop where
  makes : PySem.W.makesIn K C = true
  init : PySem.W.findIn K (.ref C) "__init__" = some (some (.ref f))
  fn : PySem.W.isFn K (.ref f) = true
  kp : PySem.W.keepIn K (.ref C) = true

theorem run_make {pins : List (Addr × Obj)} {σ : St} {H : Hp} {s : Shared} {Q : VK} {us : List Value} {vs : List V} (M : Mk X.K C f) (F : FnOk X.prog X.w X.K X.mg X.base CX k f fd ps sp) (hr : Room (k + 1) X.A) (hb : Binds X.K fd ps ds) (hd : Vals dvs ds)
    (hx : Passes CX X E) (I : Inv X pins σ H s) (r : Vals vs us)
    (h : ∀ x dx, H x = none → H dx = none → dx ≠ x → sp (.ref x :: (vs ++ dvs)) (upd (upd H dx (.own x)) x (.ins C dx [])) (fun v H2 => v = .non ∧ Q (.ref x) H2) E) :
    wpAny (model X.prog X.w) X.A (call (.ref C) us) (EP X pins σ Q) X.xe s := by
  have hq := h (s.heap.objs.size + 1) s.heap.objs.size (I.hok.fresh (Nat.le_succ _)) (I.hok.fresh (Nat.le_refl _)) (Nat.ne_of_lt (Nat.lt_succ_self _))
  have I2 := Inv.made (C := C) I
  have r2 : Vals (V.ref (s.heap.objs.size + 1) :: (vs ++ dvs)) (Value.ref (s.heap.objs.size + 1) :: (us ++ ds)) := .cons rfl (r.append hd)
  have hl : (Value.ref (s.heap.objs.size + 1) :: us ++ ds).length = ps.length := by
    have e := r2.length
    rw [F.len _ _ _ _ hq] at e
    exact e.symm
  refine wpAny_call (make_map (f := f) I.kIn M.makes M.init (beq_iff_eq.mp M.fn) (codeAny_mono (F.run _ X.stack _ _ ⟨Value.ref (s.heap.objs.size + 1) :: us, []⟩ (Value.ref (s.heap.objs.size + 1) :: (us ++ ds)) _ _ E (hr.make C us [])
    (I2.env0.make C us []) (hb _ (Value.ref (s.heap.objs.size + 1) :: us) I2.kIn hl) r2 hq) fun r s' hq' => ?_))
  cases r with
  | error e => exact hx pins σ _ _ e s' I2 hq'
  | ok fl =>
    cases fl with
    | ret u =>
      obtain ⟨v, H', I3, rv, ev, q3⟩ := I2.after hq'
      subst ev
      exact ⟨rv, ⟨V.ref (s.heap.objs.size + 1), H', I3, rfl, q3⟩⟩
    | next => exact False.elim hq'
    | brk => exact False.elim hq'
    | cont => exact False.elim hq'
theorem pe_make (M : Mk X.K C f) (F : FnOk X.prog X.w X.K X.mg X.base CX k f fd ps sp) (hr : Room (k + 1) X.A) (hg : Gl X x) (hm : X.mg x = some (.ref C)) (hb : Binds X.K fd ps ds) (hd : Vals dvs ds) (hx : Passes CX X E)
    (ha : PA X (e :: es) t) (hdb : (x == ("__debug__" : Str)) = false := by decide) (he : starEach (e :: es) X.env = (false, eval e X.env) :: starEach es X.env := by rfl) (hpl : (backTo pos (starEach es X.env)).any (·.1) = false := by rfl) :
    PE X (.Call (.Name x p) (e :: es) [] pos) (tMake C sp dvs E t) := by
  intro pins s σ H Q I h
  refine wpAny_Call_Name_kw (ld_glob I hg hm ?_ hdb)
  refine PySem.W.callWith_K (h₀ := X.base) I.ok.mod.kin M.kp (thn (ha pos pins s σ H _ I h) fun us s1 ⟨vs, H1, I1, r, q⟩ => ⟨I1.kIn, ?_⟩) he hpl
  exact run_make M F hr hb hd hx I1 r q
end

section
variable {X : Cx} {CX : CXT} {k : Nat} {f C : Addr} {fd : FuncData} {ps ks : List Str} {sp : Sp} {E : XK} {x m : Str} {p pos apos kpos : Pos} {e o : Expr} {es : List Expr} {kws : List Keyword} {te ta : TE} {t tk : TA} {nm : Option Str}
structure KBinds (K : PySem.W.Frag) (fd : FuncData) (ps ks : List Str) (g : List Value → List Value → List Value) (gV : List V → List V → List V) : Prop where
  to : ∀ (s : Shared) (us ws : List Value), K.In s.heap → (g us ws).length = ps.length → BindsTo s fd ⟨us, ks.zip ws⟩ (ps.zip (g us ws))
  rel : ∀ {vs : List V} {us : List Value} {zs : List V} {ws : List Value}, Vals vs us → Vals zs ws → Vals (gV vs zs) (g us ws)
variable {g : List Value → List Value → List Value} {gV : List V → List V → List V}
end

structure FnScope (N P : List Str) (sc : Scope) : Prop where
  kind : sc.kind = .function
  co : sc.isCoroutine = false
  gen : sc.isGenerator = false
  nd : N.Nodup
  pre : N.take P.length = P
  par : ∀ x ∈ P, sc.names.lookup x = some .local ∨ sc.names.lookup x = some .cell
  nofree : ∀ y ∈ sc.names, y.2 ≠ .free

theorem bindL_out {kindOf : Str → Option NameKind} {x : Str} : ∀ {binds : List (Str × Value)} {m : Str → Option Value}, (∀ v, (x, v) ∉ binds) → bindL kindOf binds m x = m x
  | [], _, _ => rfl
  | (n, v) :: r, m, h => by
    unfold bindL
    rw [bindL_out fun w hw => h w (List.mem_cons_of_mem _ hw)]
    split
    · have : x ≠ n := by rintro rfl; exact h v List.mem_cons_self
      simp [this]
    · rfl
theorem bindC_out {kindOf : Str → Option NameKind} {x : Str} : ∀ {binds : List (Str × Value)} {m : Str → Option Value}, (∀ v, (x, v) ∉ binds) → bindC kindOf binds m x = m x
  | [], _, _ => rfl
  | (n, v) :: r, m, h => by
    unfold bindC
    rw [bindC_out fun w hw => h w (List.mem_cons_of_mem _ hw)]
    split
    · rfl
    · have : x ≠ n := by rintro rfl; exact h v List.mem_cons_self
      simp [this]
theorem bindL_get {kindOf : Str → Option NameKind} {x : Str} {v : Value} : ∀ {P : List Str} {vs : List Value} {i : Nat} {m : Str → Option Value}, P.Nodup → P[i]? = some x → vs[i]? = some v → kindOf x = some .local →
    bindL kindOf (P.zip vs) m x = some v
  | [], _, _, _, _, h, _, _ => by simp at h
  | _ :: _, [], _, _, _, _, h, _ => by simp at h
  | p :: P, w :: vs, 0, m, nd, h1, h2, hk => by
    simp at h1 h2; subst h1; subst h2
    show bindL kindOf ((p, w) :: P.zip vs) m p = _
    unfold bindL
    rw [bindL_out fun v hv => (List.nodup_cons.mp nd).1 (List.of_mem_zip hv).1, if_pos hk]
    simp
  | p :: P, w :: vs, i + 1, m, nd, h1, h2, hk => by
    show bindL kindOf ((p, w) :: P.zip vs) m x = _
    unfold bindL
    exact bindL_get (i := i) (List.nodup_cons.mp nd).2 (by simpa using h1) (by simpa using h2) hk
theorem bindC_get {kindOf : Str → Option NameKind} {x : Str} {v : Value} : ∀ {P : List Str} {vs : List Value} {i : Nat} {m : Str → Option Value}, P.Nodup → P[i]? = some x → vs[i]? = some v → kindOf x ≠ some .local →
    bindC kindOf (P.zip vs) m x = some v
  | [], _, _, _, _, h, _, _ => by simp at h
  | _ :: _, [], _, _, _, _, h, _ => by simp at h
  | p :: P, w :: vs, 0, m, nd, h1, h2, hk => by
    simp at h1 h2; subst h1; subst h2
    show bindC kindOf ((p, w) :: P.zip vs) m p = _
    unfold bindC
    rw [bindC_out fun v hv => (List.nodup_cons.mp nd).1 (List.of_mem_zip hv).1, if_neg hk]
    simp
  | p :: P, w :: vs, i + 1, m, nd, h1, h2, hk => by
    show bindC kindOf ((p, w) :: P.zip vs) m x = _
    unfold bindC
    exact bindC_get (i := i) (List.nodup_cons.mp nd).2 (by simpa using h1) (by simpa using h2) hk

def start (N : List Str) (vs : List V) : St := vs.map some ++ List.replicate (N.length - vs.length) none

def cxOf (CX : CXT) (P : Program) (w : World) (K : PySem.W.Frag) (mg : Str → Option Value) (base : Heap) (N : List Str) (qual : Str) (scope : Scope) (f : Addr) (cd : Value) (A : Around) (outer : List Env) (s : Shared) (H : Hp) (E : XK) : Cx where
  prog := P
  w := w
  K := K
  mg := mg
  base := base
  A := A.deeper (envOfC qual scope s.heap.objs.size f cd)
  N := N
  s₀ := s
  H₀ := H
  env := envOfC qual scope s.heap.objs.size f cd
  outer := outer
  stack := envOfC qual scope s.heap.objs.size f cd :: outer
  ex := []
  calm := true
  fn := fun _ => true
  pn := []
  xe := fun e s' => wpAny (model P w) (A.deeper (envOfC qual scope s.heap.objs.size f cd)) (leaving (envOfC qual scope s.heap.objs.size f cd) e) (fun _ s'' => CX outer H s E e s'') (fun e' s'' => CX outer H s E e' s'') s'

theorem cell_has {sc : Scope} {n : Nat} {x : Str} (h : sc.names.lookup x = some .cell) : ∃ c, (cellsFrom n sc.names []).lookup x = some c := by
  have q := PySem.W.cellsFrom_some sc.names n [] (.inl h)
  exact Option.isSome_iff_exists.mp q

theorem inv_start {CX : CXT} {P : Program} {w : World} {K : PySem.W.Frag} {mg : Str → Option Value} {base : Heap} {N ps : List Str} {qual : Str} {scope : Scope} {f : Addr} {cd : Value} {A : Around} {outer : List Env} {s s1 : Shared} {H : Hp} {E : XK} {us : List Value} {vs : List V}
    (S : FnScope N ps scope) (hd : A.handled = none) (e0 : Env0 P w K mg base A outer s H) (hl : vs.length = ps.length) (r : Vals vs us)
    (x : InCallC s s.heap.objs.size (bindL (envOfC qual scope s.heap.objs.size f cd).kindOf (ps.zip us) fun _ => none) (cellsFrom (s.heap.objs.size + 1) scope.names []) (bindC (envOfC qual scope s.heap.objs.size f cd).kindOf (ps.zip us) fun _ => none) s1) :
    Inv (cxOf CX P w K mg base N qual scope f cd A outer s H E) [] (start N vs) H s1 := by
  have hpl : ps.length ≤ N.length := by have := congrArg List.length S.pre; rw [List.length_take] at this; omega
  obtain ⟨h1, tk, rfl, hk⟩ := x.done
  have noA : ∀ b : Addr, b ∉ (cxOf CX P w K mg base N qual scope f cd A outer s H E).ex := fun b z => absurd (show b ∈ ([] : List Addr) from z) (by simp)
  refine ⟨⟨e0.mod, S.kind, rfl, rfl, Nat.le_refl _, fun y z c h1 h2 => ?_, fun y hy => ?_, fun y c _ h => ?_, fun _ => hd, Around.frames_deeper e0.frames, .inr ⟨rfl, rfl⟩, fun b z => absurd z (noA b), e0.bs, e0.bsz, fun b _ _ => noA b, fun b z => absurd z (noA b), e0.funs, e0.frf⟩,
    rfl, e0.bare, Un.kept hk, ⟨_, x.toInCall.ns, fun i y v h1 h2 h3 => ?_⟩, fun y c h => ⟨_, x.cell y c h⟩, e0.hok.fresh (Nat.le_refl _), fun y c h => ?_, fun p hp => absurd (show p ∈ ([] : List (Addr × Obj)) from hp) (by simp), e0.hok.kept hk, ?_⟩
  · exact name_of_addr x.apart (PySem.mem_of_lookup h1) (PySem.mem_of_lookup h2)
  · have hy : scope.names.lookup y = some .cell ∨ scope.names.lookup y = some .free := hy
    rcases hy with hy | hy
    · exact cell_has hy
    · exact absurd rfl (S.nofree _ (PySem.mem_of_lookup hy))
  · exact Nat.le_of_lt (x.above y c (PySem.mem_of_lookup h))
  · have hi : i < vs.length := by
      unfold start at h2
      by_cases hi : i < vs.length
      · exact hi
      · rw [List.getElem?_append_right (by simpa using hi)] at h2
        rw [List.getElem?_replicate] at h2
        split at h2 <;> cases h2
    have ha : vs[i]? = some v := by
      unfold start at h2
      rw [List.getElem?_append_left (by simpa using hi), List.getElem?_map] at h2
      cases e : vs[i]? with
      | none => rw [e] at h2; cases h2
      | some a => rw [e] at h2; cases h2; rfl
    obtain ⟨u, hu, rv⟩ := r.get ha
    have hp : ps[i]? = some y := by
      rw [← S.pre, List.getElem?_take_of_lt (by omega)]; exact h1
    have ndP : ps.Nodup := by rw [← S.pre]; exact S.nd.sublist (List.take_sublist _ _)
    refine ⟨u, rv, ?_⟩
    rcases S.par y (List.mem_of_getElem? hp) with k | k
    · exact .inl ⟨k, bindL_get ndP hp hu k⟩
    · obtain ⟨c, e⟩ := cell_has (n := s.heap.objs.size + 1) k
      refine .inr ⟨.inl k, c, e, ?_⟩
      have q := x.cell y c e
      rw [bindC_get ndP hp hu (by show scope.names.lookup y ≠ _; rw [k]; decide)] at q
      exact q
  · exact e0.hok.fresh (Nat.le_of_lt (x.above y c (PySem.mem_of_lookup h)))
  · unfold start
    show _ = N.length
    rw [List.length_append, List.length_map, List.length_replicate]
    omega

theorem fn_of {CX : CXT} {P : Program} {w : World} {K : PySem.W.Frag} {mg : Str → Option Value} {base : Heap} {k : Nat} {f : Addr} {name qual : Str} {params : Arguments} {body : List Stmt} {scope : Scope} {dV kV doc pm cdv ct oc : Value} {an od : Option Addr}
    {osl : Array (Option Value)} {N ps : List Str} {sp : Sp} (lk : K.lookup f = some ⟨oc, od, .func (PySem.W.fnOf name qual params body scope dV kV doc pm an cdv ct), osl⟩) (hcd : PySem.W.codeIn K cdv qual = true) (S : FnScope N ps scope)
    (len : ∀ vs H Q E, sp vs H Q E → vs.length = ps.length)
    (hbody : ∀ (A : Around) (outer : List Env) (s : Shared) (H : Hp) (vs : List V) (Q : VK) (E : XK), Room k (A.deeper (envOfC qual scope s.heap.objs.size f cdv)) → sp vs H Q E →
      ∃ t, PSs (cxOf CX P w K mg base N qual scope f cdv A outer s H E) body t ∧ t { nx := fun _ H' => Q .non H', rt := Q } (start N vs) H) :
    FnOk P w K mg base CX (k + 1) f (PySem.W.fnOf name qual params body scope dV kV doc pm an cdv ct) ps sp := by
  refine ⟨len, fun A outer s H args us vs Q E hr e0 hb r hsp => ?_⟩
  have hl := len _ _ _ _ hsp
  have KX : K.In s.heap := e0.mod.kin.keeps fun b o e => (e0.bs b o e).1
  have lim : s.heap.NoLimit := e0.mod.nolimit.keeps fun b o e => (e0.bs b o e).1
  have hkind : ∀ y ∈ ps.zip us, scope.names.lookup y.1 = some .local ∨ (scope.names.lookup y.1 = some .cell ∧ ((cellsFrom (s.heap.objs.size + 1) scope.names []).lookup y.1).isSome = true) := fun ⟨n, v⟩ hy => by
    rcases S.par n (List.of_mem_zip hy).1 with q | q
    · exact .inl q
    · exact .inr ⟨q, PySem.W.cellsFrom_some _ _ _ (.inl q)⟩
  refine codeAny_call_function hr.depth (KX _ _ lk) rfl S.co S.gen rfl (PySem.W.codeRec_of KX hcd) (hb _ _ _ _ ?_)
  refine wpAny_newFunctionEnv_cells S.kind hkind fun env he s1 x => ?_
  subst he
  refine ⟨lim.keeps x.toInCall.keep, codeAny_func ?_⟩
  obtain ⟨t, ht, hq⟩ := hbody A outer s H vs Q E (hr.deeper _) hsp
  have I : Inv (cxOf CX P w K mg base N qual scope f cdv A outer s H E) [] (start N vs) H s1 := inv_start S hr.hd e0 hl r x
  refine wpAny_mono (ht [] s1 (start N vs) H _ I hq) (fun fl s' hs => ?_) fun e s' hs => hs
  have fin : ∀ {σ' : St} {H' : Hp} {v : V} {u : Value}, Inv (cxOf CX P w K mg base N qual scope f cdv A outer s H E) [] σ' H' s' → RelV v u → Q v H' → CE outer P w H s Q u s' :=
    fun {σ' H' v u} J rv q => ⟨v, H', J.os, J.bare, J.base, J.hok, rv, q⟩
  cases fl with
  | ret u =>
    obtain ⟨v, σ', H', J, rv, q⟩ := hs
    exact fin J rv q
  | next =>
    obtain ⟨σ', H', J, q⟩ := hs
    exact fin (v := V.non) (u := Value.none) J rfl q
  | brk =>
    obtain ⟨_, _, _, q⟩ := hs
    exact False.elim q
  | cont =>
    obtain ⟨_, _, _, q⟩ := hs
    exact False.elim q
end L2

namespace L2
open PySem PySem.Spec PyProof.Rows
section
variable {X : Cx} {x : Str} {p pos : Pos} {e : Expr} {es : List Expr} {t : TA} {id T : String} {r : List V → Hp → VK → Prop}

def tCB (r : List V → Hp → VK → Prop) (t : TA) : TE := fun σ H Q => t σ H fun vs H1 => r vs H1 Q
theorem pe_callB (hc : CallR X (.builtin id) r) (hg : Gl X x) (hm : X.mg x = none) (hv : bootBuiltins x = some (.builtin id)) (ha : PA X (e :: es) t) (hn : x ≠ "__name__" := by decide) (hdb : (x == ("__debug__" : Str)) = false := by decide)
    (he : starEach (e :: es) X.env = (false, eval e X.env) :: starEach es X.env := by rfl) (hpl : (backTo pos (starEach es X.env)).any (·.1) = false := by rfl) : PE X (.Call (.Name x p) (e :: es) [] pos) (tCB r t) := by
  intro pins s σ H Q I h
  refine wpAny_Call_Name_kw (ld_blt I hg hm hv ?_ hn hdb)
  exact PyProof.Rows.callWith_builtin1 (thn (ha pos pins s σ H _ I h) fun us s1 ⟨vs, H1, I1, r1, q1⟩ => hc pins s1 σ H1 vs us Q I1 r1 q1) he hpl
theorem pe_callTy (hc : CallR X (.type T) r) (hg : Gl X x) (hm : X.mg x = none) (hv : bootBuiltins x = some (.type T)) (ha : PA X (e :: es) t) (hn : x ≠ "__name__" := by decide) (hdb : (x == ("__debug__" : Str)) = false := by decide)
    (he : starEach (e :: es) X.env = (false, eval e X.env) :: starEach es X.env := by rfl) (hpl : (backTo pos (starEach es X.env)).any (·.1) = false := by rfl) : PE X (.Call (.Name x p) (e :: es) [] pos) (tCB r t) := by
  intro pins s σ H Q I h
  refine wpAny_Call_Name_kw (ld_blt I hg hm hv ?_ hn hdb)
  exact PyProof.Rows.callWith_type1 (thn (ha pos pins s σ H _ I h) fun us s1 ⟨vs, H1, I1, r1, q1⟩ => hc pins s1 σ H1 vs us Q I1 r1 q1) he hpl
end
end L2

namespace HT
open PySem PyProof.Rows

def lexLt : List Int → List Int → Bool
  | [], [] => false
  | [], _ :: _ => true
  | _ :: _, [] => false
  | x :: xs, y :: ys => if x = y then lexLt xs ys else decide (x < y)
theorem lexLt_cons (x y : Int) (xs ys : List Int) : lexLt (x :: xs) (y :: ys) = if x = y then lexLt xs ys else decide (x < y) := rfl
theorem eqAt_int (A : Around) (s : Shared) (a : Int) (t : Tok) (c : Int) (u : Tok) : ∃ e, SeqAt.EqAt A s (.int a t) (.int c u) e ∧ (e = true ↔ a = c) :=
  ⟨(a == c), SeqAt.EqAt.int_int a t c u, by simp⟩
section
open PySem.SeqAt
open PySem.AutoSeq1 (wpAny_loadPart')
open PySem.MeetsSeq PySem.MeetsSeq2 PySem.MeetsSeq3

end

section
variable {prog : Program} {w : World} {A : Around} {E : Value → Shared → Prop} {s : Shared}

theorem cat_tup {t b : Addr} {vs ws : List Value} {Q : Value → Shared → Prop} (ht : IsTup s.heap t vs.toArray) (hb : IsTup s.heap b ws.toArray) (hv : vs ≠ [])
    (h1 : ws = [] → Q (.ref t) s) (h2 : ws ≠ [] → Q (.ref s.heap.objs.size) { s with heap := s.heap.push { cls := .type "tuple", data := .seq (vs ++ ws).toArray } })
    (hsz : vs.length + ws.length ≤ sizeLine) : wpAny (model prog w) A (binaryOp .Add (.ref t) (.ref b)) Q E s := by
  obtain ⟨⟨cls, dd, data, sl⟩, ho, hc, n, hd⟩ := id ht
  obtain ⟨⟨cls2, dd2, data2, sl2⟩, ho2, hc2, n2, hd2⟩ := id hb
  simp only at hc hd hc2 hd2
  subst hc hd hc2 hd2
  have e : vs.toArray ++ ws.toArray = (vs ++ ws).toArray := by simp
  by_cases hw : ws = []
  · exact concat_meets ⟨_, ho, rfl⟩ ⟨_, ho2, rfl⟩ noFill_tuple_add seq_tuple_add PySem.F.slot_tuple_add PySem.F.entry_tuple_add (PySem.F.args_tuple_add_2 _ _)
      (tuple_addW1 t b vs.toArray ws.toArray n n2 dd dd2 sl sl2 (by simpa using hv) (by simp [hw])) ⟨ho, ho2, h1 hw⟩
  · refine concat_meets ⟨_, ho, rfl⟩ ⟨_, ho2, rfl⟩ noFill_tuple_add seq_tuple_add PySem.F.slot_tuple_add PySem.F.entry_tuple_add (PySem.F.args_tuple_add_2 _ _)
      (tuple_addW2 t b vs.toArray ws.toArray n n2 dd dd2 sl sl2 (by simpa using hv) (by simpa using hw) (by rw [List.size_toArray, List.size_toArray]; exact hsz)) ⟨ho, ho2, ?_⟩
    rw [e]
    exact h2 hw

def sIx (n d : Nat) : Option Int → Nat
  | none => d
  | some v => if v < 0 then (v + (n : Int)).toNat else min v.toNat n
theorem sIx_none (n d : Nat) : sIx n d none = d := rfl
theorem sIx_nat (n d k : Nat) : sIx n d (some (k : Int)) = min k n := by
  show (if (k : Int) < 0 then ((k : Int) + (n : Int)).toNat else min (k : Int).toNat n) = min k n
  rw [if_neg (by omega), Int.toNat_natCast]
theorem sIx_le (n d : Nat) (hd : d ≤ n) (o : Option Int) : sIx n d o ≤ n := by
  cases o with
  | none => exact hd
  | some v =>
    show (if v < 0 then (v + (n : Int)).toNat else min v.toNat n) ≤ n
    by_cases hv : v < 0
    · rw [if_pos hv]; omega
    · rw [if_neg hv]; exact Nat.min_le_right _ _
theorem clip_eq (v : Int) (n d : Nat) : (if v < 0 then max (v + (n : Int)) 0 else min v (n : Int)) = ((sIx n d (some v) : Nat) : Int) := by
  show (if v < 0 then max (v + (n : Int)) 0 else min v (n : Int)) = (((if v < 0 then (v + (n : Int)).toNat else min v.toNat n) : Nat) : Int)
  by_cases hv : v < 0
  · simp only [if_pos hv]; omega
  · simp only [if_neg hv]; omega
theorem adjust_gen (lo hi : Option Int) (n : Nat) : Builtin.Slice.sliceAdjust lo hi 1 (n : Int) = (((sIx n 0 lo : Nat) : Int), ((sIx n n hi : Nat) : Int)) := by
  have h1 : ¬ ((1 : Int) < 0) := by omega
  unfold Builtin.Slice.sliceAdjust
  simp only [h1, if_false]
  refine Prod.ext ?_ ?_
  · cases lo with
    | none => rfl
    | some v => exact clip_eq v n 0
  · cases hi with
    | none => rfl
    | some v => exact clip_eq v n n
theorem places_gen (i j : Nat) : Builtin.Slice.slicePlaces (i : Int) (j : Int) 1 = j - i := by
  unfold Builtin.Slice.slicePlaces
  have h1 : (1 : Int) > 0 := by omega
  simp only [h1, if_true, Int.ediv_one]
  split <;> omega
theorem slicePart_ {v : Value} {o : Option Int} {Q : Option Int → Shared → Prop} (p : IsPart v o) (h : Q o s) : wpAny (model prog w) A (Builtin.Slice.slicePartIndex v) Q E s := by
  cases p with
  | none => exact slicePart_none h
  | int i t => exact slicePart_int h
theorem sliceApplied_gen {sl : Addr} {vl vu : Value} {lo hi : Option Int} {n : Nat} {Q : Int × Int × Nat → Shared → Prop} (hs : s.heap.IsSliceOf sl vl vu .none) (pl : IsPart vl lo) (pu : IsPart vu hi)
    (h : Q (((sIx n 0 lo : Nat) : Int), 1, sIx n n hi - sIx n 0 lo) s) : wpAny (model prog w) A (Builtin.Slice.sliceApplied (.ref sl) (pure (n : Int))) Q E s := by
  obtain ⟨os, hos, hcs, hds⟩ := id hs
  unfold Builtin.Slice.sliceApplied Builtin.Slice.sliceFields
  refine wpAny_bind (wpAny_bind (wpAny_field hos hds (x := vl) rfl (wpAny_bind (wpAny_field hos hds (x := vu) rfl (wpAny_bind (wpAny_field hos hds (x := .none) rfl (wpAny_pure ?_)))))))
  refine wpAny_bind (slicePart_none ?_)
  show wpAny _ _ (if ((1 : Int) == 0) = true then _ else _) _ _ s
  rw [if_neg (by decide)]
  refine wpAny_bind (slicePart_ pl (wpAny_bind (slicePart_ pu (wpAny_bind (wpAny_pure ?_)))))
  show wpAny _ _ (match Builtin.Slice.sliceAdjust lo hi 1 (n : Int) with | (lo, hi) => pure (lo, (1 : Int), Builtin.Slice.slicePlaces lo hi 1)) _ _ s
  rw [adjust_gen lo hi n]
  show wpAny _ _ (pure (((sIx n 0 lo : Nat) : Int), (1 : Int), Builtin.Slice.slicePlaces ((sIx n 0 lo : Nat) : Int) ((sIx n n hi : Nat) : Int) 1)) _ _ s
  rw [places_gen]
  exact wpAny_pure h
theorem pick_gen (xs : Array Value) (i k : Nat) : ((List.range k).filterMap fun (m : Nat) => xs[((i : Int) + (m : Int) * 1).toNat]?).toArray = ((xs.toList.drop i).take k).toArray := by
  have e : (fun (m : Nat) => xs[((i : Int) + (m : Int) * 1).toNat]?) = fun m => xs[i + m]? := by
    funext m
    have : ((i : Int) + (m : Int) * 1).toNat = i + m := by omega
    rw [this]
  rw [e]
  have := pick_run xs i k
  rw [List.filterMap_map] at this
  have e2 : ((fun x => xs[x]?) ∘ fun x => i + x) = fun m => xs[i + m]? := rfl
  rw [e2] at this
  rw [this]

theorem getItem_tuple_cut {t sl : Addr} {items : Array Value} {vl vu : Value} {lo hi : Option Int} {Q : Value → Shared → Prop} (ht : IsTup s.heap t items) (hs : s.heap.IsSliceOf sl vl vu .none) (pl : IsPart vl lo) (pu : IsPart vu hi)
    (hw : ¬ (sIx items.size 0 lo = 0 ∧ sIx items.size items.size hi = items.size))
    (h : Q (.ref s.heap.objs.size) { s with heap := s.heap.push { cls := .type "tuple", data := .seq ((items.toList.drop (sIx items.size 0 lo)).take (sIx items.size items.size hi - sIx items.size 0 lo)).toArray } })
    (hsz : items.size ≤ sizeLine) : wpAny (model prog w) A (getItem (.ref t) (.ref sl)) Q E s := by
  have htake : sizeOk (.seq ((items.toList.drop (sIx items.size 0 lo)).take (sIx items.size items.size hi - sIx items.size 0 lo)).toArray) := by
    show ((items.toList.drop (sIx items.size 0 lo)).take (sIx items.size items.size hi - sIx items.size 0 lo)).toArray.size ≤ sizeLine
    rw [List.size_toArray, List.length_take, List.length_drop, Array.length_toList]
    omega
  have hj : sIx items.size items.size hi ≤ items.size := sIx_le _ _ (Nat.le_refl _) hi
  obtain ⟨os, hos, hcs, hds⟩ := id hs
  have hTs : s.TypeIs (.ref sl) "slice" := ⟨os, hos, hcs⟩
  unfold getItem
  try with_reducible refine wpAny_holding ?_
  first | refine wpAny_bind (wpAny_pure ?_) | skip
  refine wpAny_bind (wpAny_sequenceKey ht.typeIs (by decide) ?_)
  refine wpAny_bind (wpAny_callSpecial?_slot (name := Str.ofString "__getitem__") ht.typeIs PyProof.Rows.slot_tuple_getitem
    (wpAny_call_entry PyProof.Rows.slot_tuple_getitem ht.typeIs entry_tuple_getitem ?_ (args_tuple_getitem _ _)))
  show wpAny _ _ (Builtin.Tuple.tupleItemsOf (.ref t) >>= _) _ _ s
  refine wpAny_bind (tupleItemsOf_ ht ?_)
  refine wpAny_bind (wpAny_typeOf hTs ?_)
  rw [if_pos (by decide)]
  refine wpAny_bind (sliceApplied_gen hs pl pu ?_)
  have hno : ¬ ((((sIx items.size 0 lo : Nat) : Int) == 0 && (1 : Int) == 1 && (sIx items.size items.size hi - sIx items.size 0 lo) == items.size) = true) := by
    intro q
    rw [Bool.and_eq_true, Bool.and_eq_true] at q
    have q1 : ((sIx items.size 0 lo : Nat) : Int) = 0 := eq_of_beq q.1.1
    have q2 : sIx items.size items.size hi - sIx items.size 0 lo = items.size := eq_of_beq q.2
    exact hw ⟨by omega, by omega⟩
  show wpAny _ _ (if (((sIx items.size 0 lo : Nat) : Int) == 0 && (1 : Int) == 1 && (sIx items.size items.size hi - sIx items.size 0 lo) == items.size) = true then _ else _) _ _ s
  rw [if_neg hno, pick_gen]
  first
    | exact wpAny_bind (m := Builtin.Tuple.tupleExact _) (wpAny_newObj_type (wpAny_pure ⟨_, rfl, wpAny_pure h⟩) htake)
    | exact wpAny_bind (m := Builtin.Tuple.tupleExact _) (wpAny_newObj_type (wpAny_bind (wpAny_pure (wpAny_pure ⟨_, rfl, wpAny_pure h⟩))) htake)
    | exact wpAny_bind (wpAny_bind (m := Builtin.Tuple.tupleExact _) (wpAny_newObj_type (wpAny_pure (wpAny_pure ⟨_, rfl, wpAny_pure h⟩)) htake))
    | exact wpAny_bind (wpAny_bind (m := Builtin.Tuple.tupleExact _) (wpAny_newObj_type (wpAny_pure ⟨_, rfl, wpAny_pure h⟩) htake))
end
end HT

namespace L2
open PySem PySem.Spec PyProof.Rows

abbrev TO := St → Hp → (Option Int → Hp → Prop) → Prop
def PO (X : Cx) (e : Option Expr) (t : TO) : Prop :=
  ∀ (pins : List (Addr × Obj)) (s : Shared) (σ : St) (H : Hp) (Q : Option Int → Hp → Prop), Inv X pins σ H s → t σ H Q →
    wpAny (model X.prog X.w) X.A (evalPart e X.env) (fun u s' => ∃ o H', Inv X pins σ H' s' ∧ IsPart u o ∧ Q o H') X.xe s
def tNoPart : TO := fun _ H Q => Q none H
def tPart (t : TE) : TO := fun σ H Q => t σ H fun x H1 => ∃ i, x = .int i ∧ Q (some i) H1

theorem intsAre_of {ns : List Int} : ∀ {us : List Value}, Vals (ns.map V.int) us → IntsAre us ns := by
  induction ns with
  | nil => intro us r; rw [List.map_nil] at r; cases r; exact .nil
  | cons n ns ih =>
    intro us r
    rw [List.map_cons] at r
    cases r with
    | cons r1 r2 =>
      obtain ⟨t, e⟩ := r1
      subst e
      exact .cons n t (ih r2)

section
variable {X : Cx} {e : Expr} {te : TE} {lo hi : Option Expr} {tl th : TO} {pos p2 : Pos}

theorem po_none : PO X none tNoPart := by
  intro pins s σ H Q I h
  rw [evalPart_none]
  exact wpAny_pure ⟨none, H, I, .none, h⟩
theorem po_some (h : PE X e te) : PO X (some e) (tPart te) := by
  intro pins s σ H Q I hw
  rw [evalPart_some]
  refine thn (h pins s σ H _ I hw) fun u s1 ⟨x, H1, I1, r1, q1⟩ => ?_
  obtain ⟨i, rfl, q⟩ := q1
  obtain ⟨t, rfl⟩ := r1
  exact ⟨some i, H1, I1, .int i t, q⟩

def SlR (X : Cx) (r : V → Option Int → Option Int → Hp → VK → Prop) : Prop :=
  ∀ (pins : List (Addr × Obj)) (s : Shared) (σ : St) (H : Hp) (x : V) (v vl vu : Value) (lo hi : Option Int) (sl : Addr) (Q : VK), Inv X pins σ H s → RelV x v → s.heap.IsSliceOf sl vl vu .none → IsPart vl lo → IsPart vu hi → r x lo hi H Q →
    ∃ T id, typeLookup (.type T) "__getitem__" = pure (some (.builtin id)) ∧ s.TypeIs v T ∧ wpAny (model X.prog X.w) X.A (getItem v (.ref sl)) (EP X pins σ Q) X.xe s
def tSl (r : V → Option Int → Option Int → Hp → VK → Prop) (te : TE) (tl th : TO) : TE := fun σ H Q => te σ H fun x H1 => tl σ H1 fun l H2 => th σ H2 fun u H3 => r x l u H3 Q
theorem pe_slice {r : V → Option Int → Option Int → Hp → VK → Prop} (hr : SlR X r) (he : PE X e te) (hl : PO X lo tl) (hu : PO X hi th) : PE X (.Subscript e (.Slice lo hi none p2) pos) (tSl r te tl th) := by
  intro pins s σ H Q I h
  refine Subscript_ (thn (he pins s σ H _ I h) fun v s1 ⟨x, H1, I1, r1, q1⟩ => ?_)
  refine wpAny_Slice (thn (hl pins s1 σ H1 _ I1 q1) fun vl s2 ⟨l, H2, I2, pl, q2⟩ => thn (hu pins s2 σ H2 _ I2 q2) fun vu s3 ⟨u, H3, I3, pu, q3⟩ => ?_)
  rw [evalPart_none]
  refine wpAny_pure ?_
  have I4 : Inv X pins σ H3 { s3 with heap := s3.heap.push { cls := .type "slice", data := .fields #[vl, vu, .none] } } := I3.kept (t' := s3.toks) fun b ob q => Heap.get?_push_of_some _ q
  obtain ⟨T, id, hT, ht, hg⟩ := hr pins { s3 with heap := s3.heap.push { cls := .type "slice", data := .fields #[vl, vu, .none] } } σ H3 x v vl vu l u s3.heap.objs.size Q I4 r1 (Heap.IsSliceOf.new ..) pl pu q3
  show wpAny (model X.prog X.w) X.A (subscriptTail e (.Slice lo hi none p2) v (.ref s3.heap.objs.size)) (EP X pins σ Q) X.xe { s3 with heap := s3.heap.push { cls := .type "slice", data := .fields #[vl, vu, .none] } }
  exact tail_any (ops := [.ref s3.heap.objs.size, v]) ht hT hg (by with_unfolding_all rfl)

def cutV (xs : List V) (lo hi : Option Int) : List V := (xs.drop (HT.sIx xs.length 0 lo)).take (HT.sIx xs.length xs.length hi - HT.sIx xs.length 0 lo)
theorem cutV_length (xs : List V) (lo hi : Option Int) : (cutV xs lo hi).length ≤ xs.length := by
  unfold cutV
  rw [List.length_take, List.length_drop]
  omega
def rSlT (K : PySem.W.Frag) : V → Option Int → Option Int → Hp → VK → Prop := fun x lo hi H Q => ∃ a xs, x = .ref a ∧ SqT K H a xs ∧
  ¬ (HT.sIx xs.length 0 lo = 0 ∧ HT.sIx xs.length xs.length hi = xs.length) ∧ ∀ p, H p = none → Q (.ref p) (upd H p (.tup (cutV xs lo hi)))
theorem sl_tup : SlR X (rSlT X.K) := by
  intro pins s σ H x v vl vu lo hi sl Q I rx hs pl pu h
  obtain ⟨a, xs, rfl, hx, hw, q⟩ := h
  cases rx
  obtain ⟨its, r, ht, hz⟩ := I.tuple hx
  have hlen : its.toArray.size = xs.length := by rw [List.size_toArray]; exact r.length.symm
  refine ⟨"tuple", _, PyProof.Rows.slot_tuple_getitem.lookup, ht.typeIs, ?_⟩
  refine HT.getItem_tuple_cut ht hs pl pu (by rw [hlen]; exact hw) ?_ (by rw [hlen]; exact hz)
  rw [hlen]
  refine ⟨.ref s.heap.objs.size, _, I.laid (t' := s.toks) (o := .tup (cutV xs lo hi)) (fun b ob q => Heap.get?_push_of_some _ q) (Nat.le_refl _) ?_, rfl, q _ (I.hok.fresh (Nat.le_refl _))⟩
  exact ⟨Nat.le_trans (cutV_length xs lo hi) hz, _, (r.drop (HT.sIx xs.length 0 lo)).take (HT.sIx xs.length xs.length hi - HT.sIx xs.length 0 lo), IsTup.new _ _⟩

def rCatT (K : PySem.W.Frag) : R2 := fun x y H Q => ∃ a b xs ys, x = .ref a ∧ y = .ref b ∧ SqT K H a xs ∧ SqT K H b ys ∧ xs ≠ [] ∧ xs.length + ys.length ≤ sizeLine ∧
  (ys = [] → Q (.ref a) H) ∧ (ys ≠ [] → ∀ p, H p = none → Q (.ref p) (upd H p (.tup (xs ++ ys))))
theorem Vals.nil_iff {xs : List V} {us : List Value} (r : Vals xs us) : us = [] ↔ xs = [] := by
  cases r with
  | nil => simp
  | cons _ _ => simp
theorem op_catT : OpR X (binaryOp .Add) (rCatT X.K) := by
  intro pins s σ H x y v u Q I rx ry h
  obtain ⟨a, b, xs, ys, rfl, rfl, ha, hb, hx, hz, q1, q2⟩ := h
  cases rx
  cases ry
  obtain ⟨its, r1, p1, _⟩ := I.tuple ha
  obtain ⟨its2, r2, p2, _⟩ := I.tuple hb
  refine HT.cat_tup p1 p2 (fun z => hx (r1.nil_iff.mp z)) (fun z => ⟨.ref a, H, I, rfl, q1 (r2.nil_iff.mp z)⟩) (fun z => ?_) (by rw [← r1.length, ← r2.length]; exact hz)
  refine ⟨.ref s.heap.objs.size, _, I.laid (t' := s.toks) (o := .tup (xs ++ ys)) (fun b ob q => Heap.get?_push_of_some _ q) (Nat.le_refl _) ?_, rfl, q2 (fun w => z (r2.nil_iff.mpr w)) _ (I.hok.fresh (Nat.le_refl _))⟩
  exact ⟨by rw [List.length_append]; exact hz, _, r1.append r2, IsTup.new _ _⟩
end
end L2

namespace L2
open PySem PySem.Spec PyProof.Rows

def ixN (n : Nat) (i : Int) : Option Nat := if 0 ≤ i then (if i < n then some i.toNat else none) else if -(n : Int) ≤ i then some (i + n).toNat else none
def atI {α : Type} (xs : List α) (i : Int) : Option α := (ixN xs.length i).bind fun j => xs[j]?
theorem ixN_seq {n : Nat} {i : Int} {j : Nat} (h : ixN n i = some j) : seqIndex? i n = some j ∧ j < n ∧ -(n : Int) ≤ i ∧ i < n := by
  unfold ixN at h
  by_cases h0 : 0 ≤ i
  · rw [if_pos h0] at h
    by_cases h1 : i < n
    · rw [if_pos h1] at h
      have e : i.toNat = j := Option.some.inj h
      exact ⟨by rw [seqIndex_of h0 h1, e], by omega, by omega, h1⟩
    · rw [if_neg h1] at h; cases h
  · rw [if_neg h0] at h
    by_cases h1 : -(n : Int) ≤ i
    · rw [if_pos h1] at h
      have e : (i + n).toNat = j := Option.some.inj h
      exact ⟨by rw [seqIndex_neg (by omega) h1, e], by omega, h1, by omega⟩
    · rw [if_neg h1] at h; cases h
theorem atI_get {α : Type} {xs : List α} {i : Int} {v : α} (h : atI xs i = some v) : ∃ j, seqIndex? i xs.length = some j ∧ xs[j]? = some v ∧ j < xs.length ∧ -(xs.length : Int) ≤ i ∧ i < xs.length := by
  unfold atI at h
  cases e : ixN xs.length i with
  | none => rw [e] at h; cases h
  | some j =>
    rw [e] at h
    obtain ⟨h1, h2, h3, h4⟩ := ixN_seq e
    exact ⟨j, h1, h, h2, h3, h4⟩
theorem atI_nat {α : Type} {xs : List α} {j : Nat} {v : α} (h : xs[j]? = some v) : atI xs (j : Int) = some v := by
  have hj : j < xs.length := (List.getElem?_eq_some_iff.mp h).1
  have e : ixN xs.length (j : Int) = some j := by
    unfold ixN
    rw [if_pos (by omega), if_pos (by omega)]; simp
  unfold atI; rw [e]; exact h
theorem atI_last {α : Type} (xs : List α) (v : α) : atI (xs ++ [v]) (-1) = some v := by
  have hl : (xs ++ [v]).length = xs.length + 1 := by simp
  have e : ixN (xs ++ [v]).length (-1) = some xs.length := by
    unfold ixN
    rw [hl, if_neg (by decide), if_pos (by omega)]
    congr 1
    omega
  unfold atI
  rw [e]
  show (xs ++ [v])[xs.length]? = some v
  simp

def PlainIx (b : Expr) : Prop := ∀ o i, subscripted b false o i = operate [o, i] (getItem o i)
def IxR (X : Cx) (r : R2) : Prop :=
  ∀ (value slice : Expr) (pins : List (Addr × Obj)) (s : Shared) (σ : St) (H : Hp) (x y : V) (v u : Value) (Q : VK), Inv X pins σ H s → RelV x v → RelV y u → r x y H Q →
    subscripted slice false v u = operate [v, u] (getItem v u) → wpAny (model X.prog X.w) X.A (subscriptTail value slice v u) (EP X pins σ Q) X.xe s
def MtR (X : Cx) (id : String) (r : V → List V → Hp → VK → Prop) : Prop :=
  ∀ (pins : List (Addr × Obj)) (s : Shared) (σ : St) (H : Hp) (x : V) (xs : List V) (v : Value) (us : List Value) (Q : VK), Inv X pins σ H s → RelV x v → Vals xs us → r x xs H Q →
    wpAny (model X.prog X.w) X.A (call (.builtin id) (v :: us)) (EP X pins σ Q) X.xe s
section
variable {X : Cx} {a b : Expr} {ta tb : TE} {pos : Pos}
theorem pe_ix {r : R2} (hr : IxR X r) (ha : PE X a ta) (hb : PE X b tb) (hs : PlainIx b) : PE X (.Subscript a b pos) (tOp r ta tb) := by
  intro pins s σ H Q I h
  exact Subscript_ (binT ha hb I h fun v u s2 x y H2 I2 rx ry q => hr a b pins s2 σ H2 x y v u Q I2 rx ry q (hs _ _))

def rIxL (K : PySem.W.Frag) : R2 := fun x y H Q => ∃ p xs i v, x = .ref p ∧ y = .int i ∧ SqL K H p xs ∧ atI xs i = some v ∧ Q v H
def rIxT (K : PySem.W.Frag) : R2 := fun x y H Q => ∃ p xs i v, x = .ref p ∧ y = .int i ∧ SqT K H p xs ∧ atI xs i = some v ∧ Q v H
theorem ix_list : IxR X (rIxL X.K) := by
  intro value slice pins s σ H x y v u Q I rx ry h hs
  obtain ⟨p, xs, i, z, rfl, rfl, hq, he, q⟩ := h
  cases rx
  obtain ⟨t, rfl⟩ := ry
  obtain ⟨its, r, pl, hz⟩ := I.list hq
  obtain ⟨j, h1, h2, h3, h4, h5⟩ := atI_get he
  obtain ⟨w, ew, rw'⟩ := r.get h2
  have hl := r.length
  have hn := line63
  have fin : EP X pins σ Q w s := ⟨z, H, I, rw', q⟩
  by_cases h0 : 0 ≤ i
  · have hj : i.toNat = j := by
      rw [seqIndex_of h0 h5] at h1
      exact Option.some.inj h1
    exact item_listR pl.isList h0 (by omega) (by rw [hj]; simpa using ew) fin hs
  · have hj : (i + (its.toArray.size : Int)).toNat = j := by
      rw [seqIndex_neg (by omega) h4] at h1
      rw [List.size_toArray, ← hl]
      exact Option.some.inj h1
    exact subscriptTail_builtinR (x := w) pl.isList.typeIs slot_list_getitem.lookup
      (wpAny_getItem_list_neg (Q := fun r s' => r = w ∧ EP X pins σ Q r s') pl.isList (by omega) (by rw [List.size_toArray] <;> omega) (by omega) (by rw [hj]; simpa using ew) ⟨rfl, fin⟩) hs
theorem ix_tup : IxR X (rIxT X.K) := by
  intro value slice pins s σ H x y v u Q I rx ry h hs
  obtain ⟨p, xs, i, z, rfl, rfl, hq, he, q⟩ := h
  cases rx
  obtain ⟨t, rfl⟩ := ry
  obtain ⟨its, r, pl, hz⟩ := I.tuple hq
  obtain ⟨j, h1, h2, h3, h4, h5⟩ := atI_get he
  obtain ⟨w, ew, rw'⟩ := r.get h2
  have hl := r.length
  have hn := line63
  have fin : EP X pins σ Q w s := ⟨z, H, I, rw', q⟩
  exact subscriptTail_builtinR (x := w) pl.typeIs slot_tuple_getitem.lookup
    (getItem_tuple (j := j) (Q := fun r s' => r = w ∧ EP X pins σ Q r s') pl (by omega) (by omega) (by rw [List.size_toArray, ← hl]; exact h1) (by simpa using ew) ⟨rfl, fin⟩) hs
theorem mapSeq_set (its : List Value) (n j : Nat) (u : Value) : Obj.mapSeq (·.setIfInBounds j u) { cls := .type "list", data := .seq its.toArray n } = { cls := .type "list", data := .seq (its.set j u).toArray n } := by
  simp [Obj.mapSeq]
theorem Inv.lst {pins : List (Addr × Obj)} {σ : St} {H : Hp} {s : Shared} {p : Addr} {xs : List V} (I : Inv X pins σ H s) (h : H p = some (.lst xs)) :
    ∃ (its : List Value) (n : Nat), Vals xs its ∧ s.heap.get? p = some { cls := .type "list", data := .seq its.toArray n } ∧ xs.length ≤ sizeLine := by
  obtain ⟨z, its, n, r, e⟩ := I.hok p _ h
  exact ⟨its, n, r, e, z⟩
theorem Inv.lstUpd {pins : List (Addr × Obj)} {σ : St} {H : Hp} {s : Shared} {p : Addr} {xs ys : List V} {its its' : List Value} {n n' : Nat} {f : Obj → Obj} (I : Inv X pins σ H s) (h : H p = some (.lst xs))
    (ho : s.heap.get? p = some { cls := .type "list", data := .seq its.toArray n }) (hf : f { cls := .type "list", data := .seq its.toArray n } = { cls := .type "list", data := .seq its'.toArray n' }) (r : Vals ys its') (hz : ys.length ≤ sizeLine) (t : Nat) :
    Inv X pins σ (upd H p (.lst ys)) { s with heap := s.heap.update p f, toks := t } := by
  have e : (s.heap.update p f).get? p = some { cls := .type "list", data := .seq its'.toArray n' } := by
    rw [Heap.get?_update_self f ho (by rw [hf] <;> rfl), hf]
  refine I.write (x := p) (e := p) (by rw [h]; trivial) (.inl rfl) (fun b u hb q => (Heap.get?_update_other _ _ (Ne.symm hb)).trans q) ⟨_, e⟩ ?_
  exact ⟨hz, its', n', r, e⟩
def rSetL : V → V → V → Hp → (Hp → Prop) → Prop := fun o i v H Q => ∃ p xs k j, o = .ref p ∧ i = .int k ∧ H p = some (.lst xs) ∧ ixN xs.length k = some j ∧ Q (upd H p (.lst (xs.set j v)))
theorem set_list : PSet X rSetL := by
  intro pins s σ H o i v ov iv u Q I ro ri rv h
  obtain ⟨p, xs, k, j, rfl, rfl, hp, hj, q⟩ := h
  cases ro
  obtain ⟨t, rfl⟩ := ri
  obtain ⟨its, n, r, ho, hz⟩ := I.lst hp
  obtain ⟨h1, h2, h3, h4⟩ := ixN_seq hj
  have hl := r.length
  have hn := line63
  have I' : Inv X pins σ (upd H p (.lst (xs.set j v))) { s with heap := s.heap.update p (Obj.mapSeq (·.setIfInBounds j u)) } :=
    I.lstUpd hp ho (mapSeq_set its n j u) (r.set rv j) (by rw [List.length_set]; exact hz) s.toks
  by_cases h0 : 0 ≤ k
  · have hk : k.toNat = j := by
      rw [seqIndex_of h0 h4] at h1
      exact Option.some.inj h1
    exact PySem.W.ki_setAt ho h0 (by omega) (by rw [List.size_toArray, ← hl]; exact h4) (by rw [hk]; exact ⟨_, I', q⟩)
  · have hk : (k + (its.toArray.size : Int)).toNat = j := by
      rw [seqIndex_neg (by omega) h3] at h1
      rw [List.size_toArray, ← hl]
      exact Option.some.inj h1
    exact PySem.W.ki_setBack ho (by omega) (by rw [List.size_toArray, ← hl]; exact h3) (by omega) (by rw [hk]; exact ⟨_, I', q⟩)

theorem slice_bounds (lo hi : Option Int) (n : Nat) : (sliceBounds lo hi none n).1 = ((HT.sIx n 0 lo : Nat) : Int) ∧ (sliceBounds lo hi none n).2.1 = ((HT.sIx n n hi : Nat) : Int) ∧ (sliceBounds lo hi none n).2.2 = 1 := by
  refine ⟨?_, ?_, rfl⟩
  · cases lo with
    | none => simp [sliceBounds, HT.sIx]
    | some i =>
      simp only [sliceBounds, HT.sIx, Option.getD_none, show (1 : Int) > 0 by decide, if_true]
      by_cases h : i < 0
      · simp only [h, if_true] <;> omega
      · simp only [h, if_false] <;> omega
  · cases hi with
    | none => simp [sliceBounds, HT.sIx]
    | some i =>
      simp only [sliceBounds, HT.sIx, Option.getD_none, show (1 : Int) > 0 by decide, if_true]
      by_cases h : i < 0
      · simp only [h, if_true] <;> omega
      · simp only [h, if_false] <;> omega
theorem slicePick_cut (its : List Value) (lo hi : Option Int) : slicePick its.toArray lo hi none = ((its.drop (HT.sIx its.length 0 lo)).take (HT.sIx its.length its.length hi - HT.sIx its.length 0 lo)).toArray := by
  obtain ⟨h1, h2, h3⟩ := slice_bounds lo hi its.toArray.size
  unfold slicePick
  rw [h1, h2, h3]
  simp only [sliceRange_one, pick_run, List.size_toArray] <;> rfl
def rSlL (K : PySem.W.Frag) : V → Option Int → Option Int → Hp → VK → Prop := fun x lo hi H Q => ∃ a xs, x = .ref a ∧ SqL K H a xs ∧ ∀ p, H p = none → Q (.ref p) (upd H p (.lst (cutV xs lo hi)))
theorem sl_list : SlR X (rSlL X.K) := by
  intro pins s σ H x v vl vu lo hi sl Q I rx hs pl pu h
  obtain ⟨a, xs, rfl, hx, q⟩ := h
  cases rx
  obtain ⟨its, r, ht, hz⟩ := I.list hx
  have hlen := r.length
  refine ⟨"list", _, slot_list_getitem.lookup, ht.isList.typeIs, ?_⟩
  refine wpAny_getItem_list_slice ht.isList hs pl pu .none (by simp) ?_ (by rw [List.size_toArray] <;> omega)
  rw [slicePick_cut, ← hlen]
  refine ⟨.ref s.heap.objs.size, _, I.laid (t' := s.toks) (o := .lst (cutV xs lo hi)) (fun b ob q => Heap.get?_push_of_some _ q) (Nat.le_refl _) ?_, rfl, q _ (I.hok.fresh (Nat.le_refl _))⟩
  exact ⟨Nat.le_trans (cutV_length xs lo hi) hz, _, 0, (r.drop (HT.sIx xs.length 0 lo)).take (HT.sIx xs.length xs.length hi - HT.sIx xs.length 0 lo), Heap.get?_push_size _ rfl⟩

def flatV : V → Bool
  | .non => true
  | .bl _ => true
  | .int _ => true
  | .str _ => true
  | _ => false
def eqV : V → V → Bool
  | .non, .non => true
  | .bl a, .bl b => a == b
  | .bl a, .int b => (if a then 1 else 0) == b
  | .int a, .bl b => a == (if b then 1 else 0)
  | .int a, .int b => a == b
  | .str a, .str b => a == b
  | _, _ => false
theorem eqAt_V {A : Around} {s : Shared} {y x : V} {u v : Value} (ry : RelV y u) (rx : RelV x v) (fy : flatV y = true) (fx : flatV x = true) : SeqAt.EqAt A s u v (eqV y x) := by
  cases y with
  | non =>
    cases ry
    cases x with
    | non => cases rx; exact SeqAt.EqAt.same _
    | bl b => cases rx; exact SeqAt.EqAt.none_bool b
    | int b => obtain ⟨t, rfl⟩ := rx; exact SeqAt.EqAt.none_int b t
    | str b => obtain ⟨t, rfl⟩ := rx; exact SeqAt.EqAt.none_str b t
    | _ => exact absurd (show false = true from fx) Bool.false_ne_true
  | bl a =>
    cases ry
    cases x with
    | non => cases rx; exact SeqAt.EqAt.bool_none a
    | bl b => cases rx; exact SeqAt.EqAt.bool_bool a b
    | int b => obtain ⟨t, rfl⟩ := rx; exact SeqAt.EqAt.bool_int a b t
    | str b => obtain ⟨t, rfl⟩ := rx; exact SeqAt.EqAt.bool_str a b t
    | _ => exact absurd (show false = true from fx) Bool.false_ne_true
  | int a =>
    obtain ⟨t', rfl⟩ := ry
    cases x with
    | non => cases rx; exact SeqAt.EqAt.int_none a t'
    | bl b => cases rx; exact SeqAt.EqAt.int_bool a t' b
    | int b => obtain ⟨t, rfl⟩ := rx; exact SeqAt.EqAt.int_int a t' b t
    | str b => obtain ⟨t, rfl⟩ := rx; exact SeqAt.EqAt.int_str a t' b t
    | _ => exact absurd (show false = true from fx) Bool.false_ne_true
  | str a =>
    obtain ⟨t', rfl⟩ := ry
    cases x with
    | non => cases rx; exact SeqAt.EqAt.str_none a t'
    | bl b => cases rx; exact SeqAt.EqAt.str_bool a t' b
    | int b => obtain ⟨t, rfl⟩ := rx; exact SeqAt.EqAt.str_int a t' b t
    | str b => obtain ⟨t, rfl⟩ := rx; exact SeqAt.EqAt.str_str a t' b t
    | _ => exact absurd (show false = true from fx) Bool.false_ne_true
  | _ => exact absurd (show false = true from fy) Bool.false_ne_true
theorem call_len_seq : CallR X (.builtin "len") (fun xs H Q => ∃ p ys, xs = [.ref p] ∧ (SqL X.K H p ys ∨ SqT X.K H p ys) ∧ Q (.int ys.length) H) := by
  intro pins s σ H xs us Q I r h
  obtain ⟨p, ys, rfl, hq, q⟩ := h
  obtain ⟨u, rfl, rx⟩ := vals1 r
  cases rx
  have hn := line63
  rcases hq with hq | hq
  · obtain ⟨its, r', pl, hz⟩ := I.list hq
    have hlen := r'.length
    exact Calls.call_len_list pl.isList (by simp only [List.size_toArray] <;> omega) ⟨.int ys.length, H, I.tok _, ⟨s.toks + 1, by rw [List.size_toArray, hlen]⟩, q⟩
  · obtain ⟨its, r', pl, hz⟩ := I.tuple hq
    have hlen := r'.length
    exact len_tuple pl (by simp only [List.size_toArray] <;> omega) ⟨.int ys.length, H, I.tok _, ⟨s.toks + 1, by rw [List.size_toArray, hlen]⟩, q⟩
theorem call_list_of : CallR X (.type "list") (fun xs H Q => ∃ p ys, xs = [.ref p] ∧ (SqL X.K H p ys ∨ SqT X.K H p ys) ∧ ∀ l, H l = none → Q (.ref l) (upd H l (.lst ys))) := by
  intro pins s σ H xs us Q I r h
  obtain ⟨p, ys, rfl, hq, q⟩ := h
  obtain ⟨u, rfl, rx⟩ := vals1 r
  cases rx
  have fin : ∀ (its : List Value), Vals ys its → ys.length ≤ sizeLine → ∀ (h' : Heap) (c' : Nat), (∀ b o', s.heap.get? b = some o' → h'.get? b = some o') →
      h'.get? s.heap.objs.size = some { cls := .type "list", dict := none, data := .seq its.toArray c', slots := #[] } → EP X pins σ Q (.ref s.heap.objs.size) { s with heap := h' } := fun its r' hz h' c' kp e =>
    ⟨.ref s.heap.objs.size, _, I.laid (t' := s.toks) kp (Nat.le_refl _) (show ObjOk X.prog X.w _ h' _ (.lst ys) from ⟨hz, its, c', r', e⟩), rfl, q _ (I.hok.fresh (Nat.le_refl _))⟩
  rcases hq with hq | hq
  · obtain ⟨its, r', pl, hz⟩ := I.list hq
    have hlen := r'.length
    obtain ⟨o, ho, hc, n, hd⟩ := pl.isList
    exact call_list_seq p (.inl rfl) ho hc hd (fun h' c' kp e => fin its r' hz h' c' kp e) (by simp only [List.size_toArray] <;> omega)
  · obtain ⟨its, r', pl, hz⟩ := I.tuple hq
    have hlen := r'.length
    obtain ⟨o, ho, hc, n, hd⟩ := pl
    exact call_list_seq p (.inr rfl) ho hc hd (fun h' c' kp e => fin its r' hz h' c' kp e) (by simp only [List.size_toArray] <;> omega)
def tyV (K : PySem.W.Frag) (T : String) (x : V) (H : Hp) : Prop := match x with
  | .str _ => T = "str"
  | .int _ => T = "int"
  | .ref p => (T = "list" ∧ ∃ xs, SqL K H p xs) ∨ (T = "tuple" ∧ ∃ o, K.lookup p = some o ∧ o.cls = .type "tuple" ∧ o.dict = none) ∨
      (T = "dict" ∧ ((∃ kvs, H p = some (.dK kvs)) ∨ ∃ kvs, H p = some (.dT kvs))) ∨ (T = "set" ∧ ∃ S n, H p = some (.set S n))
  | _ => False
theorem tyV_is {pins : List (Addr × Obj)} {σ : St} {H : Hp} {s : Shared} {T : String} {x : V} {v : Value} (I : Inv X pins σ H s) (r : RelV x v) (ty : tyV X.K T x H) :
    s.TypeIs v T ∧ ∀ a, v = .ref a → ∃ ob, s.heap.get? a = some ob ∧ ob.dict = none := by
  cases x with
  | str z =>
    obtain ⟨t, rfl⟩ := r
    cases (show T = "str" from ty)
    exact ⟨typeIs_str s z t, fun _ e => nomatch e⟩
  | int i =>
    obtain ⟨t, rfl⟩ := r
    cases (show T = "int" from ty)
    exact ⟨typeIs_int s i t, fun _ e => nomatch e⟩
  | ref p =>
    cases r
    rcases ty with ⟨rfl, xs, hq⟩ | ⟨rfl, o, hk, hc, hd⟩ | ⟨rfl, hk⟩ | ⟨rfl, S, n, hk⟩
    · obtain ⟨its, _, pl, _⟩ := I.list hq
      refine ⟨pl.isList.typeIs, fun a e => ?_⟩
      cases e
      obtain ⟨o, n, e, c, hd, _⟩ := pl
      exact ⟨o, e, hd⟩
    · refine ⟨⟨o, I.kIn p o hk, hc⟩, fun a e => ?_⟩
      cases e
      exact ⟨o, I.kIn _ o hk, hd⟩
    · have z : ∃ o, s.heap.get? p = some o ∧ o.ExactDict := by
        rcases hk with ⟨kvs, hk⟩ | ⟨kvs, hk⟩
        · obtain ⟨_, _, _, _, o, _, _, e, ex, _⟩ := I.hok p _ hk
          exact ⟨o, e, ex⟩
        · obtain ⟨_, _, _, _, o, _, _, e, ex, _⟩ := I.hok p _ hk
          exact ⟨o, e, ex⟩
      obtain ⟨o, e, ex⟩ := z
      refine ⟨⟨o, e, ex.1⟩, fun a e2 => ?_⟩
      cases e2
      exact ⟨o, e, ex.2.1⟩
    · obtain ⟨o, _, _, _, e, ex, _⟩ := I.hok p _ hk
      refine ⟨⟨o, e, ex.1⟩, fun a e2 => ?_⟩
      cases e2
      exact ⟨o, e, ex.2.1⟩
  | _ => exact False.elim ty
def tBM (K : PySem.W.Frag) (T : String) (r : V → List V → Hp → VK → Prop) (to : TE) (t : TA) : TE := fun σ H Q => to σ H fun x H1 => tyV K T x H1 ∧ t σ H1 fun xs H2 => r x xs H2 Q
variable {o e : Expr} {es : List Expr} {to : TE} {t : TA} {name : Str} {apos cpos : Pos} {T id : String} {r : V → List V → Hp → VK → Prop}
theorem pe_bm (pa : PlainAttrs T) (slot : Slot T name id) (hty : typeOf (.builtin id) = pure (.type "method_descriptor")) (hm : MtR X id r) (ho : PE X o to) (ha : PA X (e :: es) t)
    (hbase : attributeBase o name X.env (eval o X.env) = eval o X.env := by rfl)
    (hfew : ((backTo cpos (starEach (e :: es) X.env)).all (fun x => !x.1) && (backToKw cpos (keywordEach [] X.env)).all (fun x => x.1.isSome)
      && decide ((e :: es).length + ([] : List Keyword).length + (if ([] : List Keyword).isEmpty then 0 else 1) < 30)) = true := by rfl)
    (hline : (apos.endLine == cpos.line) = true := by rfl) (hs : starEach (e :: es) X.env = (false, eval e X.env) :: starEach es X.env := by rfl) (hplain : (backTo cpos (starEach es X.env)).any (·.1) = false := by rfl) :
    PE X (.Call (.Attribute o name apos) (e :: es) [] cpos) (tBM X.K T r to t) := by
  intro pins s σ H Q I h
  refine wpAny_Call_method_late hbase hfew hline rfl (thn (ho pins s σ H _ I h) fun v s1 ⟨x, H1, I1, r1, ty, q1⟩ => ?_)
  obtain ⟨h1, h2⟩ := tyV_is I1 r1 ty
  refine ⟨T, id, pa, slot, hty, h1, h2, ?_⟩
  have hA := ha cpos pins s1 σ H1 _ I1 q1
  rw [hs] at hA ⊢
  refine Calls.callWith_builtin (by show (false || (backTo cpos (starEach es X.env)).any (·.1)) = false; rw [hplain] <;> rfl) (Calls.evalArgs_plain ?_)
  exact thn hA fun us s2 ⟨vs, H2, I2, r2, q2⟩ => hm pins s2 σ H2 x vs v us Q I2 r1 r2 q2
end
end L2

namespace L2
open PySem PySem.Spec PyProof.Rows

def MtM (X : Cx) (id : String) (r : V → List V → Hp → VK → Prop) : Prop :=
  ∀ (pins : List (Addr × Obj)) (s : Shared) (σ : St) (H : Hp) (x : V) (xs : List V) (v : Value) (us : List Value) (Q : VK), Inv X pins σ H s → RelV x v → Vals xs us → r x xs H Q →
    wpAny (model X.prog X.w) X.A (call (.builtin id) (v :: us)) (EP X pins σ Q) X.xe s

theorem Vals.one : ∀ {x : V} {us : List Value}, Vals [x] us → ∃ u, us = [u] ∧ RelV x u
  | _, _, .cons r .nil => ⟨_, rfl, r⟩
theorem Vals.rep {xs : List V} {us : List Value} (h : Vals xs us) : ∀ k : Nat, Vals (List.replicate k xs).flatten (List.replicate k us).flatten
  | 0 => .nil
  | k + 1 => by
    rw [List.replicate_succ, List.replicate_succ, List.flatten_cons, List.flatten_cons]
    exact Vals.append h (Vals.rep h k)
theorem foldl_rep (its : List Value) : ∀ (k : Nat) (acc : List Value),
    List.foldl (fun x1 x2 => x1 ++ x2) acc.toArray (List.replicate k its.toArray) = (acc ++ (List.replicate k its).flatten).toArray
  | 0, acc => by simp
  | k + 1, acc => by
    have e : acc.toArray ++ its.toArray = (acc ++ its).toArray := by simp
    have e2 : (acc ++ its) ++ (List.replicate k its).flatten = acc ++ (List.replicate (k + 1) its).flatten := by
      rw [List.replicate_succ, List.flatten_cons, List.append_assoc]
    rw [← e2, ← foldl_rep its k (acc ++ its), ← e, List.replicate_succ, List.foldl_cons]

section
variable {X : Cx} {pins : List (Addr × Obj)} {σ : St} {H : Hp} {s : Shared} {l b : Addr} {xs ys zs : List V}

theorem Inv.lset {its its' : List Value} {n : Nat} {f : Array Value → Array Value} {t' : Nat} (I : Inv X pins σ H s) (hH : H l = some (.lst xs))
    (e : s.heap.get? l = some { cls := .type "list", data := .seq its.toArray n }) (hf : f its.toArray = its'.toArray) (hv : Vals ys its') (hz : ys.length ≤ sizeLine) :
    Inv X pins σ (upd H l (.lst ys)) { s with heap := s.heap.update l (Obj.mapSeq f), toks := t' } := by
  have q := PySem.IsL.update e f
  rw [hf] at q
  refine I.write (x := l) (e := l) (by rw [hH]; exact trivial) (.inl rfl) (fun b' u hb hu => (Heap.get?_update_other s.heap (Obj.mapSeq f) (Ne.symm hb)).trans hu) ⟨_, q⟩ ?_
  exact ⟨hz, its', _, hv, q⟩
theorem Inv.lnew {its : List Value} {t' : Nat} (I : Inv X pins σ H s) (hv : Vals ys its) (hz : ys.length ≤ sizeLine) :
    Inv X pins σ (upd H s.heap.objs.size (.lst ys)) { s with heap := s.heap.push { cls := .type "list", data := .seq its.toArray }, toks := t' } :=
  I.laid (fun _ _ q => Heap.get?_push_of_some _ q) (Nat.le_refl _) ⟨hz, its, 0, hv, Heap.get?_push_size _ rfl⟩
theorem Inv.fresh (I : Inv X pins σ H s) : H s.heap.objs.size = none := I.hok.fresh (Nat.le_refl _)
theorem Inv.lstM (I : Inv X pins σ H s) (hH : H l = some (.lst xs)) : xs.length ≤ sizeLine ∧ ∃ (its : List Value) (n : Nat), Vals xs its ∧ xs.length = its.length ∧ s.heap.get? l = some { cls := .type "list", data := .seq its.toArray n } := by
  obtain ⟨z, its, n, r, e⟩ := I.hok l _ hH
  exact ⟨z, its, n, r, r.length, e⟩

theorem notLongL {n : Nat} (h : n ≤ sizeLine) : Builtin.List.listTooLong n = false := by
  unfold Builtin.List.listTooLong
  exact decide_eq_false (by omega)
end

section
variable {X : Cx}

def rAppend : V → List V → Hp → VK → Prop := fun x vs H Q => ∃ l xs y, x = .ref l ∧ vs = [y] ∧ H l = some (.lst xs) ∧ xs.length < sizeLine ∧ Q .non (upd H l (.lst (xs ++ [y])))
theorem mt_append : MtM X "list.append" rAppend := by
  intro pins s σ H x vs v us Q I rx rv h
  obtain ⟨l, xs, y, rfl, rfl, hH, hz, q⟩ := h
  cases rx
  obtain ⟨u, rfl, ru⟩ := rv.one
  obtain ⟨z, its, n, r, hl, e⟩ := I.lstM hH
  refine call_meets F.slot_list_append ⟨_, e, rfl⟩ F.entry_list_append (F.args_list_append_2 _ _) (PySem.list_append l its.toArray n u (by rw [List.size_toArray]; omega)) ⟨e, ?_⟩
  refine ⟨.non, _, I.lset (its' := its ++ [u]) hH e (by simp) (r.append (.cons ru .nil)) ?_, rfl, q⟩
  rw [List.length_append, List.length_singleton]
  omega

def rExtend : V → List V → Hp → VK → Prop := fun x vs H Q => ∃ l b xs zs, x = .ref l ∧ vs = [.ref b] ∧ H l = some (.lst xs) ∧ H b = some (.lst zs) ∧ xs.length + zs.length ≤ sizeLine ∧ Q .non (upd H l (.lst (xs ++ zs)))
theorem mt_extend : MtM X "list.extend" rExtend := by
  intro pins s σ H x vs v us Q I rx rv h
  obtain ⟨l, b, xs, zs, rfl, rfl, hH, hB, hz, q⟩ := h
  cases rx
  obtain ⟨u, rfl, ru⟩ := rv.one
  cases ru
  obtain ⟨z, its, n, r, hl, e⟩ := I.lstM hH
  obtain ⟨z2, its2, n2, r2, hl2, e2⟩ := I.lstM hB
  have hsz : its.toArray.size + its2.toArray.size ≤ sizeLine := by rw [List.size_toArray, List.size_toArray]; omega
  have hlong : ¬ (!its.toArray.isEmpty && Builtin.List.listTooLong (its.toArray.size + its2.toArray.size)) = true := by
    rw [notLongL hsz, Bool.and_false]
    exact Bool.false_ne_true
  refine call_meets F.slot_list_extend ⟨_, e, rfl⟩ F.entry_list_extend (F.args_list_extend_2 _ _)
    (AutoSeq1.list_extend_list_list_0 l its.toArray n b its2.toArray n2 hlong (by rw [List.size_toArray]; omega) (by omega)) ⟨e, e2, ?_⟩
  refine ⟨.non, _, I.lset (its' := its ++ its2) hH e (by simp) (r.append r2) ?_, rfl, q⟩
  rw [List.length_append]
  omega

def rRep : R2 := fun x y H Q => ∃ l k xs, x = .ref l ∧ y = .int k ∧ H l = some (.lst xs) ∧ -(2 ^ 63) ≤ k ∧ k < 2 ^ 63 ∧ xs.length * k.toNat ≤ sizeLine ∧
  ∀ p, H p = none → Q (.ref p) (upd H p (.lst (List.replicate k.toNat xs).flatten))
theorem len_rep {α : Type} (xs : List α) (k : Nat) : (List.replicate k xs).flatten.length = k * xs.length := by
  induction k with
  | zero => simp
  | succ k ih => rw [List.replicate_succ, List.flatten_cons, List.length_append, ih, Nat.succ_mul, Nat.add_comm]
theorem op_rep : OpR X (binaryOp .Mult) rRep := by
  intro pins s σ H x y v u Q I rx ry h
  obtain ⟨l, k, xs, rfl, rfl, hH, h1, h2, hz, q⟩ := h
  cases rx
  obtain ⟨t, rfl⟩ := ry
  obtain ⟨z, its, n, r, hl, e⟩ := I.lstM hH
  have hlen : its.toArray.size * k.toNat ≤ sizeLine := by rw [List.size_toArray, ← hl]; exact hz
  have hcap : ¬ its.toArray.size * k.toNat > (2 ^ 63 - 1) / 8 := by
    have : (sizeLine : Nat) ≤ (2 ^ 63 - 1) / 8 := by decide
    omega
  have hfit : ¬ (!Builtin.List.listFitsIndex k) = true := by
    rw [fitsIndex_both h1 h2]
    exact Bool.false_ne_true
  have hlong : ¬ Builtin.List.listTooLong (its.toArray.size * k.toNat) = true := by
    rw [notLongL hlen]
    exact Bool.false_ne_true
  have hnew : List.foldl (fun x1 x2 => x1 ++ x2) #[] (List.replicate (if its.toArray.isEmpty = true then 0 else k.toNat) its.toArray) = (List.replicate k.toNat its).flatten.toArray := by
    have f0 : ∀ m : Nat, List.foldl (fun x1 x2 => x1 ++ x2) #[] (List.replicate m its.toArray) = (List.replicate m its).flatten.toArray := fun m => by
      have := foldl_rep its m []
      rw [List.nil_append] at this
      exact this
    rw [f0]
    cases its with
    | nil => simp
    | cons a r' => rw [if_neg (by simp)]
  refine wpAny_binaryOp_repeat_ref (T := "list") (U := "int") (by decide) ⟨_, e, rfl⟩ (fun s' => typeIs_int s' k t) noFill_list_mul F.fills_int_mul F.slot_int_rmul repeat_list F.slot_int_index.lookup
    (call_meets F.slot_int_rmul (typeIs_int s k t) F.entry_int_rmul (F.args_int_rmul_2 _ _) (int___rmul___int_list k t l its.toArray n)
      ⟨e, rfl, ⟨_, e, rfl⟩, call_meets F.slot_list_mul ⟨_, e, rfl⟩ F.entry_list_mul (F.args_list_mul_2 _ _) (AutoListH.list___mul___list_int_3 l its.toArray n k t hfit hcap hlong) ⟨e, ?_⟩⟩)
  rw [hnew]
  exact ⟨.ref _, _, I.lnew (t' := s.toks) (r.rep k.toNat) (by rw [len_rep, Nat.mul_comm]; exact hz), rfl, q _ I.fresh⟩

end

section
variable {prog : Program} {w : World} {A : Around} {E : Value → Shared → Prop} {s : Shared}
end

section
variable {X : Cx}
end
end L2

namespace Att
open PySem PySem.W PySem.Calls PyProof.Rows

theorem ints_of_wellAll {P : Params} {h : Heap} : ∀ (ns : List Int) (vs : List Value), WellAll P h vs (ns.map WData.int) → IntsAre vs ns := by
  intro ns
  induction ns with
  | nil =>
    intro vs w
    rw [List.map_nil] at w
    cases w
    exact .nil
  | cons n ns ih =>
    intro vs w
    rw [List.map_cons] at w
    cases w with
    | cons a b =>
      cases a
      exact .cons _ _ (ih _ b)

theorem script_of {l : OpenLaw} {n : Nat} (hn : l.most = some n) {P : Params} {h : Heap} {args : List WData} {vals : List Value}
    (hpre : l.row.toRowW.claim.pre args = true) (hwl : WellAll P h vals args) :
    ∃ a vs ns, vals = [Value.ref a] ∧ args = [WData.list (ns.map WData.int)] ∧ h.get? a = some { cls := .type "list", data := .seq vs.toArray } ∧ IntsAre vs ns ∧ ns.length ≤ n := by
  have hsh : WShape.hasAll [] args [.list .int] = true := (pre_splitW hpre).1
  have hc : l.pre.holds [] { args := args } = true := (pre_splitW hpre).2
  obtain ⟨d, r, rfl, h1, h2⟩ := hasAllW_cons hsh
  obtain rfl := hasAllW_nil h2
  obtain ⟨xs, rfl, h3⟩ := hasW_list h1
  obtain ⟨ns, rfl⟩ := items_int h3
  have hlen : ns.length ≤ n := by
    unfold OpenLaw.pre at hc
    have h4 : (WTm.not (.lt (.lit (.int (n : Int))) (.len (.arg 0)))).holds [] { args := [.list (ns.map .int)] } = true := by
      have h4 := (holds_andW hc).1
      rw [hn] at h4
      exact h4
    have h5 := condW_of h4 (w_not (w_lt w_lit (w_len_list (w_arg rfl))))
    rw [List.length_map] at h5
    refine Nat.le_of_not_lt fun q => ?_
    have q' : (n : Int) < ((ns.length : Nat) : Int) := by omega
    first
      | (rw [decide_eq_true q'] at h5; exact absurd h5 (by decide))
      | (simp at h5; omega)
  cases hwl with
  | cons w1 w2 =>
    cases w2
    cases w1 with
    | list ho hall => exact ⟨_, _, ns, rfl, rfl, ho, ints_of_wellAll ns _ hall, hlen⟩

theorem post_true (l : OpenLaw) (args : List WData) : l.row.toRowW.claim.post args (.bool true) args = true :=
  postW_of (r := l.row.toRowW) (X := (true == true))
    (show WShape.has [] (.bool true) .bool = true by first | rfl | decide | simp [WShape.has, WShape.arms, WShape.armsAll])
    (show (WTm.eq .res (.lit (.bool true))).value [] { args := args, res := some (.bool true), after := args } = some (.bool (true == true)) from w_eq_bool (w_res rfl) w_lit) rfl

theorem attach_call {l : OpenLaw} {n : Nat} {q : Program} {loose : List Str} {XP : (Str → Option Value) → Heap → Prop} {YP : World → Heap → Prop} {d : DefRec}
    (hn : l.most = some n) (hdf : d.params.defaults = [])
    (call : ∀ (w : World) (s₀ s₁ : Shared) (mg mb : Str → Option Value) (fa : Addr) (o : Obj) (pm cd doc : Value) (a : Addr) (vs : List Value) (ns : List Int),
      Ground q loose [] XP w s₀ mg mb s₁.heap → YP w s₁.heap →
      s₁.heap.get? fa = some o → o.data = .func (docDef d.name d.params d.body d.scope pm cd doc) → s₁.heap.CodeRec cd d.name → mg d.name = some (.ref fa) →
      s₁.heap.get? a = some { cls := .type "list", data := .seq vs.toArray } → IntsAre vs ns → ns.length ≤ n → s₁.gens = #[] →
      codeAny (model l.prog w) callerA (.call (.ref fa) ⟨[.ref a], []⟩) (fun r s' => r = .ok (.ret (.bool true)) ∧ OldK s₁.heap s'.heap ∧ s'.os = s₁.os ∧ AllBare s'.gens) s₁) :
    WalkO q loose XP YP l.row.toRowW d [] (fun f vs => PySem.call f vs) := by
  intro w s₀ s₁ mg mb G Y fa o pm cd doc dV kV ho hd hcd hD hmg hg args vals as hpre hlay hrd hwl hlo
  obtain rfl : dV = .none := Dflts.none hD hdf
  obtain rfl : kV = .none := Dflts.noKw hD
  obtain ⟨a, vs, ns, rfl, rfl, hobj, hints, hlen⟩ := script_of hn hpre hwl
  refine enter_call (codeAny_mono (call w s₀ s₁ mg mb fa o pm cd doc a vs ns G Y ho (fd_plain hd) hcd hmg hobj hints hlen hg) fun r s' hq => ?_)
  obtain ⟨rfl, h2, h3, h4⟩ := hq
  exact ⟨.inl ⟨.bool true, .bool true, [], rfl, fun _ => rfl, .bool true, post_true l _, fun _ => ⟨List.Pairwise.nil, fun _ hm => (nomatch hm)⟩⟩, h2, h3, h4⟩

section
variable {prog : Program} {w : World} {A : Around} {E : Value → Shared → Prop} {s : Shared} {K : Frag}

end
end Att

namespace L2
open PySem PySem.Spec PyProof.Rows

theorem vals_ints : ∀ {vs : List Value} {ns : List Int}, IntsAre vs ns → Vals (ns.map V.int) vs
  | _, _, .nil => .nil
  | _, _, .cons n t h => .cons ⟨t, rfl⟩ (vals_ints h)

def Only (H : Hp) : Prop := ∀ b, H b = none ∨ ∃ o xs, H b = some (.frz o (.lst xs))

theorem law_call {P : Program} {w : World} {K : PySem.W.Frag} {mg mb : Str → Option Value} {CX : CXT} {k : Nat} {fa a : Addr} {fd : FuncData} {x : Str} {sp : Sp} {s₁ : Shared} {vs : List Value} {ns : List Int}
    (KX : K.In s₁.heap) (hns : s₁.heap.Ns mainGlobals mg) (hb : s₁.heap.Ns builtinsNs mb) (hbb : ∀ x : Str, x ≠ "__name__" → mb x = bootBuiltins x) (hlim : s₁.heap.NoLimit) (hg : s₁.gens = #[])
    (ha : s₁.heap.get? a = some { cls := .type "list", data := .seq vs.toArray }) (hi : IntsAre vs ns) (hl : ns.length ≤ sizeLine) (hr : Room k callerA)
    (F : ∀ base : Heap, K.In base → base.Ns mainGlobals mg → FnOk P w K mg base CX k fa fd [x] sp) (hbind : ∀ (s : Shared) (u : Value), BindsTo s fd ⟨[u], []⟩ [(x, u)])
    (hsp : ∀ H : Hp, Only H → SqL K H a (ns.map V.int) → sp [.ref a] H (fun v _ => v = .bl true) fun _ _ _ => False)
    (hCX : ∀ H e s', CX [] H s₁ (fun _ _ _ => False) e s' → False) :
    codeAny (model P w) callerA (.call (.ref fa) ⟨[.ref a], []⟩) (fun r s' => r = .ok (.ret (.bool true)) ∧ OldK s₁.heap s'.heap ∧ s'.os = s₁.os ∧ AllBare s'.gens) s₁ := by
  have rv := vals_ints hi
  have lenV := hi.length
  have core : ∀ H : Hp, Only H → SqL K H a (ns.map V.int) → HOk P w H s₁.heap → (∀ b, H b ≠ none → b = a) → (H a ≠ none → K.lookup a = none) →
      codeAny (model P w) callerA (.call (.ref fa) ⟨[.ref a], []⟩) (fun r s' => r = .ok (.ret (.bool true)) ∧ OldK s₁.heap s'.heap ∧ s'.os = s₁.os ∧ AllBare s'.gens) s₁ := by
    intro H hO hS hok hA hK
    have base_of : ∀ {b : Addr} {o : Obj}, s₁.heap.get? b = some o → H b = none → (hidT s₁.heap H).get? b = some o := fun e n => hidT_get e n
    have noA : ∀ {b : Addr} {o : Obj} {es : Array DictEntry} {ep : Nat}, s₁.heap.get? b = some o → o.data = .dict es ep → H b = none := fun {b o es ep} e d => by
      cases q : H b with
      | none => rfl
      | some u =>
        have e' : b = a := hA b (by rw [q]; simp)
        subst e'
        rw [ha] at e; cases e
        have d' : Data.seq vs.toArray _ = Data.dict es ep := d
        cases d'
    have nsK : ∀ {b : Addr} {m : Str → Option Value}, s₁.heap.Ns b m → (hidT s₁.heap H).Ns b m := fun {b m} ⟨o, es, ep, e, d, r⟩ => ⟨o, es, ep, base_of e (noA e d), d, r⟩
    have hKb : K.In (hidT s₁.heap H) := fun b o e => base_of (KX b o e) (by
      cases q : H b with
      | none => rfl
      | some u =>
        have e' : b = a := hA b (by rw [q]; simp)
        subst e'
        rw [hK (by rw [q]; simp)] at e; cases e)
    have hM : Mod K mg (hidT s₁.heap H) := ⟨hKb, nsK hns, ⟨mb, nsK hb, hbb⟩, let ⟨mc, h1, h2⟩ := hlim; ⟨mc, nsK h1, h2⟩⟩
    have e0 : Env0 P w K mg (hidT s₁.heap H) callerA [] s₁ H := ⟨rfl, hM, fun b o e => of_hidT e, Nat.le_of_eq (hidT_size _ _), trivial, fun b hb => absurd (show b ∈ ([] : List Addr) from hb) (by simp), hok, .of_eq hg⟩
    refine codeAny_mono ((F _ hKb (nsK hns)).run callerA [] s₁ H ⟨[.ref a], []⟩ [.ref a] [.ref a] _ _ hr e0 (hbind s₁ (.ref a)) (.cons rfl .nil) (hsp H hO hS)) fun r s' h => ?_
    cases r with
    | error e => exact (hCX H e s' h).elim
    | ok fl =>
      cases fl with
      | next => exact False.elim h
      | brk => exact False.elim h
      | cont => exact False.elim h
      | ret u =>
        obtain ⟨v, H', os, bare, un, hok', r', q⟩ := h
        have q' : v = .bl true := q
        subst q'
        obtain rfl : u = Value.bool true := r'
        refine ⟨rfl, OldK.of_keep fun b o e => ?_, os, bare⟩
        cases q : H b with
        | none => exact un.keep b o e q (by intro z; exact absurd (show b ∈ ([] : List Addr) from z) (by simp)) (by simp)
        | some u =>
          rcases hO b with z | ⟨ob, xs, z⟩
          · rw [q] at z; cases z
          · have z2 := un.frzs b ob _ z
            obtain ⟨e1, _⟩ := hok b _ z
            obtain ⟨e2, _⟩ := hok' b _ z2
            rw [e] at e1; cases e1
            exact e2
  cases hk : K.lookup a with
  | some o =>
    have e := KX a o hk
    rw [ha] at e
    cases e
    refine core (fun _ => none) (fun _ => .inl rfl) (.inr ⟨_, vs.toArray, _, hk, rfl, rfl, rfl, by rw [List.size_toArray, lenV]; exact hl, by simpa using rv⟩) (fun b u z => by have z' : (none : Option HO) = some u := z; cases z') (fun b z => absurd rfl z) fun z => absurd rfl z
  | none =>
    refine core (fun b => if b = a then some (.frz { cls := .type "list", data := .seq vs.toArray } (.lst (ns.map V.int))) else none) (fun b => ?_) (.inl (.inr ⟨{ cls := .type "list", data := .seq vs.toArray }, if_pos rfl⟩)) (fun b u z => ?_) (fun b z => ?_) fun _ => hk
    · by_cases hb : b = a
      · exact .inr ⟨_, _, if_pos hb⟩
      · exact .inl (if_neg hb)
    · by_cases hb : b = a
      · have z' := (if_pos hb).symm.trans z
        cases z'
        subst hb
        exact ⟨ha, by rw [List.length_map]; exact hl, vs, _, rv, ha⟩
      · have z' := (if_neg hb).symm.trans z
        cases z'
    · by_cases hb : b = a
      · exact hb
      · exact absurd (if_neg hb) z
end L2

namespace L2
open PySem PySem.Spec PyProof.Rows

theorem walk_of {l : PySem.W.OpenLaw} {n k : Nat} {q : Program} {loose : List Str} {XP : (Str → Option Value) → Heap → Prop} {YP : World → Heap → Prop} {d : DefRec} {K : Params → PySem.W.Frag} {CX : World → CXT} {sp : World → Sp} {x : Str}
    (hn : l.most = some n) (hn2 : n ≤ sizeLine) (hdf : d.params.defaults = []) (hr : Room k callerA)
    (hY : ∀ (w : World) (h : Heap), YP w h → (K w.params).In h)
    (F : ∀ (w : World) (mg : Str → Option Value) (fa : Addr) (h : Heap), (K w.params).In h → h.Ns mainGlobals mg → mg d.name = some (.ref fa) →
      ∃ fd : FuncData, (∀ (s : Shared) (u : Value), BindsTo s fd ⟨[u], []⟩ [(x, u)]) ∧
        ∀ base : Heap, (K w.params).In base → base.Ns mainGlobals mg → FnOk l.prog w (K w.params) mg base (CX w) k fa fd [x] (sp w))
    (hsp : ∀ (w : World) (H : Hp) (a : Addr) (ns : List Int), ns.length ≤ n → Only H → SqL (K w.params) H a (ns.map V.int) → sp w [.ref a] H (fun v _ => v = .bl true) fun _ _ _ => False)
    (hCX : ∀ (w : World) (H : Hp) (s : Shared) (e : Value) (s' : Shared), CX w [] H s (fun _ _ _ => False) e s' → False) :
    PySem.W.WalkO q loose XP YP l.row.toRowW d [] (fun f vs => PySem.call f vs) := by
  refine Att.attach_call hn hdf fun w s₀ s₁ mg mb fa o pm cd doc a vs ns G Y ho hd hcd hmg hobj hints hlen hg => ?_
  have KX := hY w _ Y
  obtain ⟨fd, hb, hF⟩ := F w mg fa _ KX G.T.g hmg
  exact law_call KX G.T.g G.T.b G.T.builtins G.T.nolimit hg hobj hints (Nat.le_trans hlen hn2) hr hF hb (fun H hO hS => hsp w H a ns hlen hO hS) fun H e s' => hCX w H s₁ e s'
end L2


namespace L2
open PySem PySem.Spec PyProof.Rows

def inClass (s : Stmt) (j : Nat) : Stmt := match s with
  | .ClassDef _ _ _ body _ _ _ _ _ _ _ => body.getD j (.Pass ⟨0, 0, 0, 0⟩)
  | _ => .Pass ⟨0, 0, 0, 0⟩
def defArgs (s : Stmt) : Arguments := match s with
  | .FunctionDef _ a _ _ _ _ _ _ _ _ => a
  | _ => { posonlyargs := [], args := [], vararg := none, kwonlyargs := [], kw_defaults := [], kwarg := none, defaults := [] }
def defBody (s : Stmt) : List Stmt := match s with
  | .FunctionDef _ _ b _ _ _ _ _ _ _ => b
  | _ => []
def defScope (s : Stmt) : Scope := match s with
  | .FunctionDef _ _ _ _ _ _ sc _ _ _ => sc
  | _ => { kind := .function, names := [], isGenerator := false, isCoroutine := false }

abbrev E0 : XK := fun _ _ _ => False
structure Fun (K : PySem.W.Frag) (x qual : Str) (st : Stmt) (f : Addr) (fd : FuncData) : Prop where
  ex : ∃ (oc : Value) (od : Option Addr) (kV doc pm : Value) (an : Option Addr) (cdv ct : Value) (osl : Array (Option Value)),
    fd = PySem.W.fnOf x qual (defArgs st) (defBody st) (defScope st) .none kV doc pm an cdv ct ∧ K.lookup f = some ⟨oc, od, .func fd, osl⟩ ∧ PySem.W.codeIn K cdv qual = true
  kp : PySem.W.keepIn K (.ref f) = true
section
variable {P : Program} {w : World} {K : PySem.W.Frag} {mg : Str → Option Value} {base : Heap}
theorem Fun.binds {x qual : Str} {st : Stmt} {f : Addr} {fd : FuncData} {ps : List Str} (F : Fun K x qual st f fd)
    (h : ∀ (kV doc pm : Value) (an : Option Addr) (cdv ct : Value) (us : List Value), us.length = ps.length → bindArgs (PySem.W.fnOf x qual (defArgs st) (defBody st) (defScope st) .none kV doc pm an cdv ct) ⟨us, []⟩ = pure (ps.zip us)) : Binds K fd ps [] := by
  obtain ⟨oc, od, kV, doc, pm, an, cdv, ct, osl, rfl, lk, hcd⟩ := F.ex
  exact .all (h kV doc pm an cdv ct)
theorem fun_mk {x qual : Str} {st : Stmt} {f : Addr} {oc : Value} {od an : Option Addr} {osl : Array (Option Value)} {kV doc pm cdv ct : Value} (l : K.lookup f = some ⟨oc, od, .func (PySem.W.fnOf x qual (defArgs st) (defBody st) (defScope st) .none kV doc pm an cdv ct), osl⟩)
    (c : PySem.W.codeIn K cdv qual = true) (k : PySem.W.keepIn K (.ref f) = true) : Fun K x qual st f (PySem.W.fnOf x qual (defArgs st) (defBody st) (defScope st) .none kV doc pm an cdv ct) := ⟨⟨oc, od, kV, doc, pm, an, cdv, ct, osl, rfl, l, c⟩, k⟩
end
theorem hu_of {A : Around} {k : Nat} (hr : Room k A) : A.units + 1 < cLine := Nat.lt_of_le_of_lt (Nat.add_le_add_left (by decide : 1 ≤ 64) _) hr.units
section
variable {X : Cx}
theorem pv (i : Nat) {x : Str} {pos : Pos} (hN : X.N[i]? = some x := by rfl) (hv : Vis X.env.scope x := by first | exact Or.inl rfl | exact Or.inr (Or.inl rfl) | exact Or.inr (Or.inr rfl)) (hd : (x == ("__debug__" : Str)) = false := by decide)
    (hcd : (x == ("__classdict__" : Str)) = false := by decide) : PE X (.Name x pos) (tVar i) := pe_var hN hv hd hcd
end

theorem iteF {A B : Prop} (h : B) : if false = true then A else B := by
  rw [if_neg Bool.false_ne_true]
  exact h
theorem iteT {A B : Prop} (h : A) : if true = true then A else B := by
  rw [if_pos rfl]
  exact h
theorem ite2 {c A B : Prop} [Decidable c] (h1 : c → A) (h2 : ¬ c → B) : if c then A else B := by
  by_cases h : c
  · rw [if_pos h]
    exact h1 h
  · rw [if_neg h]
    exact h2 h
def Same (H H' : Hp) : Prop := ∀ b o, H b = some o → H' b = some o
theorem Same.refl (H : Hp) : Same H H := fun _ _ h => h
theorem Same.trans {H H1 H2 : Hp} (a : Same H H1) (b : Same H1 H2) : Same H H2 := fun c o h => b c o (a c o h)
theorem Same.free {H H' : Hp} (e : Same H H') {l : Addr} (h : H' l = Option.none) : H l = Option.none := by
  cases q : H l with
  | none => rfl
  | some o =>
    rw [e l o q] at h
    cases h
theorem Same.seq {K : PySem.W.Frag} {H H' : Hp} {a : Addr} {xs : List V} (e : Same H H') (h : SqL K H a xs) : SqL K H' a xs := by
  rcases h with (h | ⟨o, h⟩) | h
  · exact .inl (.inl (e _ _ h))
  · exact .inl (.inr ⟨o, e _ _ h⟩)
  · exact .inr h

end L2

namespace L2
open PySem PySem.Spec PyProof.Rows

end L2

namespace L2
open PySem PySem.Spec PyProof.Rows





end L2

namespace L2
open PySem PySem.Spec PyProof.Rows

section
variable {X : Cx} {pins : List (Addr × Obj)} {σ : List (Option V)} {H H' : Hp} {s : Shared} {h' : Heap}

end

end L2

namespace L2
open PySem PySem.Spec PyProof.Rows
section
variable {X : Cx}

variable {a b : Expr} {ta tb : TE} {pos : Pos}
variable {tA tB' : TT} {rest : List Expr}
end
end L2

namespace L2
open PySem PySem.Spec PyProof.Rows






end L2

namespace L2
open PySem PySem.Spec PyProof.Rows

end L2

namespace L2
open PySem PySem.Spec PyProof.Rows

section
variable {X : Cx} {a b c : Expr} {ta tb tc : TE} {pos : Pos}

end

end L2

namespace L2
open PySem PySem.Spec PyProof.Rows

section
variable {prog : Program} {w : World} {A : Around} {E : Value → Shared → Prop} {s : Shared} {K : PySem.W.Frag} {x dx C f : Addr} {mA : Str → Option Value} {name : Str} {v : Value}

end


section
variable {X : Cx} {pins : List (Addr × Obj)} {σ : St} {H : Hp} {s : Shared} {a C dx : Addr} {fs : List (Str × V)} {f : Str} {v : V} {A : Around} {E : Value → Shared → Prop}

end


end L2

namespace L2
open PySem PySem.Spec PyProof.Rows



section
variable {X : Cx} {CX : CXT} {k : Nat} {f C : Addr} {fd : FuncData} {ps : List Str} {sp : Sp} {dvs : List V} {ds : List Value} {E : XK} {x m : Str} {p pos apos : Pos} {e o : Expr} {es : List Expr} {ta : TE} {t : TA}

end


end L2

namespace L2
open PySem PySem.Spec PyProof.Rows
section
variable {X : Cx} {x : Str} {p pos : Pos} {e : Expr} {es : List Expr} {t : TA} {id T : String} {r : List V → Hp → VK → Prop}

end
end L2

namespace L2
open PySem PySem.Spec PyProof.Rows

section
variable {κ : Type} [DecidableEq κ]
def valV (kvs : List (κ × V)) (k : κ) : Option V := (kvs.find? fun kv => decide (kv.1 = k)).map (·.2)
def putK (kvs : List (κ × V)) (k : κ) (v : V) : List (κ × V) :=
  if (kvs.any fun kv => decide (kv.1 = k)) = true then kvs.map (fun kv => if kv.1 = k then (kv.1, v) else kv) else kvs ++ [(k, v)]
theorem valV_pos {p : κ × V} {r : List (κ × V)} {k : κ} (e : p.1 = k) : valV (p :: r) k = some p.2 := by simp [valV, List.find?_cons, e]
theorem valV_neg {p : κ × V} {r : List (κ × V)} {k : κ} (e : ¬ p.1 = k) : valV (p :: r) k = valV r k := by simp [valV, List.find?_cons, e]
theorem valV_any (k : κ) : ∀ kvs : List (κ × V), (kvs.any fun kv => decide (kv.1 = k)) = (valV kvs k).isSome
  | [] => rfl
  | p :: r => by
    rw [List.any_cons]
    by_cases e : p.1 = k
    · simp only [valV_pos e, decide_eq_true e, Bool.true_or, Option.isSome_some]
    · rw [valV_neg e, decide_eq_false e, Bool.false_or]; exact valV_any k r
theorem valV_snoc (k j : κ) (y : V) : ∀ kvs : List (κ × V), valV kvs k = none → valV (kvs ++ [(k, y)]) j = if j = k then some y else valV kvs j
  | [], _ => by
    by_cases e : k = j
    · rw [if_pos e.symm]; exact valV_pos (p := (k, y)) e
    · rw [if_neg (fun z => e z.symm)]; exact valV_neg (p := (k, y)) e
  | p :: r, hn => by
    rw [List.cons_append]
    have hk : ¬ p.1 = k := fun z => by rw [valV_pos z] at hn; cases hn
    rw [valV_neg hk] at hn
    have ih := valV_snoc k j y r hn
    by_cases e : p.1 = j
    · rw [valV_pos e, valV_pos e, if_neg (fun z => hk (e.trans z))]
    · rw [valV_neg e, valV_neg e, ih]
theorem length_putK (kvs : List (κ × V)) (k : κ) (v : V) : (putK kvs k v).length ≤ kvs.length + 1 := by
  unfold putK
  split
  · rw [List.length_map]; omega
  · rw [List.length_append, List.length_cons, List.length_nil]; omega
theorem putK_new {kvs : List (κ × V)} {k : κ} (v : V) (h : valV kvs k = none) : putK kvs k v = kvs ++ [(k, v)] := by
  unfold putK
  rw [valV_any, h]
  exact if_neg (by decide)

theorem RelO.isSome_eq {o : Option V} {u : Option Value} (r : RelO o u) : o.isSome = u.isSome := by
  cases o with
  | none => cases u with
    | none => rfl
    | some _ => exact (show False from r).elim
  | some _ => cases u with
    | none => exact (show False from r).elim
    | some _ => rfl
theorem KV.val {kvs : List (κ × V)} {vs : List (κ × Value)} (r : KV kvs vs) (k : κ) : RelO (valV kvs k) (valueAt vs k) := by
  unfold KV at r
  induction r with
  | nil => exact True.intro
  | @cons p q ps qs h t ih =>
    obtain ⟨h1, h2⟩ := h
    by_cases e : p.1 = k
    · have e' : q.1 = k := h1.symm.trans e
      have b : valueAt (q :: qs) k = some q.2 := by simp [valueAt, List.find?_cons, e']
      rw [valV_pos e, b]; exact h2
    · have e' : ¬ q.1 = k := fun z => e (h1.trans z)
      have b : valueAt (q :: qs) k = valueAt qs k := by simp [valueAt, List.find?_cons, e']
      rw [valV_neg e, b]; exact ih
theorem KV.any {kvs : List (κ × V)} {vs : List (κ × Value)} (r : KV kvs vs) (k : κ) : (kvs.any fun kv => decide (kv.1 = k)) = vs.any fun kv => decide (kv.1 = k) := by
  unfold KV at r
  induction r with
  | nil => rfl
  | cons h t ih => rw [List.any_cons, List.any_cons, ih, h.1]
theorem KV.repl {kvs : List (κ × V)} {vs : List (κ × Value)} (r : KV kvs vs) (k : κ) {y : V} {u : Value} (ry : RelV y u) :
    KV (kvs.map fun kv => if kv.1 = k then (kv.1, y) else kv) (vs.map fun kv => if kv.1 = k then (kv.1, u) else kv) := by
  unfold KV at r ⊢
  induction r with
  | nil => exact .nil
  | @cons p q ps qs h t ih =>
    rw [List.map_cons, List.map_cons]
    refine .cons ?_ ih
    obtain ⟨h1, h2⟩ := h
    by_cases e : p.1 = k
    · rw [if_pos e, if_pos (h1.symm.trans e)]; exact ⟨h1, ry⟩
    · rw [if_neg e, if_neg (fun z => e (h1.trans z))]; exact ⟨h1, h2⟩
theorem KV.put {kvs : List (κ × V)} {vs : List (κ × Value)} (r : KV kvs vs) (k : κ) {y : V} {u : Value} (ry : RelV y u) : KV (putK kvs k y) (stored vs k u) := by
  unfold putK stored
  rw [r.any k]
  by_cases e : (vs.any fun kv => decide (kv.1 = k)) = true
  · rw [if_pos e, if_pos e]; exact r.repl k ry
  · rw [if_neg e, if_neg e]; exact Paired.snoc r ⟨rfl, ry⟩
theorem KV.length {kvs : List (κ × V)} {vs : List (κ × Value)} (r : KV kvs vs) : kvs.length = vs.length := Paired.length r
end


theorem kV_is {P : Program} {w : World} {k : Key} {u : Value} (r : RelV (kV k) u) : (mixKind P w).is k u = true := by
  cases k with
  | inl i => obtain ⟨t, e⟩ := (show ∃ t, u = Value.int i t from r); subst e; exact mixKind_int P w i t
  | inr x => obtain ⟨t, e⟩ := (show ∃ t, u = Value.str x t from r); subst e; exact mixKind_str P w x t
theorem items_are {P : Program} {w : World} : ∀ {ks : List Key} {us : List Value}, Vals (ks.map kV) us → ItemsAre (mixKind P w) ks us
  | [], _, r => by rw [List.map_nil] at r; cases r; exact .nil
  | k :: ks, _, r => by
    rw [List.map_cons] at r
    cases r with
    | cons h t => exact .cons (kV_is h) (items_are t)

abbrev KT (H : Hp) : List (List Key × V) → List (List Key × Addr × Value) → Prop := Paired fun p q => p.1 = q.1 ∧ H q.2.1 = some (.tup (p.1.map kV)) ∧ RelV p.2 q.2.2
theorem KT.val {H : Hp} {kvs : List (List Key × V)} {xs : List (List Key × Addr × Value)} (r : KT H kvs xs) (k : List Key) : RelO (valV kvs k) ((atKey xs k).map (·.2)) := by
  induction r with
  | nil => exact True.intro
  | @cons p q ps qs h t ih =>
    obtain ⟨h1, _, h2⟩ := h
    by_cases e : p.1 = k
    · have e' : q.1 = k := h1.symm.trans e
      have b : atKey (q :: qs) k = some q.2 := by simp [atKey, List.find?_cons, e']
      rw [valV_pos e, b]; exact h2
    · have e' : ¬ q.1 = k := fun z => e (h1.trans z)
      have b : atKey (q :: qs) k = atKey qs k := by simp [atKey, List.find?_cons, e']
      rw [valV_neg e, b]; exact ih
theorem KT.repl {H : Hp} {kvs : List (List Key × V)} {xs : List (List Key × Addr × Value)} (r : KT H kvs xs) (k : List Key) {y : V} {u : Value} (ry : RelV y u) :
    KT H (kvs.map fun kv => if kv.1 = k then (kv.1, y) else kv) (xs.map (putAt k u)) := by
  induction r with
  | nil => exact .nil
  | @cons p q ps qs h t ih =>
    rw [List.map_cons, List.map_cons]
    refine .cons ?_ ih
    obtain ⟨h1, h2, h3⟩ := h
    unfold putAt
    by_cases e : p.1 = k
    · rw [if_pos e, if_pos (h1.symm.trans e)]; exact ⟨h1, h2, ry⟩
    · rw [if_neg e, if_neg (fun z => e (h1.trans z))]; exact ⟨h1, h2, h3⟩
theorem KT.put {H : Hp} {kvs : List (List Key × V)} {xs : List (List Key × Addr × Value)} (r : KT H kvs xs) (k : List Key) {b : Addr} {y : V} {u : Value} (hb : H b = some (.tup (k.map kV))) (ry : RelV y u) :
    KT H (putK kvs k y) (storedH xs k b u) := by
  have e : (kvs.any fun kv => decide (kv.1 = k)) = (atKey xs k).isSome := by
    rw [valV_any, (r.val k).isSome_eq, Option.isSome_map]
  unfold putK storedH
  rw [e]
  by_cases q : (atKey xs k).isSome = true
  · rw [if_pos q, if_pos q]; exact r.repl k ry
  · rw [if_neg q, if_neg q]; exact Paired.snoc r ⟨rfl, hb, ry⟩
theorem KT.keeps {H H' : Hp} {kvs : List (List Key × V)} {xs : List (List Key × Addr × Value)} (r : KT H kvs xs) (ht : ∀ b ys, H b = some (.tup ys) → H' b = some (.tup ys)) : KT H' kvs xs :=
  Paired.mapP r fun _ _ z => ⟨z.1, ht _ _ z.2.1, z.2.2⟩

section
variable {P : Program} {w : World} {H : Hp} {h : Heap} {a : Addr}
theorem rd_of {u : HO} (ok : HOk P w H h) (e : Rd H a u) : ObjOk P w H h a u := e.ok ok
theorem dk_rd {kvs : List (Key × V)} (ok : HOk P w H h) (e : Rd H a (.dK kvs)) : kvs.length ≤ sizeLine ∧ (a == sysModules) = false ∧ ∃ vs, KV kvs vs ∧ h.DictOf (mixKind P w) a vs :=
  show ObjOk P w H h a (.dK kvs) from rd_of ok e
theorem dk_of {kvs : List (Key × V)} (ok : HOk P w H h) (e : H a = some (.dK kvs)) : kvs.length ≤ sizeLine ∧ (a == sysModules) = false ∧ ∃ vs, KV kvs vs ∧ h.DictOf (mixKind P w) a vs := dk_rd ok (.inl e)
theorem key_of {ks : List Key} (ok : HOk P w H h) (e : H a = some (.tup (ks.map kV))) : (tupleKind (mixKind P w)).is h ks a := by
  obtain ⟨_, its, r, o, h1, h2, n, h3⟩ := (show ObjOk P w H h a (.tup (ks.map kV)) from ok a _ e)
  exact ⟨o, its.toArray, n, h1, h2, h3, by simpa using items_are r⟩
theorem dt_rd {kvs : List (List Key × V)} (ok : HOk P w H h) (e : Rd H a (.dT kvs)) : kvs.length ≤ sizeLine ∧ (a == sysModules) = false ∧
    ∃ xs, KT H kvs xs ∧ h.DictOfH (tupleKind (mixKind P w)) a xs := by
  obtain ⟨z, y, xs, r, o, es, ep, h1, h2, h3, h4, h5⟩ := (show ObjOk P w H h a (.dT kvs) from rd_of ok e)
  refine ⟨z, y, xs, r, o, es, ep, h1, h2, h3, h4, fun x hx => ?_, h5⟩
  have all : ∀ {l : List (List Key × V)} {m : List (List Key × Addr × Value)}, KT H l m → ∀ x ∈ m, (tupleKind (mixKind P w)).is h x.1 x.2.1 := by
    intro l m q
    induction q with
    | nil => intro x hx; exact nomatch hx
    | @cons p q ps qs hq t ih =>
      intro x hx
      rcases List.mem_cons.mp hx with e | hx
      · subst e
        exact key_of ok (by rw [← hq.1]; exact hq.2.1)
      · exact ih x hx
  exact all r x hx
theorem dt_of {kvs : List (List Key × V)} (ok : HOk P w H h) (e : H a = some (.dT kvs)) : kvs.length ≤ sizeLine ∧ (a == sysModules) = false ∧
    ∃ xs, KT H kvs xs ∧ h.DictOfH (tupleKind (mixKind P w)) a xs := dt_rd ok (.inl e)
end

def DGet (H : Hp) (a : Addr) (y : V) (r : Option V) : Prop :=
  (∃ kvs k, Rd H a (.dK kvs) ∧ y = kV k ∧ r = valV kvs k) ∨ ∃ kvs k b, Rd H a (.dT kvs) ∧ y = .ref b ∧ H b = some (.tup (k.map kV)) ∧ r = valV kvs k
def DPut (H : Hp) (a : Addr) (y v : V) (H' : Hp) : Prop :=
  (∃ kvs k, H a = some (.dK kvs) ∧ y = kV k ∧ kvs.length < sizeLine ∧ H' = upd H a (.dK (putK kvs k v))) ∨
  ∃ kvs k b, H a = some (.dT kvs) ∧ y = .ref b ∧ H b = some (.tup (k.map kV)) ∧ kvs.length < sizeLine ∧ H' = upd H a (.dT (putK kvs k v))
theorem DGet.k {H : Hp} {a : Addr} {kvs : List (Key × V)} {k : Key} (e : H a = some (.dK kvs)) : DGet H a (kV k) (valV kvs k) := .inl ⟨kvs, k, .inl e, rfl, rfl⟩
theorem DPut.k {H : Hp} {a : Addr} {kvs : List (Key × V)} {k : Key} {v : V} (e : H a = some (.dK kvs)) (hl : kvs.length < sizeLine) : DPut H a (kV k) v (upd H a (.dK (putK kvs k v))) := .inl ⟨kvs, k, e, rfl, hl, rfl⟩
theorem DPut.t {H : Hp} {a b : Addr} {kvs : List (List Key × V)} {k : List Key} {v : V} (e : H a = some (.dT kvs)) (eb : H b = some (.tup (k.map kV))) (hl : kvs.length < sizeLine) :
    DPut H a (.ref b) v (upd H a (.dT (putK kvs k v))) := .inr ⟨kvs, k, b, e, rfl, eb, hl, rfl⟩


section
variable {X : Cx} {pins : List (Addr × Obj)} {σ : St} {H : Hp} {s : Shared} {a : Addr} {y v : V} {u r : Value} {o : Option V} {A : Around} {E : Value → Shared → Prop}

theorem Inv.big (I : Inv X pins σ H s) : sysModules < s.heap.objs.size := by
  have h : mainGlobals < s.heap.objs.size := (I.mod.glob.keeps I.bk).lt
  exact Nat.lt_trans (by decide) h

theorem d_getItem {Q : Value → Shared → Prop} (hu : A.units + 1 < cLine) (I : Inv X pins σ H s) (g : DGet H a y (some v)) (ry : RelV y u) (h : ∀ w' s', Inv X pins σ H s' → RelV v w' → Q w' s') :
    wpAny (model X.prog X.w) A (getItem (.ref a) u) Q E s := by
  rcases g with ⟨kvs, k, e, ey, l⟩ | ⟨kvs, k, b, e, ey, eb, l⟩
  · subst ey
    obtain ⟨z, hd, vs, rel, dd⟩ := dk_rd I.hok e
    obtain ⟨w', hw, rw'⟩ := RelO.some_of (v := v) (o := valueAt vs k) (by rw [l]; exact rel.val k)
    exact wpAny_getItem_of (kV_is ry) dd.mapOf hw (h w' _ (I.tok _) rw')
  · subst ey
    cases (show u = Value.ref b from ry)
    obtain ⟨z, hd, xs, rel, dd⟩ := dt_rd I.hok e
    obtain ⟨w', hw, rw'⟩ := RelO.some_of (v := v) (o := (atKey xs k).map (·.2)) (by rw [l]; exact rel.val k)
    obtain ⟨p, hp, hp2⟩ := Option.map_eq_some_iff.mp hw
    refine wpAny_getItem_heap (tupleKind_room_in1 hu) (key_of I.hok eb) dd hp ?_
    rw [hp2]
    exact h w' _ (I.tok _) rw'
theorem d_in {Q : Value → Shared → Prop} (hu : A.units + 1 < cLine) (I : Inv X pins σ H s) (g : DGet H a y o) (ry : RelV y u) (h : ∀ s', Inv X pins σ H s' → Q (.bool o.isSome) s') :
    wpAny (model X.prog X.w) A (compareOp .In u (.ref a)) Q E s := by
  rcases g with ⟨kvs, k, e, ey, l⟩ | ⟨kvs, k, b, e, ey, eb, l⟩
  · subst ey
    obtain ⟨z, hd, vs, rel, dd⟩ := dk_rd I.hok e
    refine wpAny_in_of (kV_is ry) hd dd.mapOf ?_
    rw [← (rel.val k).isSome_eq, ← l]
    exact h _ (I.tok _)
  · subst ey
    cases (show u = Value.ref b from ry)
    obtain ⟨z, hd, xs, rel, dd⟩ := dt_rd I.hok e
    refine wpAny_in_heap (tupleKind_room_in1 hu) (key_of I.hok eb) hd dd ?_
    have q := (rel.val k).isSome_eq
    rw [Option.isSome_map] at q
    rw [← q, ← l]
    exact h _ (I.tok _)
theorem d_notIn {Q : Value → Shared → Prop} (hu : A.units + 1 < cLine) (I : Inv X pins σ H s) (g : DGet H a y o) (ry : RelV y u) (h : ∀ s', Inv X pins σ H s' → Q (.bool (!o.isSome)) s') :
    wpAny (model X.prog X.w) A (compareOp .NotIn u (.ref a)) Q E s := by
  rcases g with ⟨kvs, k, e, ey, l⟩ | ⟨kvs, k, b, e, ey, eb, l⟩
  · subst ey
    obtain ⟨z, hd, vs, rel, dd⟩ := dk_rd I.hok e
    refine wpAny_notIn_of (kV_is ry) hd dd.mapOf ?_
    rw [← (rel.val k).isSome_eq, ← l]
    exact h _ (I.tok _)
  · subst ey
    cases (show u = Value.ref b from ry)
    obtain ⟨z, hd, xs, rel, dd⟩ := dt_rd I.hok e
    refine wpAny_notIn_heap (tupleKind_room_in1 hu) (key_of I.hok eb) hd dd ?_
    have q := (rel.val k).isSome_eq
    rw [Option.isSome_map] at q
    rw [← q, ← l]
    exact h _ (I.tok _)
theorem d_write {h' : Heap} {t' : Nat} {ob : HO} (I : Inv X pins σ H s) (mu : Mut (H a)) (hs : Heap.SameBut a s.heap h') (he : ∃ q, h'.get? a = some q) (new : ObjOk X.prog X.w (upd H a ob) h' a ob) :
    Inv X pins σ (upd H a ob) { s with heap := h', toks := t' } :=
  I.write (x := a) (e := a) mu (.inl rfl) (fun b q hb z => (hs.2 b hb).trans z) he new
theorem dk_new {P : Program} {w : World} {H' : Hp} {h' : Heap} {kvs : List (Key × V)} {vs : List (Key × Value)} (z : kvs.length ≤ sizeLine) (hd : (a == sysModules) = false) (rel : KV kvs vs) (dd : h'.DictOf (mixKind P w) a vs) :
    ObjOk P w H' h' a (.dK kvs) := ⟨z, hd, vs, rel, dd⟩
theorem d_setItem {H' : Hp} {Q : Unit → Shared → Prop} (hu : A.units + 1 < cLine) (I : Inv X pins σ H s) (g : DPut H a y v H') (ry : RelV y u) (rv : RelV v r) (h : ∀ s', Inv X pins σ H' s' → Q () s') :
    wpAny (model X.prog X.w) A (setItem (.ref a) u r) Q E s := by
  rcases g with ⟨kvs, k, e, ey, l, eH⟩ | ⟨kvs, k, b, e, ey, eb, l, eH⟩
  · subst ey eH
    obtain ⟨z, hd, vs, rel, dd⟩ := dk_of I.hok e
    have hz : vs.length ≤ sizeLine := by rw [← rel.length]; exact z
    have hl : (putK kvs k v).length ≤ sizeLine := by have := length_putK kvs k v; omega
    refine wpAny_setItem_pairs (hsz := hz) (kV_is ry) dd fun h' dd' hs => h _ ?_
    have he : ∃ q, h'.get? a = some q := let ⟨q, _, _, hq, _⟩ := dd'; ⟨q, hq⟩
    exact d_write I (by rw [e]; exact True.intro) hs he (dk_new hl hd (rel.put k rv) dd')
  · subst ey eH
    cases (show u = Value.ref b from ry)
    obtain ⟨z, hd, xs, rel, dd⟩ := dt_of I.hok e
    have hz : xs.length ≤ sizeLine := by rw [← Paired.length rel]; exact z
    have hl : (putK kvs k v).length ≤ sizeLine := by have := length_putK kvs k v; omega
    refine wpAny_setItem_heap (hsz := hz) (tupleKind_room_in1 hu) (key_of I.hok eb) dd fun h' dd' hs => h _ ?_
    obtain ⟨q, es, ep, hq, h2, h3, h4, _, h5⟩ := dd'
    refine d_write I (by rw [e]; exact True.intro) hs ⟨q, hq⟩ ⟨hl, hd, _, (rel.put k eb rv).keeps fun c ys ec => ?_, q, es, ep, hq, h2, h3, h4, h5⟩
    rw [upd_ne (ne_of ec e (fun z => nomatch z))]
    exact ec
end

section
variable {X : Cx} {pins : List (Addr × Obj)} {σ : St} {H : Hp} {s : Shared} {a : Addr} {kvs : List (Key × V)} {k : Key} {u : Value} {A : Around} {E : Value → Shared → Prop}
end


def NoSl (i : Expr) : Prop := ∀ ov iv, subscripted i false ov iv = operate [ov, iv] (getItem ov iv)
theorem subD_of {prog : Program} {w : World} {A : Around} {E : Value → Shared → Prop} {s : Shared} {env : Env} {value slice : Expr} {pos : Pos} {T id : String} {Q : Value → Shared → Prop}
    (hl : typeLookup (.type T) "__getitem__" = pure (some (.builtin id))) (hs : NoSl slice)
    (h : wpAny (model prog w) A (eval value env) (fun o s₁ => wpAny (model prog w) A (eval slice env) (fun i s₂ => s₂.TypeIs o T ∧ wpAny (model prog w) A (getItem o i) Q E s₂) E s₁) E s) :
    wpAny (model prog w) A (eval (.Subscript value slice pos) env) Q E s := by
  refine Subscript_ (wpAny_mono h (fun o s₁ h₁ => wpAny_mono h₁ (fun i s₂ h₂ => ?_) fun _ _ x => x) fun _ _ x => x)
  obtain ⟨hT, h₂⟩ := h₂
  unfold subscriptTail
  refine wpAny_bind ?_
  rw [getitemInPython_of_ne hT.not_modules]
  refine wpAny_bind (wpAny_specialOf hT hl ?_)
  have fin : wpAny (model prog w) A (subscripted slice false o i) (fun r s₃ => wpAny (model prog w) A (letTemporaryGo value o r >>= fun _ => pure r) Q E s₃) E s₂ := by
    rw [hs o i]
    exact wpAny_operating (wpAny_mono h₂ (fun r s₃ h₃ => wpAny_bind (wpAny_letTemporaryGo (wpAny_pure h₃))) fun _ _ x => x)
  first
    | exact wpAny_pure (wpAny_bind fin)
    | exact wpAny_bind (wpAny_pure (wpAny_bind fin))
    | exact wpAny_bind fin

theorem dict_typeIs {X : Cx} {pins : List (Addr × Obj)} {σ : St} {H : Hp} {s : Shared} {a : Addr} {y : V} {o : Option V} (I : Inv X pins σ H s) (g : DGet H a y o) : s.TypeIs (.ref a) "dict" := by
  rcases g with ⟨kvs, k, e, _, _⟩ | ⟨kvs, k, b, e, _, _, _⟩
  · obtain ⟨_, _, vs, _, dd⟩ := dk_rd I.hok e
    exact dd.typeIs
  · obtain ⟨_, _, xs, _, dd⟩ := dt_rd I.hok e
    exact dd.typeIs
def tDGet (td ty : TE) : TE := fun σ H Q => td σ H fun x H1 => ty σ H1 fun y H2 => ∃ a v, x = .ref a ∧ DGet H2 a y (some v) ∧ Q v H2
def tDNotIn (ty td : TE) : TE := fun σ H Q => ty σ H fun y H1 => td σ H1 fun x H2 => ∃ a o, x = .ref a ∧ DGet H2 a y o ∧ Q (.bl (!o.isSome)) H2
def sDPut (td ty tv : TE) : TS := fun D σ H => tv σ H fun v H1 => td σ H1 fun x H2 => ty σ H2 fun y H3 => ∃ a H4, x = .ref a ∧ DPut H3 a y v H4 ∧ D.nx σ H4
section
variable {X : Cx} {o i e value : Expr} {pos pos' tpos : Pos} {td ty tv : TE}
theorem pe_dget (hu : X.A.units + 1 < cLine) (ho : PE X o td) (hi : PE X i ty) (hs : NoSl i) : PE X (.Subscript o i pos) (tDGet td ty) := by
  intro pins s σ H Q I h
  refine subD_of PySem.F.slot_dict_getitem.lookup hs (thn (ho pins s σ H _ I h) fun u s1 ⟨x, H1, I1, rx, q1⟩ => thn (hi pins s1 σ H1 _ I1 q1) fun iv s2 ⟨y, H2, I2, ry, a, v, ex, g, q2⟩ => ?_)
  subst ex
  obtain rfl : u = Value.ref a := rx
  exact ⟨dict_typeIs I2 g, d_getItem hu I2 g ry fun w' s3 I3 rw' => ⟨v, H2, I3, rw', q2⟩⟩
theorem pc_dnotin (hu : X.A.units + 1 < cLine) (hi : PE X i ty) (ho : PE X o td) : PC X .NotIn i o (tDNotIn ty td) := by
  intro pins s σ H Q I h
  refine thn (hi pins s σ H _ I h) fun iv s1 ⟨y, H1, I1, ry, q1⟩ => thn (ho pins s1 σ H1 _ I1 q1) fun u s2 ⟨x, H2, I2, rx, a, ov, ex, g, q2⟩ => ?_
  subst ex
  obtain rfl : u = Value.ref a := rx
  exact d_notIn hu I2 g ry fun s3 I3 => ⟨.bl (!ov.isSome), H2, I3, rfl, q2⟩
theorem ps_dput (hu : X.A.units + 1 < cLine) (ho : PE X o td) (hi : PE X i ty) (hv : PE X value tv) (hs : swapsWith value (some (.Subscript o i pos')) pos.line X.env = pure false) :
    PS X (.Assign [.Subscript o i pos'] value pos) (sDPut td ty tv) := by
  intro pins s σ H D I h
  refine wpAny_Assign_Subscript (thn (hv pins s σ H _ I h) fun r s1 ⟨v, H1, I1, rv, q1⟩ => thn (ho pins s1 σ H1 _ I1 q1) fun u s2 ⟨x, H2, I2, rx, q2⟩ => thn (hi pins s2 σ H2 _ I2 q2) fun iv s3 ⟨y, H3, I3, ry, a, H4, ex, g, q3⟩ => ?_) hs
  subst ex
  obtain rfl : u = Value.ref a := rx
  exact d_setItem hu I3 g ry rv fun s4 I4 => ⟨σ, H4, I4, q3⟩
end


theorem dk_empty {P : Program} {w : World} {H : Hp} (h : Heap) (hb : sysModules < h.objs.size) : ObjOk P w H (h.push { cls := .type "dict", data := .dict #[] }) h.objs.size (.dK []) :=
  ⟨Nat.zero_le _, beq_eq_false_iff_ne.mpr (Ne.symm (Nat.ne_of_lt hb)), [], .nil, Heap.DictOf.new h⟩
theorem dt_empty {P : Program} {w : World} {H : Hp} (h : Heap) (hb : sysModules < h.objs.size) : ObjOk P w H (h.push { cls := .type "dict", data := .dict #[] }) h.objs.size (.dT []) :=
  ⟨Nat.zero_le _, beq_eq_false_iff_ne.mpr (Ne.symm (Nat.ne_of_lt hb)), [], .nil, _, #[], 0, Heap.get?_push_size _ rfl, ⟨rfl, rfl, rfl⟩, rfl, rfl, List.nodup_nil⟩
def tDNewK : TE := fun _ H Q => ∀ p, H p = none → Q (.ref p) (upd H p (.dK []))
def tDNewT : TE := fun _ H Q => ∀ p, H p = none → Q (.ref p) (upd H p (.dT []))
section
variable {X : Cx} {pos : Pos}
theorem pe_dnewK : PE X (.Dict [] [] pos) tDNewK := fun pins s σ H Q I h =>
  wpAny_Dict_empty ⟨.ref s.heap.objs.size, _, I.laid (a := s.heap.objs.size) (o := .dK []) (t' := s.toks) (fun _ _ q => Heap.get?_push_of_some _ q) (Nat.le_refl _) (dk_empty s.heap I.big), rfl, h _ (I.hok.fresh (Nat.le_refl _))⟩
theorem pe_dnewT : PE X (.Dict [] [] pos) tDNewT := fun pins s σ H Q I h =>
  wpAny_Dict_empty ⟨.ref s.heap.objs.size, _, I.laid (a := s.heap.objs.size) (o := .dT []) (t' := s.toks) (fun _ _ q => Heap.get?_push_of_some _ q) (Nat.le_refl _) (dt_empty s.heap I.big), rfl, h _ (I.hok.fresh (Nat.le_refl _))⟩
end

structure M1 (X : Cx) (o : Expr) (m : Str) (apos : Pos) (e : Expr) (cpos : Pos) : Prop where
  base : attributeBase o m X.env (eval o X.env) = eval o X.env
  few : ((backTo cpos (starEach [e] X.env)).all (fun x => !x.1) && (backToKw cpos (keywordEach [] X.env)).all (fun x => x.1.isSome)
    && decide (([e] : List Expr).length + ([] : List Keyword).length + (if ([] : List Keyword).isEmpty then 0 else 1) < 30)) = true
  line : (apos.endLine == cpos.line) = true
  trees : backTo cpos (starEach [e] X.env) = [(false, eval e X.env)]
structure M2 (X : Cx) (o : Expr) (m : Str) (apos : Pos) (e f : Expr) (cpos : Pos) : Prop where
  base : attributeBase o m X.env (eval o X.env) = eval o X.env
  few : ((backTo cpos (starEach [e, f] X.env)).all (fun x => !x.1) && (backToKw cpos (keywordEach [] X.env)).all (fun x => x.1.isSome)
    && decide (([e, f] : List Expr).length + ([] : List Keyword).length + (if ([] : List Keyword).isEmpty then 0 else 1) < 30)) = true
  line : (apos.endLine == cpos.line) = true
  trees : backTo cpos (starEach [e, f] X.env) = [(false, eval e X.env), (false, eval f X.env)]

def IsD (H : Hp) (a : Addr) : Prop := (∃ kvs, Rd H a (.dK kvs)) ∨ ∃ kvs, Rd H a (.dT kvs)
theorem isD_at {X : Cx} {pins : List (Addr × Obj)} {σ : St} {H : Hp} {s : Shared} {a : Addr} (I : Inv X pins σ H s) (d : IsD H a) :
    s.TypeIs (.ref a) "dict" ∧ (∀ b, Value.ref a = .ref b → ∃ ob, s.heap.get? b = some ob ∧ ob.dict = none) ∧ (a == sysModules) = false := by
  rcases d with ⟨kvs, e⟩ | ⟨kvs, e⟩
  · obtain ⟨_, hd, vs, _, dd⟩ := dk_rd I.hok e
    refine ⟨dd.typeIs, fun b q => ?_, hd⟩
    cases q
    obtain ⟨ob, _, _, h1, h2, _⟩ := dd
    exact ⟨ob, h1, h2.2.1⟩
  · obtain ⟨_, hd, xs, _, dd⟩ := dt_rd I.hok e
    refine ⟨dd.typeIs, fun b q => ?_, hd⟩
    cases q
    obtain ⟨ob, _, _, h1, h2, _⟩ := dd
    exact ⟨ob, h1, h2.2.1⟩

section
variable {X : Cx} {pins : List (Addr × Obj)} {σ : St} {H : Hp} {s : Shared} {a : Addr} {y d : V} {u r : Value} {o : Option V} {A : Around} {E : Value → Shared → Prop}
end

section
variable {X : Cx} {o e f : Expr} {apos cpos : Pos} {td ty tx : TE}
end

section
variable {X : Cx} {pins : List (Addr × Obj)} {σ : St} {H : Hp} {s : Shared} {a : Addr} {kvs : List (Key × V)} {A : Around} {E : Value → Shared → Prop}
end


section
variable {X : Cx} {pins : List (Addr × Obj)} {σ : St} {H : Hp} {s : Shared} {a : Addr} {y : V} {u : Value} {A : Around} {E : Value → Shared → Prop}
end
end L2

namespace Att
open PySem PySem.W PySem.Calls PyProof.Rows

section
variable {prog : Program} {w : World} {A : Around} {E : Value → Shared → Prop} {s : Shared} {K : Frag}

end
end Att

namespace L2
open PySem PySem.Spec PyProof.Rows

end L2

namespace L2
open PySem PySem.Spec PyProof.Rows

end L2

namespace L2
open PySem PySem.Spec PyProof.Rows

section
variable {X : Cx}
end

section
variable {κ : Type} [DecidableEq κ]
end
end L2


set_option maxHeartbeats 40000000
namespace G
open PySem L2
section
variable {D : Ends} {σ : St} {H H1 : Hp} {Q : VK} {t u : TS} {ta tb tc te : TE} {n : St → Hp → Prop} {r : VK} {b c : St → Hp → Prop}
theorem i_seq (h : t ⟨u ⟨n, r, b, c⟩, r, b, c⟩ σ H) : tSeq t u ⟨n, r, b, c⟩ σ H := h
theorem i_next (h : n σ H) : tNext ⟨n, r, b, c⟩ σ H := h
theorem i_drop (h : te σ H fun _ H1 => n σ H1) : tDrop te ⟨n, r, b, c⟩ σ H := h
theorem i_ret (h : te σ H r) : tRet te ⟨n, r, b, c⟩ σ H := h
theorem i_if {c' : TT} (h : c' σ H fun k H1 => if k = true then t ⟨n, r, b, c⟩ σ H1 else u ⟨n, r, b, c⟩ σ H1) : tIfS c' t u ⟨n, r, b, c⟩ σ H := h
theorem i_asg {g : TG} (h : te σ H fun x H1 => g x σ H1 n) : tAsg te g ⟨n, r, b, c⟩ σ H := h
theorem i_C {v : V} (h : Q v H) : tC v σ H Q := h
theorem i_op {f : R2} (h : ta σ H fun x H1 => tb σ H1 fun y H2 => f x y H2 Q) : tOp f ta tb σ H Q := h
theorem i_un {f : V → Hp → VK → Prop} (h : ta σ H fun x H1 => f x H1 Q) : tUn f ta σ H Q := h
def kB (q : Bool → Hp → Prop) : VK := fun x H' => ∃ k, x = .bl k ∧ q k H'
theorem i_B {k : Bool} {q : Bool → Hp → Prop} (h : q k H) : kB q (.bl k) H := ⟨k, rfl, h⟩
theorem i_test {q : Bool → Hp → Prop} (h : te σ H (kB q)) : tTest te σ H q := h
theorem i_tB {q : Bool → Hp → Prop} (h : te σ H (kB q)) : tB te σ H q := h
theorem i_and {t u : TT} {q : Bool → Hp → Prop} (h : t σ H fun k H1 => if k = true then u σ H1 q else q false H1) : tAnd t u σ H q := h
theorem i_or {t u : TT} {q : Bool → Hp → Prop} (h : t σ H fun k H1 => if k = true then q true H1 else u σ H1 q) : tOr t u σ H q := h
theorem i_not {t : TT} {q : Bool → Hp → Prop} (h : t σ H fun k H1 => q (!k) H1) : tNot t σ H q := h
theorem i_andV (h : ta σ H (kB fun k H1 => if k = true then tb σ H1 Q else Q (.bl false) H1)) : tAndV ta tb σ H Q := h
theorem i_notV (h : ta σ H (kB fun k H1 => Q (.bl (!k)) H1)) : tNotV ta σ H Q := h
theorem i_I0 {g : Int → Int → V} {i j : Int} (h : Q (g i j) H) : rI0 g (.int i) (.int j) H Q := ⟨i, j, rfl, rfl, h⟩
theorem i_I {C : Int → Int → Prop} {g : Int → Int → V} {i j : Int} (hc : C i j) (h : Q (g i j) H) : rI C g (.int i) (.int j) H Q := ⟨i, j, rfl, rfl, hc, h⟩
theorem i_U {g : Int → V} {i : Int} (h : Q (g i) H) : rU g (.int i) H Q := ⟨i, rfl, h⟩
theorem i_eqI {i j : Int} (h : Q (.bl (decide (i = j))) H) : rEq (.int i) (.int j) H Q := ⟨rfl, by rw [show decide (V.int i = V.int j) = decide (i = j) from decide_eq_decide.mpr ⟨fun e => V.int.inj e, fun e => by rw [e]⟩]; exact h⟩
theorem i_neI {i j : Int} (h : Q (.bl (!decide (i = j))) H) : rNe (.int i) (.int j) H Q := ⟨rfl, by rw [show decide (V.int i = V.int j) = decide (i = j) from decide_eq_decide.mpr ⟨fun e => V.int.inj e, fun e => by rw [e]⟩]; exact h⟩
def rIsN : R2 := fun x y H Q => y = .non ∧ Q (.bl (decide (x = .non))) H
def rNotN : R2 := fun x y H Q => y = .non ∧ Q (.bl (!decide (x = .non))) H
theorem i_isN0 (h : Q (.bl true) H) : rIsN .non .non H Q := ⟨rfl, h⟩
theorem i_isN1 {i : Int} (h : Q (.bl false) H) : rIsN (.int i) .non H Q := ⟨rfl, h⟩
theorem i_isN3 {i : Addr} (h : Q (.bl false) H) : rIsN (.ref i) .non H Q := ⟨rfl, h⟩
theorem i_notN3 {i : Addr} (h : Q (.bl true) H) : rNotN (.ref i) .non H Q := ⟨rfl, h⟩
theorem i_iteT {A B : Prop} (h : A) : if true = true then A else B := iteT h
theorem i_iteF {A B : Prop} (h : B) : if false = true then A else B := iteF h
theorem i_iteNT {A B : Prop} (h : B) : if (!true) = true then A else B := iteF h
theorem i_iteNF {A B : Prop} (h : A) : if (!false) = true then A else B := iteT h
theorem ifd {p A B : Prop} [Decidable p] (h1 : p → A) (h2 : ¬ p → B) : if decide p = true then A else B := ite2 (fun e => h1 (of_decide_eq_true e)) (fun e => h2 (fun q => e (decide_eq_true q)))
theorem ifnd {p A B : Prop} [Decidable p] (h1 : ¬ p → A) (h2 : p → B) : if (!decide p) = true then A else B := ite2 (fun e => h1 (by simpa using e)) (fun e => h2 (by simpa using e))
theorem i_nil {q : List V → Hp → Prop} (h : q [] H) : tNil σ H q := h
theorem i_cons {q : List V → Hp → Prop} {t : TA} (h : ta σ H fun x H1 => t σ H1 fun xs H2 => q (x :: xs) H2) : tCons ta t σ H q := h
theorem i_lst {t : TA} (h : t σ H fun xs H1 => xs.length ≤ sizeLine ∧ ∀ p, H1 p = none → Q (.ref p) (upd H1 p (.lst xs))) : tLst t σ H Q := h
theorem i_tup {t : TA} (h : t σ H fun xs H1 => xs.length ≤ sizeLine ∧ ∀ p, H1 p = none → Q (.ref p) (upd H1 p (.tup xs))) : tTup t σ H Q := h
theorem i_call {t : TA} {sp : Sp} {dvs : List V} {E : XK} (h : t σ H fun vs H1 => sp (vs ++ dvs) H1 Q E) : tCall sp dvs E t σ H Q := h
theorem i_CB {t : TA} {f : List V → Hp → VK → Prop} (h : t σ H fun vs H1 => f vs H1 Q) : tCB f t σ H Q := h
theorem i_make {t : TA} {sp : Sp} {dvs : List V} {E : XK} {C : Addr} (h : t σ H fun vs H1 => ∀ x dx, H1 x = none → H1 dx = none → dx ≠ x → sp (.ref x :: (vs ++ dvs)) (upd (upd H1 dx (.own x)) x (.ins C dx [])) (fun v H2 => v = .non ∧ Q (.ref x) H2) E) : tMake C sp dvs E t σ H Q := h
def kFld (K : PySem.W.Frag) (f : Str) (Q : VK) : VK := fun x H1 => ∃ a C dx fs v, x = .ref a ∧ H1 a = some (.ins C dx fs) ∧ Cls K C ∧ NoAttr K C f ∧ fs.lookup f = some v ∧ Q v H1
theorem i_fld {K : PySem.W.Frag} {f : Str} (h : ta σ H (kFld K f Q)) : tFld K ta f σ H Q := h
theorem i_fldK {K : PySem.W.Frag} {f : Str} {a C dx : Addr} {fs : List (Str × V)} {v : V} (h : H a = some (.ins C dx fs)) (hc : Cls K C) (hn : NoAttr K C f) (hl : fs.lookup f = some v) (q : Q v H) : kFld K f Q (.ref a) H := ⟨a, C, dx, fs, v, rfl, h, hc, hn, hl, q⟩
theorem i_sfld {K : PySem.W.Frag} {f : Str} {tv : TE} (h : tv σ H fun y H1 => ta σ H1 fun x H2 => ∃ a C dx fs, x = .ref a ∧ H2 a = some (.ins C dx fs) ∧ Cls K C ∧ NoAttr K C f ∧ fs.length < 1000 ∧ n σ (upd H2 a (.ins C dx (putF f y fs)))) : sFld K ta tv f ⟨n, r, b, c⟩ σ H := h
theorem i_meth {C : Addr} {m : Str} {sp : Sp} {dvs : List V} {E : XK} {t : TA} (h : ta σ H fun x H1 => ∃ a dx fs, x = .ref a ∧ H1 a = some (.ins C dx fs) ∧ fs.lookup m = none ∧ t σ H1 fun vs H2 => sp (x :: (vs ++ dvs)) H2 Q E) : tMeth C m sp dvs E ta t σ H Q := h
theorem i_noPart {q : Option Int → Hp → Prop} (h : q none H) : tNoPart σ H q := h
def kI (q : Int → Hp → Prop) : VK := fun x H1 => ∃ i, x = .int i ∧ q i H1
theorem i_part {q : Option Int → Hp → Prop} (h : te σ H (kI fun i => q (some i))) : tPart te σ H q := h
theorem i_kI {i : Int} {q : Int → Hp → Prop} (h : q i H) : kI q (.int i) H := ⟨i, rfl, h⟩
theorem i_sl {f : V → Option Int → Option Int → Hp → VK → Prop} {tl th : TO} (h : te σ H fun x H1 => tl σ H1 fun l H2 => th σ H2 fun u H3 => f x l u H3 Q) : tSl f te tl th σ H Q := h
theorem i_bm {K : PySem.W.Frag} {T : String} {f : V → List V → Hp → VK → Prop} {to : TE} {t : TA} (h : to σ H fun x H1 => tyV K T x H1 ∧ t σ H1 fun xs H2 => f x xs H2 Q) : tBM K T f to t σ H Q := h
theorem i_for {wi : TI} {g : TG} {tb : TS} (h : wi σ H fun J H1 => ∃ W : Nat → Nat → St → Hp → Prop, (∃ m, W 0 m σ H1) ∧ ∀ i m σ H, W i m σ H →
  (J.stop i H ∧ n σ H) ∨ (J.go i H ∧ ∃ N : St → Hp → Prop, (∀ σ' H', N σ' H' → ∃ m', m' < m ∧ W (i + 1) m' σ' H') ∧ ∀ x H', J.yld i H x H' → g x σ H' fun σ2 H2 => tb ⟨N, r, n, N⟩ σ2 H2)) : tFor wi g tb ⟨n, r, b, c⟩ σ H := h
theorem i_iL {K : PySem.W.Frag} {R : It → Hp → Prop} (h : te σ H fun x H1 => ∃ a, x = .ref a ∧ (∃ xs, SqL K H1 a xs) ∧ R (Itl K a) H1) : iList K te σ H R := h
theorem i_iR {ta : TA} {R : It → Hp → Prop} (h : ta σ H fun vs H1 => ∃ j : Int, vs = [.int j] ∧ -(2 ^ 62) ≤ j ∧ j < 2 ^ 62 ∧ R (Itr 0 j.toNat) H1) : iRng1 ta σ H R := h
end
theorem i_v0 {v : V} {l : St} {H : Hp} {Q : VK} (h : Q v H) : tVar 0 (some v :: l) H Q := ⟨v, rfl, h⟩
theorem i_v1 {x0 : Option V} {v : V} {l : St} {H : Hp} {Q : VK} (h : Q v H) : tVar 1 (x0 :: some v :: l) H Q := ⟨v, rfl, h⟩
theorem i_g1 {x0 : Option V} {y : Option V} {v : V} {l : St} {H : Hp} {Q : St → Hp → Prop} (h : Q (x0 :: some v :: l) H) : gName 1 v (x0 :: y :: l) H Q := h
theorem i_v2 {x0 x1 : Option V} {v : V} {l : St} {H : Hp} {Q : VK} (h : Q v H) : tVar 2 (x0 :: x1 :: some v :: l) H Q := ⟨v, rfl, h⟩
theorem i_g2 {x0 x1 : Option V} {y : Option V} {v : V} {l : St} {H : Hp} {Q : St → Hp → Prop} (h : Q (x0 :: x1 :: some v :: l) H) : gName 2 v (x0 :: x1 :: y :: l) H Q := h
theorem i_v3 {x0 x1 x2 : Option V} {v : V} {l : St} {H : Hp} {Q : VK} (h : Q v H) : tVar 3 (x0 :: x1 :: x2 :: some v :: l) H Q := ⟨v, rfl, h⟩
theorem i_g3 {x0 x1 x2 : Option V} {y : Option V} {v : V} {l : St} {H : Hp} {Q : St → Hp → Prop} (h : Q (x0 :: x1 :: x2 :: some v :: l) H) : gName 3 v (x0 :: x1 :: x2 :: y :: l) H Q := h
theorem i_v4 {x0 x1 x2 x3 : Option V} {v : V} {l : St} {H : Hp} {Q : VK} (h : Q v H) : tVar 4 (x0 :: x1 :: x2 :: x3 :: some v :: l) H Q := ⟨v, rfl, h⟩
theorem i_g4 {x0 x1 x2 x3 : Option V} {y : Option V} {v : V} {l : St} {H : Hp} {Q : St → Hp → Prop} (h : Q (x0 :: x1 :: x2 :: x3 :: some v :: l) H) : gName 4 v (x0 :: x1 :: x2 :: x3 :: y :: l) H Q := h
theorem i_v5 {x0 x1 x2 x3 x4 : Option V} {v : V} {l : St} {H : Hp} {Q : VK} (h : Q v H) : tVar 5 (x0 :: x1 :: x2 :: x3 :: x4 :: some v :: l) H Q := ⟨v, rfl, h⟩
theorem i_g5 {x0 x1 x2 x3 x4 : Option V} {y : Option V} {v : V} {l : St} {H : Hp} {Q : St → Hp → Prop} (h : Q (x0 :: x1 :: x2 :: x3 :: x4 :: some v :: l) H) : gName 5 v (x0 :: x1 :: x2 :: x3 :: x4 :: y :: l) H Q := h
theorem i_v6 {x0 x1 x2 x3 x4 x5 : Option V} {v : V} {l : St} {H : Hp} {Q : VK} (h : Q v H) : tVar 6 (x0 :: x1 :: x2 :: x3 :: x4 :: x5 :: some v :: l) H Q := ⟨v, rfl, h⟩
theorem i_g6 {x0 x1 x2 x3 x4 x5 : Option V} {y : Option V} {v : V} {l : St} {H : Hp} {Q : St → Hp → Prop} (h : Q (x0 :: x1 :: x2 :: x3 :: x4 :: x5 :: some v :: l) H) : gName 6 v (x0 :: x1 :: x2 :: x3 :: x4 :: x5 :: y :: l) H Q := h
theorem i_v7 {x0 x1 x2 x3 x4 x5 x6 : Option V} {v : V} {l : St} {H : Hp} {Q : VK} (h : Q v H) : tVar 7 (x0 :: x1 :: x2 :: x3 :: x4 :: x5 :: x6 :: some v :: l) H Q := ⟨v, rfl, h⟩
theorem i_g7 {x0 x1 x2 x3 x4 x5 x6 : Option V} {y : Option V} {v : V} {l : St} {H : Hp} {Q : St → Hp → Prop} (h : Q (x0 :: x1 :: x2 :: x3 :: x4 :: x5 :: x6 :: some v :: l) H) : gName 7 v (x0 :: x1 :: x2 :: x3 :: x4 :: x5 :: x6 :: y :: l) H Q := h
theorem i_v8 {x0 x1 x2 x3 x4 x5 x6 x7 : Option V} {v : V} {l : St} {H : Hp} {Q : VK} (h : Q v H) : tVar 8 (x0 :: x1 :: x2 :: x3 :: x4 :: x5 :: x6 :: x7 :: some v :: l) H Q := ⟨v, rfl, h⟩
theorem i_g8 {x0 x1 x2 x3 x4 x5 x6 x7 : Option V} {y : Option V} {v : V} {l : St} {H : Hp} {Q : St → Hp → Prop} (h : Q (x0 :: x1 :: x2 :: x3 :: x4 :: x5 :: x6 :: x7 :: some v :: l) H) : gName 8 v (x0 :: x1 :: x2 :: x3 :: x4 :: x5 :: x6 :: x7 :: y :: l) H Q := h
theorem i_v9 {x0 x1 x2 x3 x4 x5 x6 x7 x8 : Option V} {v : V} {l : St} {H : Hp} {Q : VK} (h : Q v H) : tVar 9 (x0 :: x1 :: x2 :: x3 :: x4 :: x5 :: x6 :: x7 :: x8 :: some v :: l) H Q := ⟨v, rfl, h⟩
theorem i_g9 {x0 x1 x2 x3 x4 x5 x6 x7 x8 : Option V} {y : Option V} {v : V} {l : St} {H : Hp} {Q : St → Hp → Prop} (h : Q (x0 :: x1 :: x2 :: x3 :: x4 :: x5 :: x6 :: x7 :: x8 :: some v :: l) H) : gName 9 v (x0 :: x1 :: x2 :: x3 :: x4 :: x5 :: x6 :: x7 :: x8 :: y :: l) H Q := h
end G
namespace G
open PySem L2
def tyN (H : Hp) : V → Option String
  | .non => some "NoneType"
  | .bl _ => some "bool"
  | .int _ => some "int"
  | .str _ => some "str"
  | .ref a => match H a with
    | some (.lst _) => some "list"
    | some (.frz _ (.lst _)) => some "list"
    | some (.tup _) => some "tuple"
    | some (.dK _) => some "dict"
    | some (.dT _) => some "dict"
    | _ => none
  | _ => none
def isK (t n : String) : Option Bool := if ["int", "bool", "str", "list", "tuple", "dict"].contains n then some (t == n || (t == "bool" && n == "int")) else none
def cIsi : List V → Hp → VK → Prop := fun xs H Q => ∃ x n t k, xs = [x, .ty n] ∧ tyN H x = some t ∧ isK t n = some k ∧ Q (.bl k) H
theorem isK_int_int : isK "int" "int" = some true := by decide +kernel
theorem isK_int_bool : isK "int" "bool" = some false := by decide +kernel
theorem isK_int_str : isK "int" "str" = some false := by decide +kernel
theorem isK_int_list : isK "int" "list" = some false := by decide +kernel
theorem isK_int_tuple : isK "int" "tuple" = some false := by decide +kernel
theorem isK_int_dict : isK "int" "dict" = some false := by decide +kernel
theorem isK_bool_int : isK "bool" "int" = some true := by decide +kernel
theorem isK_bool_bool : isK "bool" "bool" = some true := by decide +kernel
theorem isK_bool_str : isK "bool" "str" = some false := by decide +kernel
theorem isK_bool_list : isK "bool" "list" = some false := by decide +kernel
theorem isK_bool_tuple : isK "bool" "tuple" = some false := by decide +kernel
theorem isK_bool_dict : isK "bool" "dict" = some false := by decide +kernel
theorem isK_str_int : isK "str" "int" = some false := by decide +kernel
theorem isK_str_bool : isK "str" "bool" = some false := by decide +kernel
theorem isK_str_str : isK "str" "str" = some true := by decide +kernel
theorem isK_str_list : isK "str" "list" = some false := by decide +kernel
theorem isK_str_tuple : isK "str" "tuple" = some false := by decide +kernel
theorem isK_str_dict : isK "str" "dict" = some false := by decide +kernel
theorem isK_NoneType_int : isK "NoneType" "int" = some false := by decide +kernel
theorem isK_NoneType_bool : isK "NoneType" "bool" = some false := by decide +kernel
theorem isK_NoneType_str : isK "NoneType" "str" = some false := by decide +kernel
theorem isK_NoneType_list : isK "NoneType" "list" = some false := by decide +kernel
theorem isK_NoneType_tuple : isK "NoneType" "tuple" = some false := by decide +kernel
theorem isK_NoneType_dict : isK "NoneType" "dict" = some false := by decide +kernel
theorem isK_list_int : isK "list" "int" = some false := by decide +kernel
theorem isK_list_bool : isK "list" "bool" = some false := by decide +kernel
theorem isK_list_str : isK "list" "str" = some false := by decide +kernel
theorem isK_list_list : isK "list" "list" = some true := by decide +kernel
theorem isK_list_tuple : isK "list" "tuple" = some false := by decide +kernel
theorem isK_list_dict : isK "list" "dict" = some false := by decide +kernel
theorem isK_tuple_int : isK "tuple" "int" = some false := by decide +kernel
theorem isK_tuple_bool : isK "tuple" "bool" = some false := by decide +kernel
theorem isK_tuple_str : isK "tuple" "str" = some false := by decide +kernel
theorem isK_tuple_list : isK "tuple" "list" = some false := by decide +kernel
theorem isK_tuple_tuple : isK "tuple" "tuple" = some true := by decide +kernel
theorem isK_tuple_dict : isK "tuple" "dict" = some false := by decide +kernel
theorem isK_dict_int : isK "dict" "int" = some false := by decide +kernel
theorem isK_dict_bool : isK "dict" "bool" = some false := by decide +kernel
theorem isK_dict_str : isK "dict" "str" = some false := by decide +kernel
theorem isK_dict_list : isK "dict" "list" = some false := by decide +kernel
theorem isK_dict_tuple : isK "dict" "tuple" = some false := by decide +kernel
theorem isK_dict_dict : isK "dict" "dict" = some true := by decide +kernel
theorem i_isiI_int {i : Int} {H : Hp} {Q : VK} (h : Q (.bl true) H) : cIsi [.int i, .ty "int"] H Q := ⟨_, _, _, _, rfl, rfl, isK_int_int, h⟩
theorem i_isiI_bool {i : Int} {H : Hp} {Q : VK} (h : Q (.bl false) H) : cIsi [.int i, .ty "bool"] H Q := ⟨_, _, _, _, rfl, rfl, isK_int_bool, h⟩
theorem i_isiL_list {a : Addr} {H : Hp} {Q : VK} {xs : List V} (hp : H a = some (.lst xs)) (h : Q (.bl true) H) : cIsi [.ref a, .ty "list"] H Q := ⟨_, _, _, _, rfl, (by show (match H a with | some (.lst _) => some "list" | some (.frz _ (.lst _)) => some "list" | some (.tup _) => some "tuple" | some (.dK _) => some "dict" | some (.dT _) => some "dict" | _ => none) = some "list"; rw [hp]), isK_list_list, h⟩
theorem i_isiT_tuple {a : Addr} {H : Hp} {Q : VK} {xs : List V} (hp : H a = some (.tup xs)) (h : Q (.bl true) H) : cIsi [.ref a, .ty "tuple"] H Q := ⟨_, _, _, _, rfl, (by show (match H a with | some (.lst _) => some "list" | some (.frz _ (.lst _)) => some "list" | some (.tup _) => some "tuple" | some (.dK _) => some "dict" | some (.dT _) => some "dict" | _ => none) = some "tuple"; rw [hp]), isK_tuple_tuple, h⟩
def cLenL (K : PySem.W.Frag) : List V → Hp → VK → Prop := fun xs H Q => ∃ p ys, xs = [.ref p] ∧ (SqL K H p ys ∨ SqT K H p ys) ∧ Q (.int ys.length) H
theorem i_lenL {K : PySem.W.Frag} {a : Addr} {H : Hp} {Q : VK} {xs : List V} (hp : SqL K H a xs) (h : Q (.int xs.length) H) : cLenL K [.ref a] H Q := ⟨a, xs, rfl, .inl hp, h⟩
theorem i_ixL {K : PySem.W.Frag} {a : Addr} {H : Hp} {Q : VK} {xs : List V} {i : Int} {v : V} (hp : SqL K H a xs) (hi : atI xs i = some v) (h : Q v H) : rIxL K (.ref a) (.int i) H Q := ⟨a, xs, i, v, rfl, rfl, hp, hi, h⟩
section
variable {K : PySem.W.Frag} {a : Addr} {xs : List V} {g : TG} {tb : TS} {σ : St} {H : Hp} {n : St → Hp → Prop} {r : VK}
theorem forL (xs : List V) (Pv : Nat → St → Hp → Prop) (h0 : Pv 0 σ H) (hl : ∀ i σ H, i ≤ xs.length → Pv i σ H → SqL K H a xs)
    (hs : ∀ i x σ H, xs[i]? = some x → Pv i σ H → g x σ H fun σ2 H2 => tb ⟨Pv (i + 1), r, n, Pv (i + 1)⟩ σ2 H2) (hd : ∀ σ H, Pv xs.length σ H → n σ H) :
    ∃ W : Nat → Nat → St → Hp → Prop, (∃ m, W 0 m σ H) ∧ ∀ i m σ H, W i m σ H →
      ((Itl K a).stop i H ∧ n σ H) ∨ ((Itl K a).go i H ∧ ∃ N : St → Hp → Prop, (∀ σ' H', N σ' H' → ∃ m', m' < m ∧ W (i + 1) m' σ' H') ∧ ∀ x H', (Itl K a).yld i H x H' → g x σ H' fun σ2 H2 => tb ⟨N, r, n, N⟩ σ2 H2) :=
  for_list (D := ⟨n, r, fun _ _ => False, fun _ _ => False⟩) Pv h0 hl hs hd
theorem forR {lo : Int} {k : Nat} (Pv : Nat → St → Hp → Prop) (h0 : Pv 0 σ H)
    (hs : ∀ i σ H, i < k → Pv i σ H → g (.int (lo + i)) σ H fun σ2 H2 => tb ⟨Pv (i + 1), r, n, Pv (i + 1)⟩ σ2 H2) (hd : ∀ σ H, Pv k σ H → n σ H) :
    ∃ W : Nat → Nat → St → Hp → Prop, (∃ m, W 0 m σ H) ∧ ∀ i m σ H, W i m σ H →
      ((Itr lo k).stop i H ∧ n σ H) ∨ ((Itr lo k).go i H ∧ ∃ N : St → Hp → Prop, (∀ σ' H', N σ' H' → ∃ m', m' < m ∧ W (i + 1) m' σ' H') ∧ ∀ x H', (Itr lo k).yld i H x H' → g x σ H' fun σ2 H2 => tb ⟨N, r, n, N⟩ σ2 H2) :=
  for_range (D := ⟨n, r, fun _ _ => False, fun _ _ => False⟩) Pv h0 hs hd
end
theorem len_ok {n : Nat} (h : n ≤ 1000000) : n ≤ sizeLine := Nat.le_trans h (by decide)
end G
namespace G
open PySem L2
def pick (σ : St) (j : Nat) : Option V := match σ[j]? with
  | some v => v
  | none => none
def tLC (wi : TI) (caps : List Nat) (tc : TT) (te : TE) : TE := fun σ H Q => wi σ H fun J H1 => ∃ W : Nat → Nat → List V → Hp → Prop, (∃ m, W 0 m [] H1) ∧ ∀ i m ys H, W i m ys H →
  (J.stop i H ∧ ∀ p, H p = none → Q (.ref p) (upd H p (.lst ys))) ∨
  (J.go i H ∧ ys.length < sizeLine ∧ ∀ x H', J.yld i H x H' → tc (some x :: caps.map (pick σ)) H' fun k H2 => if k = true then te (some x :: caps.map (pick σ)) H2 (fun y H3 => ∃ m', m' < m ∧ W (i + 1) m' (ys ++ [y]) H3) else ∃ m', m' < m ∧ W (i + 1) m' ys H2)
def tTrue : TT := fun _ H Q => Q true H
end G
namespace G
open PySem L2
def cMax : List V → Hp → VK → Prop := fun xs H Q => ∃ i j, xs = [.int i, .int j] ∧ Q (.int (if j > i then j else i)) H
theorem i_max {i j : Int} {H : Hp} {Q : VK} (h : Q (.int (if j > i then j else i)) H) : cMax [.int i, .int j] H Q := ⟨i, j, rfl, h⟩
end G
namespace G
open PySem L2
structure EqD (K : PySem.W.Frag) (C : Addr) : Prop where
  eq : PySem.W.findIn K (.ref C) "__eq__" = some (some (.builtin "object.__eq__"))
  ob : PySem.W.mroIn K C (.type "object") = some true
end G
namespace G
open PySem L2
def tRaise (C : Addr) (E : XK) (ta : TA) : TS := fun _ σ H => ta σ H fun vs H1 => vs.length ≤ 100 ∧ E (.ref C) none H1
section
variable {σ : St} {H : Hp} {Q : VK} {n : St → Hp → Prop} {r : VK} {b c : St → Hp → Prop} {te : TE} {t : TA}
theorem i_raise {C : Addr} {E : XK} (h : t σ H fun vs H1 => vs.length ≤ 100 ∧ E (.ref C) none H1) : tRaise C E t ⟨n, r, b, c⟩ σ H := h
end
theorem i_gsub {to ti : TE} {ts : TSet} {x : V} {σ : St} {H : Hp} {Q : St → Hp → Prop} (h : to σ H fun o H1 => ti σ H1 fun i H2 => ts o i x H2 fun H3 => Q σ H3) : gSub to ti ts x σ H Q := h
def cListL (K : PySem.W.Frag) : List V → Hp → VK → Prop := fun xs H Q => ∃ (p : Addr) (ys : List V), xs = [.ref p] ∧ SqL K H p ys ∧ ∀ l, H l = none → Q (.ref l) (upd H l (.lst ys))
theorem i_listL {K : PySem.W.Frag} {H : Hp} {Q : VK} {p : Addr} {ys : List V} (h1 : SqL K H p ys) (h : ∀ l, H l = none → Q (.ref l) (upd H l (.lst ys))) : cListL K [.ref p] H Q := ⟨p, ys, rfl, h1, h⟩
def OkN (K : PySem.W.Frag) (H : Hp) (xs : List V) : Prop := ∀ y ∈ xs, y = .non ∨ ∃ a C dx fs, y = .ref a ∧ H a = some (.ins C dx fs) ∧ Cls K C ∧ EqD K C
def rInN (K : PySem.W.Frag) (neg : Bool) : R2 := fun x y H Q => ∃ p xs, x = .non ∧ y = .ref p ∧ SqL K H p xs ∧ OkN K H xs ∧ Q (.bl (if neg then !decide (V.non ∈ xs) else decide (V.non ∈ xs))) H
theorem i_notInN {K : PySem.W.Frag} {H : Hp} {Q : VK} {p : Addr} {xs : List V} (h1 : SqL K H p xs) (h2 : OkN K H xs) (h : Q (.bl (!decide (V.non ∈ xs))) H) : rInN K true .non (.ref p) H Q := ⟨p, xs, rfl, rfl, h1, h2, h⟩
def rIndexN (K : PySem.W.Frag) : V → List V → Hp → VK → Prop := fun x vs H Q => ∃ p xs, x = .ref p ∧ vs = [.non] ∧ SqL K H p xs ∧ OkN K H xs ∧ V.non ∈ xs ∧ Q (.int (xs.idxOf V.non)) H
def Fm (S : List Addr) (H H' : Hp) : Prop := ∀ b o, H b = some o → b ∉ S → H' b = some o
theorem i_notN {x : V} {H : Hp} {Q : VK} (h : Q (.bl (!decide (x = .non))) H) : rNotN x .non H Q := ⟨rfl, h⟩
def LCg (J : It) (caps : List Nat) (tc : TT) (te : TE) (σ : St) (H : Hp) (Q : VK) : Prop := ∃ W : Nat → Nat → List V → Hp → Prop, (∃ m, W 0 m [] H) ∧ ∀ i m ys H, W i m ys H →
  (J.stop i H ∧ ∀ p, H p = none → Q (.ref p) (upd H p (.lst ys))) ∨
  (J.go i H ∧ ys.length < sizeLine ∧ ∀ x H', J.yld i H x H' → tc (some x :: caps.map (pick σ)) H' fun k H2 => if k = true then te (some x :: caps.map (pick σ)) H2 (fun y H3 => ∃ m', m' < m ∧ W (i + 1) m' (ys ++ [y]) H3) else ∃ m', m' < m ∧ W (i + 1) m' ys H2)
theorem i_lcg {wi : TI} {caps : List Nat} {tc : TT} {te : TE} {σ : St} {H : Hp} {Q : VK} (h : wi σ H fun J H1 => LCg J caps tc te σ H1 Q) : tLC wi caps tc te σ H Q := h
theorem lc_src {J : It} {caps : List Nat} {tc : TT} {te : TE} {σ : St} {H : Hp} {Q : VK} (k : Nat) (hz : k ≤ 1000000) (g : Nat → Option V)
    (hstop : J.stop k H) (hgo : ∀ i, i < k → J.go i H) (hy : ∀ i x H', i < k → J.yld i H x H' → H' = H ∧ (∀ q : Bool → Hp → Prop, q (g i).isSome H → tc (some x :: caps.map (pick σ)) H q) ∧ ∀ (y : V) (q : VK), g i = some y → q y H → te (some x :: caps.map (pick σ)) H q)
    (q : ∀ p, H p = none → Q (.ref p) (upd H p (.lst ((List.range k).filterMap g)))) :
    LCg J caps tc te σ H Q := by
  refine ⟨fun i m ys H' => H' = H ∧ i ≤ k ∧ m = k - i ∧ ys = (List.range i).filterMap g, ⟨k, rfl, Nat.zero_le _, rfl, rfl⟩, ?_⟩
  rintro i m ys _ ⟨rfl, hi, rfl, rfl⟩
  by_cases hk : i = k
  · subst hk
    exact .inl ⟨hstop, q⟩
  · have hlt : i < k := by omega
    refine .inr ⟨hgo i hlt, ?_, fun x H' y => ?_⟩
    · refine Nat.lt_of_le_of_lt (Nat.le_trans (List.length_filterMap_le _ _) ?_) (show 1000000 < sizeLine by decide)
      rw [List.length_range]; omega
    · obtain ⟨rfl, h1, h2⟩ := hy i x H' hlt y
      refine h1 _ ?_
      have er : List.filterMap g (List.range (i + 1)) = List.filterMap g (List.range i) ++ (match g i with | some y => [y] | none => []) := by
        rw [List.range_succ, List.filterMap_append]
        cases e : g i with
        | none => rw [List.filterMap_cons_none e]; rfl
        | some y => rw [List.filterMap_cons_some e]; rfl
      cases e : g i with
      | none =>
        rw [e] at er
        dsimp only [Option.isSome]
        refine iteF ⟨k - (i + 1), by omega, rfl, by omega, rfl, ?_⟩
        rw [er, List.append_nil]
      | some y =>
        rw [e] at er
        dsimp only [Option.isSome]
        refine iteT (h2 y _ e ⟨k - (i + 1), by omega, rfl, by omega, rfl, ?_⟩)
        rw [er]
theorem ixN_nat {n i : Nat} (h : i < n) : ixN n (i : Int) = some i := by
  unfold ixN
  rw [if_pos (by omega), if_pos (by omega)]; simp
theorem ixN_int {n : Nat} {i : Int} (h0 : 0 ≤ i) (h : i.toNat < n) : ixN n i = some i.toNat := by
  have e : i = ((i.toNat : Nat) : Int) := by omega
  have := ixN_nat h
  rw [← e] at this; exact this
theorem atI_int {α : Type} {xs : List α} {i : Int} {v : α} (h0 : 0 ≤ i) (h : xs[i.toNat]? = some v) : atI xs i = some v := by
  have e : i = ((i.toNat : Nat) : Int) := by omega
  have := atI_nat h
  rw [← e] at this; exact this
end G
namespace G
open PySem L2
inductive Al {α β : Type} (P : α → β → Prop) : List α → List β → Prop
  | nil : Al P [] []
  | cons {x : α} {y : β} {xs : List α} {ys : List β} : P x y → Al P xs ys → Al P (x :: xs) (y :: ys)
section
variable {α β : Type} {P P' : α → β → Prop} {xs : List α} {ys : List β}
end
end G
namespace G
open PySem L2
abbrev Tg := Addr → Nat × Nat
def WT (H : Hp) (T : Tg) : Prop := ∀ b, H b = none → T b = (0, 0)
structure Stp (s : Nat) (H H' : Hp) (T T' : Tg) : Prop where
  kp : ∀ b o, H b = some o → (T b).1 ≠ s → H' b = some o
  al : ∀ b o, H b = some o → ∃ o', H' b = some o'
  tg : ∀ b o, H b = some o → T' b = T b
  wt : WT H' T'
end G
namespace G
open PySem L2
theorem lc_new {J : It} {caps : List Nat} {tc : TT} {te : TE} {σ : St} {H : Hp} {Q : VK} (k : Nat) (hz : k ≤ 1000000) (R : Nat → V → Hp → Prop) (mono : ∀ i y H1 H2, R i y H1 → Same H1 H2 → R i y H2)
    (hstop : ∀ H', Same H H' → J.stop k H') (hgo : ∀ i H', i < k → Same H H' → J.go i H')
    (hy : ∀ i x H1 H', i < k → Same H H1 → J.yld i H1 x H' → H' = H1 ∧ (∀ q : Bool → Hp → Prop, q true H1 → tc (some x :: caps.map (pick σ)) H1 q) ∧ ∀ q : VK, (∀ y H2, Same H1 H2 → R i y H2 → q y H2) → te (some x :: caps.map (pick σ)) H1 q)
    (q : ∀ ys H', Same H H' → ys.length = k → (∀ (i : Nat) y, ys[i]? = some y → R i y H') → ∀ p, H' p = none → Q (.ref p) (upd H' p (.lst ys))) :
    LCg J caps tc te σ H Q := by
  refine ⟨fun i m ys H' => Same H H' ∧ i ≤ k ∧ m = k - i ∧ ys.length = i ∧ ∀ (j : Nat) y, ys[j]? = some y → R j y H', ⟨k, Same.refl _, Nat.zero_le _, rfl, rfl, fun j y e => by simp at e⟩, ?_⟩
  rintro i m ys H1 ⟨s1, hi, rfl, hl, hr⟩
  by_cases hk : i = k
  · subst hk
    exact .inl ⟨hstop H1 s1, q ys H1 s1 hl hr⟩
  · have hlt : i < k := by omega
    refine .inr ⟨hgo i H1 hlt s1, Nat.lt_of_le_of_lt (show ys.length ≤ 1000000 by omega) (show 1000000 < sizeLine by decide), fun x H' y => ?_⟩
    obtain ⟨rfl, h1, h2⟩ := hy i x H1 H' hlt s1 y
    refine h1 _ (iteT (h2 _ fun y H2 s2 r => ⟨k - (i + 1), by omega, s1.trans s2, by omega, rfl, by rw [List.length_append, hl]; rfl, fun j z e => ?_⟩))
    by_cases hj : j < ys.length
    · rw [List.getElem?_append_left hj] at e
      exact mono j z _ _ (hr j z e) s2
    · have hj' := (List.getElem?_eq_some_iff.mp e).1
      rw [List.length_append, List.length_singleton] at hj'
      have ej : j = ys.length := by omega
      subst ej
      rw [List.getElem?_append_right (Nat.le_refl _), Nat.sub_self] at e
      cases e
      rw [hl]
      exact r
theorem lc_newL {K : PySem.W.Frag} {a : Addr} {xs : List V} {caps : List Nat} {tc : TT} {te : TE} {σ : St} {H : Hp} {Q : VK} (hs : SqL K H a xs) (hz : xs.length ≤ 1000000) (R : Nat → V → Hp → Prop) (mono : ∀ i y H1 H2, R i y H1 → Same H1 H2 → R i y H2)
    (htc : ∀ x H1, ∀ q : Bool → Hp → Prop, q true H1 → tc (some x :: caps.map (pick σ)) H1 q)
    (hte : ∀ (i : Nat) x H1, xs[i]? = some x → Same H H1 → ∀ q : VK, (∀ y H2, Same H1 H2 → R i y H2 → q y H2) → te (some x :: caps.map (pick σ)) H1 q)
    (q : ∀ ys H', Same H H' → ys.length = xs.length → (∀ (i : Nat) y, ys[i]? = some y → R i y H') → ∀ p, H' p = none → Q (.ref p) (upd H' p (.lst ys))) : LCg (Itl K a) caps tc te σ H Q := by
  refine lc_new xs.length hz R mono (fun H' s => ⟨xs, s.seq hs, Nat.le_refl _⟩) (fun i H' hi s => ⟨xs, xs[i], s.seq hs, List.getElem?_eq_getElem hi⟩) (fun i x H1 H' hi s1 y => ?_) q
  obtain ⟨e1, e2⟩ := y
  exact ⟨e1, htc x H1, fun q hq => hte i x H1 (e2 xs (s1.seq hs)) s1 q hq⟩
end G
namespace G
open PySem L2 PySem.Spec PyProof.Rows
theorem boot_isinstance : bootBuiltins "isinstance" = some (.builtin "isinstance") := by decide +kernel
theorem boot_len : bootBuiltins "len" = some (.builtin "len") := by decide +kernel
theorem boot_max : bootBuiltins "max" = some (.builtin "max") := by decide +kernel
theorem boot_int : bootBuiltins "int" = some (.type "int") := by decide +kernel
theorem boot_bool : bootBuiltins "bool" = some (.type "bool") := by decide +kernel
theorem boot_list : bootBuiltins "list" = some (.type "list") := by decide +kernel
theorem boot_tuple : bootBuiltins "tuple" = some (.type "tuple") := by decide +kernel
structure FunD (K : PySem.W.Frag) (x qual : Str) (st : Stmt) (f : Addr) (fd : FuncData) : Prop where
  ex : ∃ (oc : Value) (od : Option Addr) (dV kV doc pm : Value) (an : Option Addr) (cdv ct : Value) (osl : Array (Option Value)),
    fd = PySem.W.fnOf x qual (defArgs st) (defBody st) (defScope st) dV kV doc pm an cdv ct ∧ K.lookup f = some ⟨oc, od, .func fd, osl⟩ ∧ PySem.W.codeIn K cdv qual = true
  kp : PySem.W.keepIn K (.ref f) = true
section
variable {P : Program} {w : World} {K : PySem.W.Frag} {mg : Str → Option Value} {base : Heap}
theorem funD_mk {x qual : Str} {st : Stmt} {f : Addr} {oc dV : Value} {od an : Option Addr} {osl : Array (Option Value)} {kV doc pm cdv ct : Value} (l : K.lookup f = some ⟨oc, od, .func (PySem.W.fnOf x qual (defArgs st) (defBody st) (defScope st) dV kV doc pm an cdv ct), osl⟩)
    (c : PySem.W.codeIn K cdv qual = true) (k : PySem.W.keepIn K (.ref f) = true) : FunD K x qual st f (PySem.W.fnOf x qual (defArgs st) (defBody st) (defScope st) dV kV doc pm an cdv ct) := ⟨⟨oc, od, dV, kV, doc, pm, an, cdv, ct, osl, rfl, l, c⟩, k⟩
theorem bindsD {f td : Addr} {oc tc : Value} {od to_ : Option Addr} {osl ts : Array (Option Value)} {fd : FuncData} {items : Array Value} {tn : Nat} {ps : List Str} {ds : List Value} (_ : K.lookup f = some ⟨oc, od, .func fd, osl⟩) (t : K.lookup td = some ⟨tc, to_, .seq items tn, ts⟩)
    (h : ∀ us : List Value, us.length + ds.length = ps.length → ∃ k, bindArgs fd ⟨us, []⟩ = seqItems? (.ref td) >>= k ∧ k (some items) = pure (ps.zip (us ++ ds))) (hd : fd.defaults = .ref td := by rfl) : Binds K fd ps ds := by
  intro s us KX hl
  obtain ⟨k, h1, h2⟩ := h us (by rw [List.length_append] at hl; exact hl)
  exact BindsTo.of_defaults hd (KX _ _ t) rfl (by rw [h1, hd]) h2
end
section
variable {X : Cx}
theorem op_isN_ : OpR X (compareOp .Is) rIsN := op_isN
theorem op_notN_ : OpR X (compareOp .IsNot) rNotN := op_notN
theorem call_lenL : CallR X (.builtin "len") (cLenL X.K) := call_len_seq
def kk (t n : String) : Option Bool := if (Value.type t == Value.type n) = true then some true else if PySem.W.kitMeta n = true then (fastBuiltinMro t).map (·.contains (.type n)) else none
theorem kit_kk (K : PySem.W.Frag) (t n : String) : PySem.W.kitOne K (.type t) (.type n) = kk t n := rfl
theorem kk_int_int : kk "int" "int" = some true := by decide +kernel
theorem kk_int_bool : kk "int" "bool" = some false := by decide +kernel
theorem kk_int_str : kk "int" "str" = some false := by decide +kernel
theorem kk_int_list : kk "int" "list" = some false := by decide +kernel
theorem kk_int_tuple : kk "int" "tuple" = some false := by decide +kernel
theorem kk_int_dict : kk "int" "dict" = some false := by decide +kernel
theorem kk_bool_int : kk "bool" "int" = some true := by decide +kernel
theorem kk_bool_bool : kk "bool" "bool" = some true := by decide +kernel
theorem kk_bool_str : kk "bool" "str" = some false := by decide +kernel
theorem kk_bool_list : kk "bool" "list" = some false := by decide +kernel
theorem kk_bool_tuple : kk "bool" "tuple" = some false := by decide +kernel
theorem kk_bool_dict : kk "bool" "dict" = some false := by decide +kernel
theorem kk_str_int : kk "str" "int" = some false := by decide +kernel
theorem kk_str_bool : kk "str" "bool" = some false := by decide +kernel
theorem kk_str_str : kk "str" "str" = some true := by decide +kernel
theorem kk_str_list : kk "str" "list" = some false := by decide +kernel
theorem kk_str_tuple : kk "str" "tuple" = some false := by decide +kernel
theorem kk_str_dict : kk "str" "dict" = some false := by decide +kernel
theorem kk_NoneType_int : kk "NoneType" "int" = some false := by decide +kernel
theorem kk_NoneType_bool : kk "NoneType" "bool" = some false := by decide +kernel
theorem kk_NoneType_str : kk "NoneType" "str" = some false := by decide +kernel
theorem kk_NoneType_list : kk "NoneType" "list" = some false := by decide +kernel
theorem kk_NoneType_tuple : kk "NoneType" "tuple" = some false := by decide +kernel
theorem kk_NoneType_dict : kk "NoneType" "dict" = some false := by decide +kernel
theorem kk_list_int : kk "list" "int" = some false := by decide +kernel
theorem kk_list_bool : kk "list" "bool" = some false := by decide +kernel
theorem kk_list_str : kk "list" "str" = some false := by decide +kernel
theorem kk_list_list : kk "list" "list" = some true := by decide +kernel
theorem kk_list_tuple : kk "list" "tuple" = some false := by decide +kernel
theorem kk_list_dict : kk "list" "dict" = some false := by decide +kernel
theorem kk_tuple_int : kk "tuple" "int" = some false := by decide +kernel
theorem kk_tuple_bool : kk "tuple" "bool" = some false := by decide +kernel
theorem kk_tuple_str : kk "tuple" "str" = some false := by decide +kernel
theorem kk_tuple_list : kk "tuple" "list" = some false := by decide +kernel
theorem kk_tuple_tuple : kk "tuple" "tuple" = some true := by decide +kernel
theorem kk_tuple_dict : kk "tuple" "dict" = some false := by decide +kernel
theorem kk_dict_int : kk "dict" "int" = some false := by decide +kernel
theorem kk_dict_bool : kk "dict" "bool" = some false := by decide +kernel
theorem kk_dict_str : kk "dict" "str" = some false := by decide +kernel
theorem kk_dict_list : kk "dict" "list" = some false := by decide +kernel
theorem kk_dict_tuple : kk "dict" "tuple" = some false := by decide +kernel
theorem kk_dict_dict : kk "dict" "dict" = some true := by decide +kernel
theorem tyN_in {H : Hp} {x : V} {t : String} (e : tyN H x = some t) : t = "int" ∨ t = "bool" ∨ t = "str" ∨ t = "NoneType" ∨ t = "list" ∨ t = "tuple" ∨ t = "dict" := by
  unfold tyN at e
  split at e <;> (first | (cases e; simp) | (split at e <;> (first | (cases e; simp) | cases e)) | cases e)
theorem isK_in {t n : String} {k : Bool} (e : isK t n = some k) : n = "int" ∨ n = "bool" ∨ n = "str" ∨ n = "list" ∨ n = "tuple" ∨ n = "dict" := by
  unfold isK at e
  by_cases h : (["int", "bool", "str", "list", "tuple", "dict"].contains n) = true
  · simpa using h
  · rw [if_neg h] at e; cases e
theorem kk_of {H : Hp} {x : V} {t n : String} {k : Bool} (ht : tyN H x = some t) (e : isK t n = some k) : kk t n = some k := by
  rcases tyN_in ht with rfl | rfl | rfl | rfl | rfl | rfl | rfl <;> rcases isK_in e with rfl | rfl | rfl | rfl | rfl | rfl
  · rw [isK_int_int] at e; rw [kk_int_int]; exact e
  · rw [isK_int_bool] at e; rw [kk_int_bool]; exact e
  · rw [isK_int_str] at e; rw [kk_int_str]; exact e
  · rw [isK_int_list] at e; rw [kk_int_list]; exact e
  · rw [isK_int_tuple] at e; rw [kk_int_tuple]; exact e
  · rw [isK_int_dict] at e; rw [kk_int_dict]; exact e
  · rw [isK_bool_int] at e; rw [kk_bool_int]; exact e
  · rw [isK_bool_bool] at e; rw [kk_bool_bool]; exact e
  · rw [isK_bool_str] at e; rw [kk_bool_str]; exact e
  · rw [isK_bool_list] at e; rw [kk_bool_list]; exact e
  · rw [isK_bool_tuple] at e; rw [kk_bool_tuple]; exact e
  · rw [isK_bool_dict] at e; rw [kk_bool_dict]; exact e
  · rw [isK_str_int] at e; rw [kk_str_int]; exact e
  · rw [isK_str_bool] at e; rw [kk_str_bool]; exact e
  · rw [isK_str_str] at e; rw [kk_str_str]; exact e
  · rw [isK_str_list] at e; rw [kk_str_list]; exact e
  · rw [isK_str_tuple] at e; rw [kk_str_tuple]; exact e
  · rw [isK_str_dict] at e; rw [kk_str_dict]; exact e
  · rw [isK_NoneType_int] at e; rw [kk_NoneType_int]; exact e
  · rw [isK_NoneType_bool] at e; rw [kk_NoneType_bool]; exact e
  · rw [isK_NoneType_str] at e; rw [kk_NoneType_str]; exact e
  · rw [isK_NoneType_list] at e; rw [kk_NoneType_list]; exact e
  · rw [isK_NoneType_tuple] at e; rw [kk_NoneType_tuple]; exact e
  · rw [isK_NoneType_dict] at e; rw [kk_NoneType_dict]; exact e
  · rw [isK_list_int] at e; rw [kk_list_int]; exact e
  · rw [isK_list_bool] at e; rw [kk_list_bool]; exact e
  · rw [isK_list_str] at e; rw [kk_list_str]; exact e
  · rw [isK_list_list] at e; rw [kk_list_list]; exact e
  · rw [isK_list_tuple] at e; rw [kk_list_tuple]; exact e
  · rw [isK_list_dict] at e; rw [kk_list_dict]; exact e
  · rw [isK_tuple_int] at e; rw [kk_tuple_int]; exact e
  · rw [isK_tuple_bool] at e; rw [kk_tuple_bool]; exact e
  · rw [isK_tuple_str] at e; rw [kk_tuple_str]; exact e
  · rw [isK_tuple_list] at e; rw [kk_tuple_list]; exact e
  · rw [isK_tuple_tuple] at e; rw [kk_tuple_tuple]; exact e
  · rw [isK_tuple_dict] at e; rw [kk_tuple_dict]; exact e
  · rw [isK_dict_int] at e; rw [kk_dict_int]; exact e
  · rw [isK_dict_bool] at e; rw [kk_dict_bool]; exact e
  · rw [isK_dict_str] at e; rw [kk_dict_str]; exact e
  · rw [isK_dict_list] at e; rw [kk_dict_list]; exact e
  · rw [isK_dict_tuple] at e; rw [kk_dict_tuple]; exact e
  · rw [isK_dict_dict] at e; rw [kk_dict_dict]; exact e
theorem tyOf {K : PySem.W.Frag} {H : Hp} {x : V} {t : String} (e : tyN H x = some t) : TyOf K H x (.type t) := by
  cases x with
  | non => cases e; exact .non
  | bl y => cases e; exact .bl y
  | int y => cases e; exact .int y
  | str y => cases e; exact .str y
  | byt y => cases e
  | flt y => cases e
  | ty y => cases e
  | ref a =>
    have e' : (match H a with | some (.lst _) => some "list" | some (.frz _ (.lst _)) => some "list" | some (.tup _) => some "tuple" | some (.dK _) => some "dict" | some (.dT _) => some "dict" | _ => none) = some t := e
    split at e'
    · rename_i h; cases e'; exact .lst h
    · rename_i h; cases e'; exact .frz h
    · rename_i h; cases e'; exact .tup h
    · rename_i h; cases e'; exact .dK h
    · rename_i h; cases e'; exact .dT h
    · cases e'
theorem call_isi : CallR X (.builtin "isinstance") cIsi := by
  intro pins s σ H xs us Q I r h
  obtain ⟨x, n, t, k, rfl, ht, hk, q⟩ := h
  obtain ⟨u, w', rfl, rx, rn⟩ := vals2 r
  have rn' : w' = Value.type n := rn
  subst rn'
  exact isinst_ok (t := .type t) (b := k) I rx (tyOf ht) ((kit_kk _ _ _).trans (kk_of ht hk)) fun tk => ⟨.bl k, H, I.tok _, rfl, q⟩
end
end G
namespace G
open PySem L2 PySem.Spec PyProof.Rows
section
variable {X : Cx}
end
end G
namespace G
open PySem L2 PySem.Spec PyProof.Rows
section
variable {X : Cx}
end
end G
namespace G
open PySem L2
end G
namespace G
open PySem L2 PySem.Spec PyProof.Rows
section
variable {X : Cx} {pins : List (Addr × Obj)} {σ : L2.St} {H : Hp} {s : Shared} {acc : Addr} {ys : List V} {its : List Value} {n : Nat}
theorem adopt (I : Inv X pins σ H s) (hf : FpOk X pins H acc) (ho : s.heap.get? acc = some { cls := .type "list", data := .seq its.toArray n }) (hv : Vals ys its) (hz : ys.length ≤ sizeLine) : Inv X pins σ (upd H acc (.lst ys)) s := by
  obtain ⟨f0, f1, f2, f3, f4, f5⟩ := hf
  have ne : ∀ b u, H b = some u → b ≠ acc := fun b u e => ne_of_none e f0
  refine I.step (h' := s.heap) (g' := s.gens) (t' := s.toks) (d' := s.drawn) (ch := [acc]) (fun b hb => ?_) (fun _ _ _ _ _ e _ => e) (fun b o _ _ _ e _ => ⟨o.slots, e⟩) (fun b o hb e h0 => ?_) (fun b o _ e => ⟨o, e⟩)
    (fun b xs e => by rw [upd_ne (ne b _ e)]; exact e) (fun b o u e => by rw [upd_ne (ne b _ e)]; exact e) (fun b ps e => ⟨#[], by rw [upd_ne (ne b _ e), e]; simp⟩) (fun m hm => hm) (fun b u e => ?_) I.bare
  · have e : b = acc := by simpa using hb
    subst e
    exact ⟨f3, f1, f4, f5⟩
  · have e : b ≠ acc := by simpa using hb
    rw [upd_ne e]; exact h0
  · by_cases hb : b = acc
    · subst hb
      rw [upd_same] at e; cases e
      exact ⟨hz, its, n, hv, ho⟩
    · rw [upd_ne hb] at e
      exact (I.hok b u e).stay (fun _ _ _ q => q) (fun c q => by rw [upd_ne (ne c _ q)]; exact q) fun c xs q => by rw [upd_ne (ne c _ q)]; exact q
theorem disown (I : Inv X pins σ (upd H acc (.lst ys)) s) (hf : FpOk X pins H acc) : Inv X pins σ H s := by
  obtain ⟨f0, f1, f2, f3, f4, f5⟩ := hf
  have back : ∀ b u, upd H acc (.lst ys) b = some u → u ≠ .lst ys → H b = some u := fun b u e hne => by
    by_cases hb : b = acc
    · subst hb
      rw [upd_same] at e; cases e; exact absurd rfl hne
    · rw [upd_ne hb] at e; exact e
  refine I.step (h' := s.heap) (g' := s.gens) (t' := s.toks) (d' := s.drawn) (ch := [acc]) (fun b hb => ?_) (fun _ _ _ _ _ e _ => e) (fun b o _ _ _ e _ => ⟨o.slots, e⟩) (fun b o hb e h0 => ?_) (fun b o _ e => ⟨o, e⟩)
    (fun b xs e => back b _ e (fun z => nomatch z)) (fun b o u e => back b _ e (fun z => nomatch z)) (fun b ps e => ⟨#[], by rw [back b _ e (fun z => nomatch z)]; simp⟩) (fun m hm => hm) (fun b u e => ?_) I.bare
  · have e : b = acc := by simpa using hb
    subst e
    exact ⟨f3, f1, f4, f5⟩
  · have e : b ≠ acc := by simpa using hb
    rw [upd_ne e] at h0; exact h0
  · have hb : b ≠ acc := ne_of_none e f0
    have e' : upd H acc (.lst ys) b = some u := by rw [upd_ne hb]; exact e
    exact (I.hok b u e').stay (fun _ _ _ q => q) (fun c q => back c _ q (fun z => nomatch z)) fun c xs q => back c _ q (fun z => nomatch z)
end
def PF (X : Cx) (ifs : List Expr) (t : TT) : Prop :=
  ∀ (pins : List (Addr × Obj)) (s : Shared) (σ : L2.St) (H : Hp) (Q : Bool → Hp → Prop), Inv X pins σ H s → t σ H Q →
    wpAny (model X.prog X.w) X.A (forIn ifs true fun c r => if r = true then do let ok ← isTrue c X.env (eval c X.env); pure (ForInStep.yield ok) else pure (ForInStep.yield r)) (TP X pins σ Q) X.xe s
theorem pf_nil {X : Cx} : PF X [] tTrue := fun _ _ _ H _ I h => wpAny_tests_nil ⟨H, I, h⟩
theorem pf_one {X : Cx} {c : Expr} {t : TT} (h : PT X c t) : PF X [c] t := fun pins s σ H Q I q => wpAny_tests_one (h pins s σ H Q I q)
def cxLC (X : Cx) (scope : Scope) (cl : List (Str × Addr)) (N : List Str) (C : Addr) (s : Shared) (H : Hp) (ex : List Addr) (pn : List (Addr × Obj)) : Cx :=
  { X with N := N, s₀ := s, H₀ := H, env := compEnvC scope cl C X.env, outer := X.stack, ex := ex, fn := fun _ => false, pn := pn, xe := fun _ _ => False }
def AllIn (cells : List (Str × Addr)) : List (Str × Addr) → Prop
  | [] => True
  | p :: r => cells.lookup p.1 = some p.2 ∧ AllIn cells r
theorem AllIn.get {cells : List (Str × Addr)} : ∀ {cl : List (Str × Addr)}, AllIn cells cl → ∀ {x : Str} {c : Addr}, cl.lookup x = some c → cells.lookup x = some c
  | [], _, x, c, h => by cases h
  | (y, d) :: r, a, x, c, h => by
    cases e : (x == y) with
    | true =>
      rw [List.lookup_cons, e] at h
      have e' : x = y := beq_iff_eq.mp e
      subst e'
      cases h
      exact a.1
    | false =>
      rw [List.lookup_cons, e] at h
      exact AllIn.get a.2 h
def CapOk (X : Cx) : List Str → List Nat → Prop
  | [], [] => True
  | y :: r, j :: js => X.N[j]? = some y ∧ X.env.kindOf y = some .cell ∧ CapOk X r js
  | _, _ => False
theorem CapOk.len {X : Cx} : ∀ {ns : List Str} {js : List Nat}, CapOk X ns js → ns.length = js.length
  | [], [], _ => rfl
  | [], _ :: _, h => h.elim
  | _ :: _, [], h => h.elim
  | _ :: r, _ :: js, h => by rw [List.length_cons, List.length_cons, CapOk.len h.2.2]
theorem CapOk.get {X : Cx} {σ : L2.St} : ∀ {ns : List Str} {js : List Nat}, CapOk X ns js → ∀ {i : Nat} {x : Str} {v : V}, ns[i]? = some x → (js.map (pick σ))[i]? = some (some v) → ∃ j : Nat, X.N[j]? = some x ∧ X.env.kindOf x = some .cell ∧ σ[j]? = some (some v)
  | [], _, _, i, x, v, h, _ => by simp at h
  | _ :: _, [], h, _, _, _, _, _ => h.elim
  | y :: r, j :: js, h, 0, x, v, h1, h2 => by
    simp at h1 h2
    subst h1
    refine ⟨j, h.1, h.2.1, ?_⟩
    unfold pick at h2
    split at h2
    · rename_i e; rw [e, h2]
    · cases h2
  | y :: r, j :: js, h, i + 1, x, v, h1, h2 => CapOk.get (i := i) h.2.2 (by simpa using h1) (by simpa using h2)
theorem lk_ne {x n : Str} {k : NameKind} {r : List (Str × NameKind)} (h : (x == n) = false) : List.lookup x ((n, k) :: r) = List.lookup x r := by rw [List.lookup_cons, h]
theorem lk_eq {x n : Str} {k : NameKind} {r : List (Str × NameKind)} (h : (x == n) = true) : List.lookup x ((n, k) :: r) = some k := by rw [List.lookup_cons, h]
def relK (env : Env) (x : Str) (k : NameKind) : NameKind := if (k == NameKind.free && env.scope.kind == .function && env.kindOf x == some .cell) = true then .cell else k
theorem lookup_relabel {env : Env} {x : Str} : ∀ {names : List (Str × NameKind)},
    (names.map fun (n, k) => if (k == NameKind.free && env.scope.kind == .function && env.kindOf n == some .cell) then (n, NameKind.cell) else (n, k)).lookup x = (names.lookup x).map (relK env x)
  | [] => rfl
  | (n, k') :: r => by
    have ih := @lookup_relabel env x r
    show List.lookup x ((if (k' == NameKind.free && env.scope.kind == .function && env.kindOf n == some .cell) = true then (n, NameKind.cell) else (n, k')) :: r.map fun (n, k) => if (k == NameKind.free && env.scope.kind == .function && env.kindOf n == some .cell) then (n, NameKind.cell) else (n, k)) = _
    cases hx : x == n with
    | true =>
      have e := beq_iff_eq.mp hx
      subst e
      rw [lk_eq (k := k') hx]
      by_cases hc : (k' == NameKind.free && env.scope.kind == .function && env.kindOf x == some .cell) = true
      · rw [if_pos hc, lk_eq hx]
        show some NameKind.cell = some (relK env x k')
        unfold relK; rw [if_pos hc]
      · rw [if_neg hc, lk_eq hx]
        show some k' = some (relK env x k')
        unfold relK; rw [if_neg hc]
    | false =>
      rw [lk_ne (k := k') (r := r) hx]
      by_cases hc : (k' == NameKind.free && env.scope.kind == .function && env.kindOf n == some .cell) = true
      · rw [if_pos hc, lk_ne hx]; exact ih
      · rw [if_neg hc, lk_ne hx]; exact ih
theorem lookup_all {names : List (Str × NameKind)} {p : Str × NameKind → Bool} : ∀ {x : Str} {k : NameKind}, names.all p = true → names.lookup x = some k → p (x, k) = true := by
  induction names with
  | nil => intro x k _ h; simp at h
  | cons y r ih =>
    intro x k ha h
    obtain ⟨n, k'⟩ := y
    rw [List.all_cons, Bool.and_eq_true] at ha
    cases hx : x == n with
    | true =>
      rw [List.lookup_cons, hx] at h
      have e1 : x = n := beq_iff_eq.mp hx
      have e2 : k' = k := Option.some.inj h
      rw [e1, ← e2]; exact ha.1
    | false =>
      rw [List.lookup_cons, hx] at h
      exact ih ha.2 h
theorem compLoop_go {prog : Program} {w : World} {A : Around} {R : Result → Shared → Prop} {s : Shared} {elt target iter : Expr} {ifs : List Expr} {scope : Scope} {pos : Pos} {it acc : Value} {env : Env} (I : Nat → Shared → Prop)
    (turn : ∀ n s, I n s → wpAny (model prog w) A (pyNext it) (fun r s₁ => match r with
      | none => R (.ok .next) s₁
      | some v => wpAny (model prog w) A (letOwnedTupleGo target it v) (fun _ s₁' => wpAny (model prog w) A (assign target env v) (fun _ s₂ =>
          wpAny (model prog w) A (forIn ifs true fun c r => if r = true then do let ok ← isTrue c env (eval c env); pure (ForInStep.yield ok) else pure (ForInStep.yield r)) (fun ok s₃ =>
            if ok = true then wpAny (model prog w) A (eval elt env) (fun x s₄ =>
              wpAny (model prog w) A (call (.builtin "list.append") [acc, x]) (fun _ s₅ => ∃ m, m < n ∧ I m s₅) (fun _ _ => False) s₄) (fun _ _ => False) s₃
            else ∃ m, m < n ∧ I m s₃) (fun _ _ => False) s₂) (fun _ _ => False) s₁') (fun _ _ => False) s₁) (fun _ _ => False) s)
    (n : Nat) (h : I n s) :
    codeAny (model prog w) A (.compLoop (.ListComp elt [⟨target, iter, ifs, 0⟩] scope pos) 0 it acc env) R s := by
  refine codeAny_loop rfl I (fun n s hI => ?_) n h
  show wpAny _ A ((compTurn (.ListComp elt [⟨target, iter, ifs, 0⟩] scope pos) 0 it acc env).onRaise (fun x => do noteFrame x env; theTreesLotGoes x)) _ _ s
  refine wpAny_noted ?_
  rw [compTurn_list]
  refine wpAny_bind (wpAny_standAt (wpAny_bind (wpAny_mono (turn n s hI) (fun r s₁ h₁ => ?_) fun _ _ h' => h'.elim)))
  cases r with
  | none => exact wpAny_pure h₁
  | some v =>
    refine wpAny_bind (wpAny_mono h₁ (fun _ s₁' h₁' => ?_) fun _ _ h' => h'.elim)
    refine wpAny_bind (wpAny_mono h₁' (fun _ s₂ h₂ => wpAny_bind (wpAny_mono h₂ (fun ok s₃ h₃ => ?_) fun _ _ h' => h'.elim)) fun _ _ h' => h'.elim)
    cases ok with
    | false => exact wpAny_pure ⟨rfl, h₃⟩
    | true =>
      exact wpAny_bind (wpAny_bind (wpAny_mono h₃ (fun x s₄ h₄ => wpAny_bind (wpAny_mono h₄ (fun _ s₅ h₅ => wpAny_pure (wpAny_pure ⟨rfl, h₅⟩)) fun _ _ h' => h'.elim)) fun _ _ h' => h'.elim))
theorem lc_core {X : Cx} {elt iter tg : Expr} {pos : Pos} {ifs : List Expr} {scope : Scope} {cl : List (Str × Addr)} {wi : TI} {tc : TT} {te : TE} {cns : List Str} {ns : List Str} {gt : TG} {R : It → L2.St → Hp → VK → Prop} {use : Option (Value → Sem Unit)} {Q0 : Value → Shared → Prop} {pins : List (Addr × Obj)} {s : Shared} {σ : L2.St} {H : Hp} {Q : VK} (caps : List Nat)
    (hR : ∀ J σ H Q, R J σ H Q → ∃ W : Nat → Nat → List V → Hp → Prop, (∃ m, W 0 m [] H) ∧ ∀ i m ys H, W i m ys H →
      (J.stop i H ∧ ∀ p, H p = none → Q (.ref p) (upd H p (.lst ys))) ∨
      (J.go i H ∧ ys.length < sizeLine ∧ ∀ x H', J.yld i H x H' → ∀ vs : L2.St, vs.length = ns.length → ∃ us : L2.St, us.length = ns.length ∧ gt x (vs ++ caps.map (pick σ)) H' (fun σ2 H2 => σ2 = us ++ caps.map (pick σ) ∧ H2 = H') ∧ tc (us ++ caps.map (pick σ)) H' fun k H2 => if k = true then te (us ++ caps.map (pick σ)) H2 (fun y H3 => ∃ m', m' < m ∧ W (i + 1) m' (ys ++ [y]) H3) else ∃ m', m' < m ∧ W (i + 1) m' ys H2))
    (hi : PI X tg iter wi) (hg : ∀ C s H ex pn, PG (cxLC X scope cl (ns ++ cns) C s H ex pn) tg gt)
    (hf : ∀ C s H ex pn, PF (cxLC X scope cl (ns ++ cns) C s H ex pn) ifs tc) (he : ∀ C s H ex pn, PE (cxLC X scope cl (ns ++ cns) C s H ex pn) elt te) (hc : X.calm = true)
    (hclos : closureFor scope X.env = pure cl) (hcl : AllIn X.env.cells cl) (hcap : CapOk X cns caps)
    (hkind : scope.kind = .function) (hcell : (scope.names.all fun p => p.2 != .cell) = true) (hfree : (scope.names.all fun p => p.2 != .free || (cl.lookup p.1).isSome) = true)
    (hcf : (cns.all fun y => scope.names.lookup y == some .free) = true) (hnames : ∀ y ∈ scope.names, y.2 = .local → scope.names.lookup y.1 = some .local)
    (hs : ∀ v, foldedSetIterable iter X.env v = pure v)
    (I : Inv X pins σ H s) (h : wi σ H fun J H1 => R J σ H1 Q)
    (hend : ∀ (acc C : Addr) (s6 : Shared) (m : Str → Option Value) r0, s6.heap.Ns C m → (∀ {Hf : Hp}, Hf C = none → FpOk X pins Hf C) → (∀ h', Heap.SameBut C s6.heap h' → EP X pins σ (fun v Hf => Q v Hf ∧ Hf C = none) (.ref acc) { s6 with heap := h' }) → compPost (model X.prog X.w) X.A X.xe use Q0 (.ref acc) C (.ok r0) s6) :
    wpAny (model X.prog X.w) X.A (comprehension (.ListComp elt [⟨tg, iter, ifs, 0⟩] scope pos) scope X.env (firstIterPos [⟨tg, iter, ifs, 0⟩] pos) (newList []) (firstAsync [⟨tg, iter, ifs, 0⟩]) (firstIter [⟨tg, iter, ifs, 0⟩] X.env) use) Q0 X.xe s := by
  refine wpAny_comprehension_free rfl hs hclos hkind hnames (thn (hi pins s σ H _ I h) fun xv s1 h1 => thn h1 fun itv s2 h2 => ?_)
  obtain ⟨it, fp, tn, J, H2, rfl, I2, T, st2, f2, hr⟩ := h2
  obtain ⟨W, ⟨m0, w0⟩, turn⟩ := hR _ _ _ _ hr
  have hne : ∀ y ∈ scope.names, y.2 ≠ .cell := fun y hy e => by
    have := List.all_eq_true.mp hcell y hy
    rw [e] at this; simp at this
  refine wpAny_newObj_type (wpAny_newFunctionEnv hne (by intro y hy; simp at hy) (fun h₁ hns₁ hsb₁ => ?_) hkind)
  dsimp only at hns₁ hsb₁ ⊢
  generalize hacc : s2.heap.objs.size = acc
  generalize hH3 : s2.heap.push { cls := .type "list", dict := none, data := .seq ([] : List Value).toArray } = h3 at hns₁ hsb₁ ⊢
  have hC : h3.objs.size = acc + 1 := by rw [← hH3, Heap.size_push, hacc]
  have k23 : ∀ b o, s2.heap.get? b = some o → h3.get? b = some o := fun b o e => hH3 ▸ Heap.get?_push_of_some _ e
  have k34 : ∀ b o, h3.get? b = some o → h₁.get? b = some o := fun b o e => hsb₁.extBut b o (Nat.ne_of_lt (Heap.lt_size e)) (Heap.get?_push_of_some _ e)
  have oacc : h3.get? acc = some { cls := .type "list", dict := none, data := .seq ([] : List Value).toArray } := by
    rw [← hH3, ← hacc]; exact Heap.get?_push_size _ rfl
  have I3 : Inv X pins σ H2 { s2 with heap := h3 } := I2.kept (t' := s2.toks) k23
  have facc : FpOk X pins H2 acc := I2.fpOk (Nat.le_of_eq hacc) (I2.hok.fresh (Nat.le_of_eq hacc))
  have fpl : ∀ b ∈ fp, b < acc := fun b hb => by
    obtain ⟨o, e, _⟩ := T.obj _ _ st2 b hb
    rw [← hacc]; exact Heap.lt_size e
  have exok : ∀ b ∈ acc :: fp, FpOk X pins H2 b := fun b hb => (List.mem_cons.mp hb).elim (fun e => e ▸ facc) (f2 b)
  have exC : ∀ b ∈ acc :: fp, b ≠ h3.objs.size := fun b hb => by
    rcases List.mem_cons.mp hb with e | hb
    · rw [hC, e]; exact Nat.ne_of_lt (Nat.lt_succ_self _)
    · rw [hC]; exact Nat.ne_of_lt (Nat.lt_succ_of_lt (fpl b hb))
  have stk_no : ∀ b ∈ acc :: fp, b ∉ frs X.stack := fun b hb hm => by
    obtain ⟨_, g1, g2, _⟩ := exok b hb
    exact (List.mem_cons.mp (I2.stkSub b hm)).elim g1 g2
  let Y : Cx := cxLC X scope cl (ns ++ cns) h3.objs.size { s2 with heap := h3 } H2 (acc :: fp) (X.pn ++ pins)
  have cellsOf : ∀ y c, cl.lookup y = some c → X.env.cells.lookup y = some c := fun y c e => hcl.get e
  have kindY : ∀ y k, Y.env.kindOf y = some k → (k = .cell ∨ k = .free) → ∃ c, cl.lookup y = some c := fun y k e hk => by
    have e0 : (scope.names.lookup y).map (relK X.env y) = some k := lookup_relabel.symm.trans e
    obtain ⟨k0, e1, e2⟩ := Option.map_eq_some_iff.mp e0
    have e3 := lookup_all hfree e1
    have e4 := lookup_all hcell e1
    by_cases hf : k0 = .free
    · subst hf
      rw [Bool.or_eq_true] at e3
      rcases e3 with e3 | e3
      · exact absurd rfl (bne_iff_ne.mp e3)
      · exact Option.isSome_iff_exists.mp e3
    · exfalso
      have e5 : relK X.env y k0 = k0 := by
        unfold relK
        rw [if_neg]
        intro z
        rw [Bool.and_eq_true, Bool.and_eq_true] at z
        exact hf (beq_iff_eq.mp z.1.1)
      rw [e5] at e2
      subst e2
      rcases hk with rfl | rfl
      · simp at e4
      · exact hf rfl
  have okY : Y.Ok := {
    mod := I2.ok.mod
    kind := hkind
    glob := I2.ok.glob
    blt := I2.ok.blt
    above := Nat.le_refl _
    inj := fun a b c e1 e2 => I2.ok.inj a b c (cellsOf _ _ e1) (cellsOf _ _ e2)
    has := fun y hy => hy.elim (fun e => kindY y _ e (.inl rfl)) (fun e => kindY y _ e (.inr rfl))
    cab := fun y c e => nomatch e
    hd := I2.ok.hd
    frames := I2.ok.frames
    stk := .inl rfl
    exf := fun b hb => ⟨exC b hb, fun y c e => (exok b hb).2.2.2.2.1 y c (cellsOf _ _ e)⟩
    bs := fun b o e => ⟨k23 b o (I2.bs b o e).1, (I2.bs b o e).2⟩
    bsz := by
      show X.base.objs.size ≤ h3.objs.size
      rw [hC, ← hacc]
      exact Nat.le_succ_of_le (Nat.le_trans I2.ok.bsz I2.sz)
    noex := fun b o e hb => by
      rcases (exok b hb).2.2.2.1 with z | z
      · exact I2.ok.noex b o e z
      · exact absurd (Nat.lt_of_lt_of_le (Heap.lt_size e) (Nat.le_trans I2.ok.bsz z)) (Nat.lt_irrefl _)
    exfs := stk_no
    funs := I3.stack
    frf := I3.stkFree }
  have lenN : (List.replicate ns.length none ++ caps.map (pick σ) : L2.St).length = (ns ++ cns).length := by rw [List.length_append, List.length_append, List.length_replicate, List.length_map, hcap.len]
  have I4 : Inv Y [] (List.replicate ns.length none ++ caps.map (pick σ)) H2 { s2 with heap := h₁, toks := s2.toks + ([] : List (Str × Value)).length } := {
    ok := okY
    os := rfl
    bare := I2.bare
    base := Un.kept k34
    loc := by
      refine ⟨_, hns₁, fun i y v e1 e2 e3 => ?_⟩
      by_cases hlt : i < ns.length
      · have e2 : (List.replicate ns.length none ++ caps.map (pick σ) : L2.St)[i]? = some (some v) := e2
        rw [List.getElem?_append_left (by rw [List.length_replicate]; exact hlt), List.getElem?_replicate, if_pos hlt] at e2
        cases e2
      · have e1' : cns[i - ns.length]? = some y := by
          have e1' : (ns ++ cns)[i]? = some y := e1
          rw [List.getElem?_append_right (by omega)] at e1'
          exact e1'
        have e2' : (caps.map (pick σ) : L2.St)[i - ns.length]? = some (some v) := by
          have e2 : (List.replicate ns.length none ++ caps.map (pick σ) : L2.St)[i]? = some (some v) := e2
          rw [List.getElem?_append_right (by rw [List.length_replicate]; omega), List.length_replicate] at e2
          exact e2
        obtain ⟨j, j1, j2, j3⟩ := hcap.get (σ := σ) (i := i - ns.length) (x := y) (v := v) e1' e2'
        obtain ⟨m, hn, hl⟩ := I2.loc
        obtain ⟨u, r, l⟩ := hl j y v j1 j3 (.inr (.inl j2))
        rcases l with ⟨l, _⟩ | ⟨_, c, l1, l2⟩
        · rw [j2] at l; cases l
        · refine ⟨u, r, .inr ?_⟩
          rcases e3 with e3 | e3 | e3
          · exfalso
            have hm : y ∈ cns := List.mem_of_getElem? e1'
            have hl : scope.names.lookup y = some .free := beq_iff_eq.mp (List.all_eq_true.mp hcf y hm)
            have e0 : (scope.names.lookup y).map (relK X.env y) = some .local := lookup_relabel.symm.trans e3
            rw [hl] at e0
            have e5 : relK X.env y .free = .local := Option.some.inj e0
            unfold relK at e5
            split at e5 <;> cases e5
          · obtain ⟨c', hc'⟩ := kindY y _ e3 (.inl rfl)
            have := cellsOf _ _ hc'
            rw [l1] at this; cases this
            exact ⟨.inl e3, c, hc', l2.keeps fun b o e => k34 _ _ (k23 _ _ e)⟩
          · obtain ⟨c', hc'⟩ := kindY y _ e3 (.inr rfl)
            have := cellsOf _ _ hc'
            rw [l1] at this; cases this
            exact ⟨.inr e3, c, hc', l2.keeps fun b o e => k34 _ _ (k23 _ _ e)⟩
    cell := fun y c e => by
      obtain ⟨v, z⟩ := I2.cell y c (cellsOf _ _ e)
      exact ⟨v, z.keeps fun b o e => k34 _ _ (k23 _ _ e)⟩
    free := I2.hok.fresh (by rw [hacc]; show acc ≤ h3.objs.size; rw [hC]; exact Nat.le_succ _)
    freeC := fun y c e => I2.freeC y c (cellsOf _ _ e)
    pin := fun p hp => by
      have hp2 : p ∈ (X.pn ++ pins) ++ [] := hp
      have hp' : p ∈ X.pn ++ pins := by rw [List.append_nil] at hp2; exact hp2
      obtain ⟨p1, p2, p3, p4, p5⟩ := I2.pin p hp'
      refine ⟨k34 _ _ (k23 _ _ p1), p2, ?_, fun hm => (List.mem_cons.mp (I2.stkSub _ hm)).elim p3 p4, p5⟩
      exact Nat.ne_of_lt (by show p.1 < h3.objs.size; exact Heap.lt_size (k23 _ _ p1))
    hok := I2.hok.kept fun b u e => k34 _ _ (k23 _ _ e)
    len := lenN }
  have fpY : ∀ {H' : Hp} {pl : List (Addr × Obj)} {b : Addr}, b ∈ acc :: fp → H' b = none → (∀ p ∈ pl, p.1 ≠ b) → FpOk Y pl H' b := fun {H' pl b} hb hn hp =>
    ⟨hn, exC b hb, stk_no b hb, .inl hb, fun y c e => (exok b hb).2.2.2.2.1 y c (cellsOf _ _ e), fun p hm => (List.mem_append.mp hm).elim (fun z => (exok b hb).2.2.2.2.2 p z) (hp p)⟩
  have fin : ∀ {σ' : L2.St} {H' : Hp} {s' : Shared} {ys : List V} {its : List Value} {kk : Nat} {pl : List (Addr × Obj)}, Inv Y pl σ' H' s' → H' acc = none → Vals ys its → ys.length ≤ sizeLine →
      s'.heap.get? acc = some { cls := .type "list", data := .seq its.toArray kk } → (∀ p, H' p = none → Q (.ref p) (upd H' p (.lst ys))) →
      ∀ h', Heap.SameBut h3.objs.size s'.heap h' → EP X pins σ (fun v Hf => Q v Hf ∧ Hf h3.objs.size = none) (.ref acc) { s' with heap := h' } := fun {σ' H' s' ys its kk pl} J ha hv hz ho hq h' hs' => by
    have hacC : acc ≠ h3.objs.size := exC acc (List.mem_cons_self)
    have keepC : ∀ b o, b ≠ h3.objs.size → s'.heap.get? b = some o → h'.get? b = some o := fun b o hb e => hs'.extBut b o hb e
    have ltC : ∀ b o, s2.heap.get? b = some o → b ≠ h3.objs.size := fun b o e => Nat.ne_of_lt (Heap.lt_size (k23 b o e))
    have hCfree : H' h3.objs.size = none := J.free
    have un : Un (frs X.stack) (acc :: fp) H2 H' s2.heap h' := {
      keep := fun b o e n hb hx => keepC b o (ltC b o e) (J.base.keep b o (k23 b o e) n hb hx)
      slot := fun b o e n hb hx => by
        obtain ⟨sl, q⟩ := J.base.slot b o (k23 b o e) n hb hx
        exact ⟨sl, keepC b _ (ltC b o e) q⟩
      free := fun b o e n hx => J.base.free b o (k23 b o e) n hx
      there := fun b o e hx => by
        obtain ⟨o', q⟩ := J.base.there b o (k23 b o e) hx
        exact ⟨o', keepC b o' (ltC b o e) q⟩
      tups := J.base.tups
      frzs := J.base.frzs
      tbls := J.base.tbls }
    have hok : HOk X.prog X.w H' h' := fun b u e => by
      refine (J.hok b u e).stay (fun c v hc q => keepC c v ?_ q) (fun _ q => q) fun _ _ q => q
      rintro rfl
      rcases hc with rfl | hc
      · rw [hCfree] at e; cases e
      · rw [hCfree] at hc; cases hc
    have I5 : Inv X pins σ H' { s' with heap := h' } := I2.call' (ch := acc :: fp) J.os un hok J.bare fun b hb => by
      obtain ⟨g0, g1, g2, g3, g4, g5⟩ := exok b hb
      exact ⟨g3, g1, g4, g5⟩
    refine ⟨.ref acc, _, adopt (acc := acc) I5 ?_ (keepC _ _ hacC ho) hv hz, rfl, hq acc ha, by rw [upd_ne hacC.symm]; exact hCfree⟩
    obtain ⟨g0, g1, g2, g3, g4, g5⟩ := facc
    exact ⟨ha, g1, g2, g3, g4, g5⟩
  have loop : codeAny (model X.prog X.w) X.A (.compLoop (.ListComp elt [⟨tg, iter, ifs, 0⟩] scope pos) 0 (.ref it) (.ref acc) Y.env) (compPost (model X.prog X.w) X.A X.xe use Q0 (.ref acc) h3.objs.size)
      { s2 with heap := h₁, toks := s2.toks + ([] : List (Str × Value)).length } := by
    refine compLoop_go (fun n s' => ∃ (i : Nat) (v : L2.St) (ys : List V) (its : List Value) (kk : Nat) (H' : Hp), v.length = ns.length ∧ Inv Y [] (v ++ caps.map (pick σ)) H' s' ∧ tn i s'.heap ∧ (∀ b ∈ fp, H' b = none) ∧ H' acc = none ∧ Vals ys its ∧ ys.length ≤ sizeLine ∧
      s'.heap.get? acc = some { cls := .type "list", data := .seq its.toArray kk } ∧ W i n ys H') ?_ m0 ⟨0, List.replicate ns.length none, [], [], 0, H2, List.length_replicate, I4, T.keep _ _ _ st2 (fun b _ o e => k34 _ _ (k23 _ _ e)), fun b hb => (f2 b hb).1, facc.1, .nil, Nat.zero_le _, k34 _ _ oacc, w0⟩
    rintro n s5 ⟨i, v, ys, its, kk, H5, lv, I5, st5, fr5, ha5, hv5, hz5, ho5, w5⟩
    have pinA : Inv Y [(acc, { cls := .type "list", data := .seq its.toArray kk })] (v ++ caps.map (pick σ)) H5 s5 := I5.pins_of fun p hp => by
      have e : p = (acc, { cls := .type "list", data := .seq its.toArray kk }) := by simpa using hp
      subst e
      exact ⟨ho5, ha5, exC acc List.mem_cons_self, stk_no acc List.mem_cons_self, fun v => by intro z; cases z⟩
    have fpA : ∀ {H' : Hp}, (∀ b ∈ fp, H' b = none) → ∀ b ∈ fp, FpOk Y [(acc, { cls := .type "list", data := .seq its.toArray kk })] H' b := fun hn b hb => fpY (List.mem_cons_of_mem _ hb) (hn b hb) fun p hp => by
      have e : p = (acc, { cls := .type "list", data := .seq its.toArray kk }) := by simpa using hp
      subst e
      exact (Nat.ne_of_lt (fpl b hb)).symm
    rcases turn i n ys H5 w5 with ⟨stop, qn⟩ | ⟨go, hlt, step⟩
    · refine thn (T.done Y rfl rfl rfl hc i _ s5 _ H5 (fun _ _ => False) pinA (fpA fr5) st5 stop) fun r s6 ⟨hr, I6⟩ => ?_
      subst hr
      obtain ⟨m, hm, _⟩ := I6.loc
      have ho6 := (I6.pin (acc, { cls := .type "list", data := .seq its.toArray kk }) (List.mem_append_right _ List.mem_cons_self)).1
      exact hend acc h3.objs.size s6 m _ hm (fun hf => I2.fpOk (by rw [hC, hacc]; exact Nat.le_succ _) hf) (fin I6 ha5 hv5 hz5 ho6 qn)
    · refine thn (T.item Y rfl rfl rfl hc i _ s5 _ H5 (fun _ _ => False) pinA (fpA fr5) st5 go) fun r s6 ⟨u, hr, h6⟩ => ?_
      subst hr
      refine thn h6 fun _ s7 ⟨z, H7, I7, r7, y7, st7, fr7⟩ => ?_
      have I7' := I7.pinned (fpA fr7) (T.obj _ _ st7)
      obtain ⟨us, lu, hgt, step⟩ := step z H7 y7 v lv
      have pg : PG Y tg gt := hg _ _ _ _ _
      refine thn (pg _ s7 _ H7 z u (fun σ2 H2' => σ2 = us ++ caps.map (pick σ) ∧ H2' = H7) I7' r7 hgt) fun _ s8 ⟨σ8, H8, I8, e8, e8'⟩ => ?_
      subst e8 e8'
      refine thn (hf _ _ _ _ _ _ s8 _ H8 _ I8 step) fun ok s9 ⟨H9, I9, q9⟩ => ?_
      have stat : ∀ {H' : Hp} {s' : Shared} {σ' : L2.St}, Inv Y ([(acc, { cls := .type "list", data := .seq its.toArray kk })] ++ pinsAt fp s7.heap) σ' H' s' → tn (i + 1) s'.heap ∧ (∀ b ∈ fp, H' b = none) ∧ H' acc = none ∧ s'.heap.get? acc = some { cls := .type "list", data := .seq its.toArray kk } := fun {H' s' σ'} J => by
        have pa := J.pin (acc, { cls := .type "list", data := .seq its.toArray kk }) (List.mem_append_right _ (List.mem_append_left _ List.mem_cons_self))
        refine ⟨T.keep _ _ _ st7 fun b hb o e => (J.pin (b, o) (List.mem_append_right _ (List.mem_append_right _ (mem_pinsAt hb e)))).1, fun b hb => ?_, pa.2.1, pa.1⟩
        obtain ⟨o, e, d⟩ := T.obj _ _ st7 b hb
        exact (J.pin (b, o) (List.mem_append_right _ (List.mem_append_right _ (mem_pinsAt hb e)))).2.1
      have nopin : ∀ {H' : Hp} {s' : Shared} {σ' : L2.St} {pl : List (Addr × Obj)}, Inv Y pl σ' H' s' → Inv Y [] σ' H' s' := fun J => J.pins_of fun p hp => nomatch hp
      cases ok with
      | false =>
        obtain ⟨m', hm, w9⟩ := q9
        obtain ⟨t1, t2, t3, t4⟩ := stat I9
        exact ⟨m', hm, i + 1, us, ys, its, kk, H9, lu, nopin I9, t1, t2, t3, hv5, hz5, t4, w9⟩
      | true =>
        show wpAny _ _ (eval elt Y.env) _ _ s9
        refine thn (he _ _ _ _ _ _ s9 _ H9 _ I9 q9) fun y s10 ⟨yv, H10, I10, r10, m', hm, w10⟩ => ?_
        obtain ⟨t1, t2, t3, t4⟩ := stat I10
        have I10' : Inv Y (pinsAt fp s7.heap) (us ++ caps.map (pick σ)) H10 s10 := I10.pins_of fun p hp => I10.pin p (List.mem_append_right _ (List.mem_append_right _ hp))
        have fA : FpOk Y (pinsAt fp s7.heap) H10 acc := fpY List.mem_cons_self t3 fun p hp => Nat.ne_of_lt (fpl _ (of_pinsAt hp).1)
        have Ja := adopt I10' fA t4 hv5 hz5
        refine thn (mt_append (X := Y) _ s10 _ _ (.ref acc) [yv] (.ref acc) [y] (fun _ H' => H' = upd (upd H10 acc (.lst ys)) acc (.lst (ys ++ [yv]))) Ja rfl (.cons r10 .nil) ⟨acc, ys, yv, rfl, rfl, upd_same, hlt, rfl⟩) fun _ s11 ⟨_, H11, I11, _, e11⟩ => ?_
        rw [upd_upd] at e11
        subst e11
        obtain ⟨hz11, its', kk', hv11, ho11⟩ := I11.hok acc _ upd_same
        have Jd := disown I11 fA
        have st11 : tn (i + 1) s11.heap := T.keep _ _ _ st7 fun b hb o e => (Jd.pin (b, o) (List.mem_append_right _ (mem_pinsAt hb e))).1
        exact ⟨m', hm, i + 1, us, ys ++ [yv], its', kk', H10, lu, nopin Jd, st11, t2, t3, hv11, hz11, ho11, w10⟩
  exact codeAny_compStart_list loop (T.self X.A 0 _ _ _ (T.keep _ _ _ st2 (fun b _ o e => k34 _ _ (k23 _ _ e))) loop)
theorem pe_lcG {X : Cx} {elt iter tg : Expr} {pos : Pos} {ifs : List Expr} {scope : Scope} {cl : List (Str × Addr)} {wi : TI} {tc : TT} {te : TE} {cns : List Str} {ns : List Str} {gt : TG} {R : It → L2.St → Hp → VK → Prop} (caps : List Nat)
    (hR : ∀ J σ H Q, R J σ H Q → ∃ W : Nat → Nat → List V → Hp → Prop, (∃ m, W 0 m [] H) ∧ ∀ i m ys H, W i m ys H →
      (J.stop i H ∧ ∀ p, H p = none → Q (.ref p) (upd H p (.lst ys))) ∨
      (J.go i H ∧ ys.length < sizeLine ∧ ∀ x H', J.yld i H x H' → ∀ vs : L2.St, vs.length = ns.length → ∃ us : L2.St, us.length = ns.length ∧ gt x (vs ++ caps.map (pick σ)) H' (fun σ2 H2 => σ2 = us ++ caps.map (pick σ) ∧ H2 = H') ∧ tc (us ++ caps.map (pick σ)) H' fun k H2 => if k = true then te (us ++ caps.map (pick σ)) H2 (fun y H3 => ∃ m', m' < m ∧ W (i + 1) m' (ys ++ [y]) H3) else ∃ m', m' < m ∧ W (i + 1) m' ys H2))
    (hi : PI X tg iter wi) (hg : ∀ C s H ex pn, PG (cxLC X scope cl (ns ++ cns) C s H ex pn) tg gt)
    (hf : ∀ C s H ex pn, PF (cxLC X scope cl (ns ++ cns) C s H ex pn) ifs tc) (he : ∀ C s H ex pn, PE (cxLC X scope cl (ns ++ cns) C s H ex pn) elt te) (hc : X.calm = true)
    (hclos : closureFor scope X.env = pure cl) (hcl : AllIn X.env.cells cl) (hcap : CapOk X cns caps)
    (hkind : scope.kind = .function) (hcell : (scope.names.all fun p => p.2 != .cell) = true) (hfree : (scope.names.all fun p => p.2 != .free || (cl.lookup p.1).isSome) = true)
    (hcf : (cns.all fun y => scope.names.lookup y == some .free) = true) (hnames : ∀ y ∈ scope.names, y.2 = .local → scope.names.lookup y.1 = some .local)
    (hs : ∀ v, foldedSetIterable iter X.env v = pure v) :
    PE X (.ListComp elt [⟨tg, iter, ifs, 0⟩] scope pos) (fun σ H Q => wi σ H fun J H1 => R J σ H1 Q) := by
  intro pins s σ H Q I h
  rw [eval_ListComp]
  refine lc_core caps hR hi hg hf he hc hclos hcl hcap hkind hcell hfree hcf hnames hs I h fun acc C s6 m r0 hm fC fin => ⟨m, hm, fun h' hs' => ?_⟩
  obtain ⟨v, Hf, If, rf, qf, _⟩ := fin h' hs'
  exact ⟨v, Hf, If, rf, qf⟩
theorem pe_lc {X : Cx} {elt iter : Expr} {x : Str} {px pos : Pos} {ifs : List Expr} {scope : Scope} {cl : List (Str × Addr)} {wi : TI} {tc : TT} {te : TE} {cns : List Str} (caps : List Nat)
    (hi : PI X (.Name x px) iter wi)
    (hf : ∀ C s H ex pn, PF (cxLC X scope cl (x :: cns) C s H ex pn) ifs tc) (he : ∀ C s H ex pn, PE (cxLC X scope cl (x :: cns) C s H ex pn) elt te) (hc : X.calm = true)
    (hclos : closureFor scope X.env = pure cl) (hcl : AllIn X.env.cells cl) (hcap : CapOk X cns caps)
    (hkind : scope.kind = .function) (hcell : (scope.names.all fun p => p.2 != .cell) = true) (hfree : (scope.names.all fun p => p.2 != .free || (cl.lookup p.1).isSome) = true)
    (hcf : (cns.all fun y => scope.names.lookup y == some .free) = true) (hnames : ∀ y ∈ scope.names, y.2 = .local → scope.names.lookup y.1 = some .local) (hx : scope.names.lookup x = some .local) (hnd : (x :: cns).Nodup)
    (hs : ∀ v, foldedSetIterable iter X.env v = pure v := by intro _; rfl) :
    PE X (.ListComp elt [⟨.Name x px, iter, ifs, 0⟩] scope pos) (tLC wi caps tc te) := by
  refine pe_lcG (ns := [x]) (gt := gName 0) caps (fun J σ H Q h => ?_) hi (fun C s H ex pn => pg_name hnd rfl (.inl (lookup_relabel_local hx)) (.inr (lookup_relabel_local hx))) hf he hc hclos hcl hcap hkind hcell hfree hcf hnames hs
  obtain ⟨W, w0, turn⟩ := h
  refine ⟨W, w0, fun i m ys H hw => (turn i m ys H hw).imp id fun ⟨g, l, st⟩ => ⟨g, l, fun z H' y vs hv => ?_⟩⟩
  match vs, hv with
  | [v], _ => exact ⟨[some z], rfl, ⟨rfl, rfl⟩, st z H' y⟩
end G
namespace G
open PySem L2 PySem.Spec PyProof.Rows
theorem obj_there {P : Program} {w : World} {H : Hp} {h : Heap} {a : Addr} {o : HO} (x : ObjOk P w H h a o) : ∃ ob, h.get? a = some ob := by
  induction o with
  | lst xs => obtain ⟨_, _, _, _, e⟩ := x; exact ⟨_, e⟩
  | tup xs => obtain ⟨_, _, _, ob, e, _⟩ := x; exact ⟨ob, e⟩
  | dK kvs => obtain ⟨_, _, _, _, ob, _, _, e, _⟩ := x; exact ⟨ob, e⟩
  | dT kvs => obtain ⟨_, _, _, _, ob, _, _, e, _⟩ := x; exact ⟨ob, e⟩
  | set S n => obtain ⟨ob, _, _, _, e, _⟩ := x; exact ⟨ob, e⟩
  | ins C dx fs => obtain ⟨_, _, _, e, _⟩ := x; exact ⟨_, e⟩
  | own y => exact x
  | xd fs => obtain ⟨_, ⟨ob, _, _, e, _⟩, _⟩ := x; exact ⟨ob, e⟩
  | rng lo hi => obtain ⟨_, _, _, e⟩ := x; exact ⟨_, e⟩
  | frz ob u ih => exact ⟨_, x.1⟩
  | tbl ps => exact ⟨_, x⟩
  | met f y => exact ⟨_, x⟩
  | ext φ => obtain ⟨_, e, _⟩ := x; exact e
theorem un_step {P : Program} {w : World} {fs : List Addr} {H0 H1 : Hp} {h0 h1 h2 : Heap} (u : Un fs [] H0 H1 h0 h1) (ok : HOk P w H1 h1) (fr : ∀ b ∈ fs, H1 b = none)
    (kp : ∀ b o, h1.get? b = some o → ((∃ v, h0.get? b = some v) ∨ ∃ v, H1 b = some v) → b ∉ fs → h2.get? b = some o) (sl : ∀ b o, h1.get? b = some o → b ∈ fs → ∃ z, h2.get? b = some { o with slots := z }) :
    Un fs [] H0 H1 h0 h2 ∧ HOk P w H1 h2 := by
  refine ⟨⟨fun b o e n hb hx => kp b o (u.keep b o e n hb hx) (.inl ⟨o, e⟩) hb, fun b o e n hb hx => ?_, u.free, fun b o e hx => ?_, u.tups, u.frzs, u.tbls⟩, fun a o e => ?_⟩
  · obtain ⟨z, e1⟩ := u.slot b o e n hb hx
    obtain ⟨z2, e2⟩ := sl b _ e1 hb
    exact ⟨z2, e2⟩
  · obtain ⟨o', e1⟩ := u.there b o e hx
    by_cases hb : b ∈ fs
    · obtain ⟨z, e2⟩ := sl b _ e1 hb
      exact ⟨_, e2⟩
    · exact ⟨o', kp b o' e1 (.inl ⟨o, e⟩) hb⟩
  · refine (ok a o e).stay (fun b v hb q => ?_) (fun _ q => q) fun _ _ q => q
    have hs : ∃ v, H1 b = some v := by
      rcases hb with z | z
      · exact ⟨o, by rw [z]; exact e⟩
      · exact ⟨_, z⟩
    refine kp b v q (.inr hs) fun z => ?_
    obtain ⟨v', e'⟩ := hs
    rw [fr b z] at e'; cases e'
def CXe (P : Program) (w : World) : CXT := fun outer H s E e s' =>
  ∃ (ea : Addr) (cls a0 : Value) (B : Heap) (H' : Hp), e = .ref ea ∧ s'.os = s.os ∧ AllBare s'.gens ∧ Un (frs outer) [] H H' s.heap s'.heap ∧ HOk P w H' s'.heap ∧ Heap.FlyingW B outer ea cls a0 s'.heap ∧
    (∀ b o, s'.heap.get? b = some o → ((∃ v, s.heap.get? b = some v) ∨ ∃ v, H' b = some v) → b ∉ frs outer → B.get? b = some o) ∧ E cls none H'
theorem passE0 {P : Program} {w : World} {X : Cx} : Passes (CXe P w) X E0 := fun _ _ _ _ _ _ _ h => by
  obtain ⟨_, _, _, _, _, _, _, _, _, _, _, _, z⟩ := h
  exact z.elim
section
variable {P : Program} {w : World} {K : PySem.W.Frag} {mg : Str → Option Value} {base : Heap} {N : List Str} {qual : Str} {scope : Scope} {f : Addr} {cd : Value} {A : Around} {outer : List Env} {s : Shared} {H : Hp} {E : XK}
theorem raiseL {pins : List (Addr × Obj)} {σ : L2.St} {H1 : Hp} {s1 : Shared} {C e : Addr} {vs : List Value} {h1 : Heap} (I : Inv (cxOf (CXe P w) P w K mg base N qual scope f cd A outer s H E) pins σ H1 s1)
    (hx : Heap.MadeExcOf s1.heap h1 e (.ref C) vs) (hE : E (.ref C) none H1) : (cxOf (CXe P w) P w K mg base N qual scope f cd A outer s H E).xe (.ref e) { s1 with heap := h1 } := by
  have L0 : ∀ b o, s.heap.get? b = some o → b ≠ (envOfC qual scope s.heap.objs.size f cd).locals := fun b o e => Nat.ne_of_lt (Nat.lt_of_lt_of_le (Heap.lt_size e) I.ok.above)
  have nin : ∀ b, ((∃ v, s.heap.get? b = some v) ∨ ∃ v, H1 b = some v) → b ∉ frs outer → b ∉ frs (envOfC qual scope s.heap.objs.size f cd :: outer) := fun b hb hn hm => by
    rcases List.mem_cons.mp (I.stkSub b hm) with z | z
    · rcases hb with ⟨v, e⟩ | ⟨v, e⟩
      · exact L0 b v e z
      · rw [z] at e
        have := I.free
        rw [e] at this; cases this
    · exact hn z
  have fh : s1.heap.FunFrames (PySem.W.hideAll s1.heap (frs (envOfC qual scope s.heap.objs.size f cd :: outer))) (envOfC qual scope s.heap.objs.size f cd :: outer) :=
    PySem.W.funFrames_hide I.stack fun env he b hb => List.mem_filterMap.mpr ⟨env, he, hb⟩
  refine wpAny_leaves_madeW (s := { s1 with heap := h1 }) I.ok.frames rfl (fun b o q => PySem.W.of_hideAll _ q) fh hx fun h' t fl _ _ sm => ?_
  have inB : ∀ b o, s1.heap.get? b = some o → ((∃ v, s.heap.get? b = some v) ∨ ∃ v, H1 b = some v) → b ∉ frs outer → (PySem.W.hideAll s1.heap (frs (envOfC qual scope s.heap.objs.size f cd :: outer))).get? b = some o :=
    fun b o e hb hn => PySem.W.hideAll_get _ e (nin b hb hn)
  have dat : ∀ b o, s1.heap.get? b = some o → b ∈ frs outer → ∀ vs, o.data ≠ .fields vs := fun b o e hb => by
    obtain ⟨_, o', ho', hd⟩ := I.funs.mem hb
    rw [e] at ho'; cases ho'; exact hd
  have U := un_step (P := P) (w := w) (h2 := h') I.base I.hok (fun b hb => by
      obtain ⟨_, o, ho, _⟩ := I.ok.funs.mem hb
      exact I.base.free b o ho (I.ok.frf b hb) (fun z => nomatch z)) (fun b o e hb hn => fl.1 _ _ (inB b o e hb hn)) fun b o e hb => sm b o (hx.keeps b o e) (dat b o e hb)
  refine ⟨e, .ref C, .ref t, _, H1, rfl, I.os, I.bare, U.1, U.2, fl, fun b o q hb hn => ?_, hE⟩
  have there : ∃ v, s1.heap.get? b = some v := by
    rcases hb with ⟨v, z⟩ | ⟨v, z⟩
    · exact I.base.there b v z (fun z => nomatch z)
    · exact obj_there (I.hok b v z)
  obtain ⟨v, z⟩ := there
  have q2 := inB b v z hb hn
  have := fl.1 _ _ q2
  rw [q] at this; cases this
  exact q2
end
abbrev ExcK (K : PySem.W.Frag) (C : Addr) : Prop := PySem.W.excIn K C [.type "ValueError", .type "Exception", .type "BaseException", .type "object"] "ValueError.__new__" = true
theorem exc_obj {K : PySem.W.Frag} {h : Heap} {C : Addr} {ms : List Value} {ni : String} (X : K.In h) (q : PySem.W.excIn K C ms ni = true) :
    ∃ tl N nm ql bs hd sn sub ab col dd j0 j1 j2 j3 j5 mN, h.get? C = some (excClassObj nm ql C N bs tl hd sn sub ab col dd j0 j1 j2 j3 j5 ni) ∧ h.Ns N mN ∧ mN "__init__" = none ∧ OwnTail h ms tl := by
  unfold PySem.W.excIn at q
  split at q
  · rename_i dd cdat slots hob
    split at q
    · rename_i C2 tl j0 j1 j2 j3 n2 j5 em es
      simp only [Bool.and_eq_true, beq_iff_eq, Bool.not_eq_true'] at q
      obtain ⟨⟨⟨⟨⟨e1, e2⟩, e3⟩, e4⟩, e5⟩, e6⟩ := q
      subst e1 e2
      obtain ⟨c1, c2, c3, c4, c5, c6, c7, c8, c9, c10, c11⟩ := cdat
      dsimp only at em e3 e5 e6
      subst em e3
      have eslots : slots = #[j0, j1, j2, j3, some (.builtin n2), j5] := by
        obtain ⟨ls⟩ := slots
        simp only at es
        rw [es]
      subst eslots
      refine ⟨tl, c4, c1, c5, c2, c6, c7, c8, c9, c10, dd, j0, j1, j2, j3, j5, h.nsMap c4, X _ _ hob, ?_, PySem.W.nsMap_none_of_in X e5 e6, PySem.W.tail_of_in X e4⟩
      exact .of_isNs (PySem.W.isNs_of_in X e5)
    · cases q
  · cases q
section
variable {X : Cx} {x : Str} {C : Addr} {np cpos pos : Pos} {e : Expr} {es : List Expr} {ta : TA} {E : XK}
theorem ps_raise (hc : X.calm = true) (hg : Gl X x) (hm : X.mg x = some (.ref C)) (hx : ExcK X.K C) (ha : PA X (e :: es) ta)
    (hE : ∀ (pins : List (Addr × Obj)) (σ : L2.St) (H : Hp) (s : Shared) (ea : Addr) (vs : List Value) (h1 : Heap), Inv X pins σ H s → Heap.MadeExcOf s.heap h1 ea (.ref C) vs → E (.ref C) none H → X.xe (.ref ea) { s with heap := h1 })
    (hs : starEach (e :: es) X.env = (false, eval e X.env) :: starEach es X.env := by rfl) (hpl : (backTo cpos (starEach es X.env)).any (·.1) = false := by rfl) (hd : (x == ("__debug__" : Str)) = false := by decide) :
    PS X (.Raise (some (.Call (.Name x np) (e :: es) [] cpos)) none pos) (tRaise C E ta) := by
  intro pins s σ H D I h
  obtain ⟨tl, N, nm, ql, bs, hdd, sn, sub, ab, col, dd, j0, j1, j2, j3, j5, mN, hC, hN, hni, T⟩ := exc_obj I.ok.mod.kin hx
  refine wpAny_Raise_call_subT (C := C) (nm := nm) (q := ql) (N := N) (bs := bs) (bm := tl) (hdct := hdd) (sn := sn) (sub := sub) (ab := ab) (col := col) (dd := dd) (k0 := j0) (k1 := j1) (k2 := j2) (k3 := j3) (k5 := j5) PySem.F.excBase_ValueError (mN := mN)
    (T.hasType PySem.F.excBase_ValueError.hasBase) (I.ok.hd hc) ?_ hni (ld_glob I hg hm ⟨rfl, ?_⟩ hd)
  · rw [hs]
    show (false || (backTo cpos (starEach es X.env)).any (·.1)) = false
    rw [hpl]; rfl
  · have q := ha cpos pins s σ H _ I h
    rw [hs] at q ⊢
    refine Calls.evalArgs_plain (thn q fun us s1 ⟨vs, H1, I1, r, l1, hE1⟩ => ⟨rfl, ?_, I1.bk _ _ hC, hN.keeps I1.bk, T.keeps I1.bk, fun h1 ea hmade => hE pins σ H1 s1 ea _ h1 I1 hmade hE1⟩)
    rw [← r.length]
    exact Nat.le_trans l1 (by decide)
end
end G
namespace G
open PySem L2 PySem.Spec PyProof.Rows
section
variable {X : Cx} {CX : CXT} {k : Nat} {f C : Addr} {fd : FuncData} {ps : List Str} {sp : Sp} {dvs : List V} {ds : List Value} {E : L2.St → XK} {x m : Str} {p pos apos : Pos} {e o : Expr} {es : List Expr} {ta : TE} {t : TA}
end
section
variable {X : Cx} {pins : List (Addr × Obj)} {σ : L2.St} {H : Hp} {s : Shared}
end
section
variable {X : Cx} {x : Str} {C : Addr} {np pos hpos : Pos} {body suite : List Stmt} {b₀ : Stmt} {Mt : Value → Prop} {tb : (L2.St → XK) → TS} {th : TS}
end
end G
namespace G
open PySem L2 PySem.Spec PyProof.Rows
section
variable {P : Program} {w : World} {K : PySem.W.Frag} {mg : Str → Option Value} {base : Heap} {x qual : Str} {st : Stmt} {f : Addr} {fd : FuncData} {N ps : List Str} {k : Nat} {sp : Sp}
theorem fok (F : Fun K x qual st f fd) (S : FnScope N ps (defScope st)) (len : ∀ vs H Q E, sp vs H Q E → vs.length = ps.length)
    (hbody : ∀ (cdv : Value) (A : Around) (outer : List Env) (s : Shared) (H : Hp) (vs : List V) (Q : VK) (E : XK), Room k (A.deeper (envOfC qual (defScope st) s.heap.objs.size f cdv)) → sp vs H Q E →
      ∃ t, PSs (cxOf (CXe P w) P w K mg base N qual (defScope st) f cdv A outer s H E).nox (defBody st) t ∧ t { nx := fun _ H' => Q .non H', rt := Q } (start N vs) H) : FnOk P w K mg base (CXe P w) (k + 1) f fd ps sp := by
  obtain ⟨oc, od, kV, doc, pm, an, cdv, ct, osl, rfl, lk, hcd⟩ := F.ex
  refine fn_of lk hcd S len fun A outer s H vs Q E hr hsp => ?_
  obtain ⟨t, h, q⟩ := hbody cdv A outer s H vs Q E hr hsp
  exact ⟨t, h.nox, q⟩
theorem fokDX (F : FunD K x qual st f fd) (S : FnScope N ps (defScope st)) (len : ∀ vs H Q E, sp vs H Q E → vs.length = ps.length)
    (hbody : ∀ (cdv : Value) (A : Around) (outer : List Env) (s : Shared) (H : Hp) (vs : List V) (Q : VK) (E : XK), Room k (A.deeper (envOfC qual (defScope st) s.heap.objs.size f cdv)) → sp vs H Q E →
      ∃ t, PSs (cxOf (CXe P w) P w K mg base N qual (defScope st) f cdv A outer s H E) (defBody st) t ∧ t { nx := fun _ H' => Q .non H', rt := Q } (start N vs) H) : FnOk P w K mg base (CXe P w) (k + 1) f fd ps sp := by
  obtain ⟨oc, od, dV, kV, doc, pm, an, cdv, ct, osl, rfl, lk, hcd⟩ := F.ex
  exact fn_of lk hcd S len fun A outer s H vs Q E hr hsp => hbody cdv A outer s H vs Q E hr hsp
end
end G
namespace G
open PySem L2 PySem.Spec PyProof.Rows
structure ExcI (K : PySem.W.Frag) (C : Addr) : Prop where
  ga : PySem.W.findIn K (.ref C) "__getattribute__" = some (some (.builtin "BaseException.__getattribute__"))
  no : PySem.W.findIn K (.ref C) "__getattr__" = some none
  cl : PySem.W.findIn K (.ref C) "__class__" = some (some (.builtin "object.__class__"))
  so : PySem.W.mroIn K C (.type "object") = some true
  sb : PySem.W.mroIn K C (.type "BaseException") = some true
  is : PySem.W.hasDictIn K C = true
section
variable {prog : Program} {w : World} {A : Around} {E : Value → Shared → Prop} {h : Heap} {g : Array GenState} {d : Drawn} {t : Nat} {os : OsState} {a : Addr} {o : Obj} {C : Addr} {K : PySem.W.Frag}
end
section
variable {X : Cx}
theorem call_listL : CallR X (.type "list") (cListL X.K) := by
  intro pins s σ H xs us Q I r h
  obtain ⟨p, ys, rfl, hs, q⟩ := h
  exact call_list_of pins s σ H [.ref p] us Q I r ⟨p, ys, rfl, .inl hs, q⟩
end
end G
namespace G
open PySem L2 PySem.Spec PyProof.Rows
theorem none_mro : fastBuiltinMro "NoneType" = some [.type "NoneType", .type "object"] := by decide +kernel
section
variable {K : PySem.W.Frag} {A : Around} {a C : Addr} {o : Obj}
theorem eq_chk {M : Model} {E : Value → Shared → Prop} {s : Shared} {Q : Unit → Shared → Prop} (LI : PySem.W.Looks M s.heap (isInstance (.ref a) (.type "object")) true) (hq : Q () s) : wpAny M A (checkBuiltinCall "object.__eq__" ⟨[.ref a, .none], []⟩) Q E s := by
  have ha := PySem.F.cmpArgs_eq (.ref a) .none
  simp only [checkBuiltinCall, PySem.F.cmpKind_eq, PySem.F.cmpSplit_eq]
  refine wpAny_bind (LI.here ?_)
  simp only [Bool.not_true, Bool.false_eq_true, if_false]
  cases hsig : Manifest.signature? "object.__eq__" with
  | none => exact wpAny_pure hq
  | some sig =>
    simp only [argsOk, hsig] at ha
    have h2 : Bind.checkArgs "object.__eq__" sig ⟨[.ref a, .none], []⟩ = pure () := ha
    show wpAny M A (Bind.checkArgs "object.__eq__" sig ⟨[.ref a, .none], []⟩) Q E _
    rw [h2]
    exact wpAny_pure hq
theorem eq_call {prog : Program} {w : World} {E : Value → Shared → Prop} {s : Shared} {Q : Value → Shared → Prop} (LI : PySem.W.Looks (model prog w) s.heap (isInstance (.ref a) (.type "object")) true) (hq : Q .notImplemented s) :
    wpAny (model prog w) A (call (.builtin "object.__eq__") [.ref a, .none]) Q E s := by
  refine wpAny_call (codeAny_call_builtin PySem.F.cmp_object.eq.plain PySem.F.cmpEntry_eq (eq_chk LI ?_))
  obtain ⟨h, g, d, t, os⟩ := s
  unfold Builtin.«object.__eq__»
  repeat (first | with_reducible refine wpAny_bind (m := isSame (.ref a) .none) (wpAny_pure ?_) | wp_step)
  exact hq
theorem try_eq {prog : Program} {w : World} {E : Value → Shared → Prop} {s : Shared} {Q : Option Value → Shared → Prop} (X : K.In s.heap) (hx : s.heap.get? a = some o) (hc : o.cls = .ref C) (hE : EqD K C) (hq : Q none s) :
    wpAny (model prog w) A (tryCompare (.ref a) "__eq__" .none) Q E s := by
  have LT : PySem.W.Looks (model prog w) s.heap (typeOf (.ref a)) (.ref C) := hc ▸ (PySem.W.Looks.ld hx).andThen .now
  have LI : PySem.W.Looks (model prog w) s.heap (isInstance (.ref a) (.type "object")) true := LT.andThen (PySem.W.looks_mroIn X hE.ob)
  have LS : PySem.W.Looks (model prog w) s.heap (specialOf (.ref a) "__eq__") (some (.builtin "object.__eq__")) := LT.andThen (PySem.W.looks_findIn X hE.eq)
  simp only [tryCompare]
  refine wpAny_bind ?_
  simp only [callSpecialIfBound?, bindSpecialIfBound?]
  refine wpAny_holding (wpAny_bind (wpAny_bind (LS.here ?_)))
  simp only [PySem.F.cmp_object.eq.bind]
  have fin : wpAny (model prog w) A (call (.builtin "object.__eq__") ([.ref a] ++ [.none]) >>= fun v => pure (some v)) (fun r s' => wpAny (model prog w) A (match r with | some .notImplemented | none => pure none | some v => pure (some v)) Q E s') E s :=
    wpAny_bind (eq_call LI (wpAny_pure (wpAny_pure hq)))
  refine wpAny_bind (wpAny_askSetting (wpAny_ite ?_))
  split
  · exact wpAny_bind (wpAny_pure (wpAny_pure fin))
  · exact wpAny_tryCatch (wpAny_bind (wpAny_pure (wpAny_pure fin)))
theorem rc_inst {s : Shared} (X : K.In s.heap) (hx : s.heap.get? a = some o) (hc : o.cls = .ref C) (hE : EqD K C) (hu : A.units < cLine) : SeqAt.RcAt A s (.ref a) .none false := fun prog w E Q h => by
  have LT : PySem.W.Looks (model prog w) s.heap (typeOf (.ref a)) (.ref C) := hc ▸ (PySem.W.Looks.ld hx).andThen .now
  have hi : cmpInfo CmpOp.Eq = ("==", ("__eq__" : Str), ("__eq__" : Str)) := rfl
  have ho : oneThing? .Eq (.ref a) .none = none := rfl
  simp only [richCompare, hi, ho]
  try with_reducible refine wpAny_holding ?_
  refine wpAny_bind (wpAny_cRoomFor_or (.inr hu) ?_)
  refine wpAny_bind (LT.here (wpAny_bind (m := typeOf .none) (wpAny_pure ?_)))
  have hne : (Value.ref C != Value.type "NoneType") = true := by simp
  simp only [hne, if_true]
  have hs : isSubtype (.type "NoneType") (.ref C) = pure false := by
    rw [isSubtype_type, none_mro]
    rfl
  refine wpAny_bind (wpAny_of_eq hs ?_)
  simp only [Bool.false_eq_true, if_false, Bool.not_false, if_true]
  refine wpAny_bind (m := tryCompare (.ref a) _ .none) (try_eq X hx hc hE ?_)
  refine wpAny_bind (m := tryCompare .none _ (.ref a)) (wpAny_tryCompare_declines (T := "NoneType") rfl PySem.F.slot_NoneType_eq_refl (call_gives PySem.F.slot_NoneType_eq_refl rfl PySem.F.entry_NoneType_eq (PySem.F.args_NoneType_eq_2 _ _) (SeqAt.NoneType___eq___none_ref_0 a) ⟨rfl, ?_⟩))
  exact wpAny_bind (wpAny_rule (wpAny_bind (wpAny_of_eq (rfl : isSame (.ref a) .none = pure false) (wpAny_pure h))))
theorem eq_inst {s : Shared} (X : K.In s.heap) (hx : s.heap.get? a = some o) (hc : o.cls = .ref C) (hE : EqD K C) (hu : A.units < cLine) : SeqAt.EqAt A s (.ref a) .none false := fun prog w E Q h => by
  unfold eqBool
  refine wpAny_holding ?_
  refine wpAny_ite_split (fun hab => absurd (eq_of_beq hab) nofun) (fun _ => ?_)
  exact wpAny_bind (rc_inst X hx hc hE hu prog w E _ (wpAny_truthy_bool h))
end
section
variable {X : Cx}
def noneU (u : Value) : Bool := match u with
  | .none => true
  | _ => false
theorem noneU_of {H : Hp} {y : V} {u : Value} (r : RelV y u) (h : y = .non ∨ ∃ a C dx fs, y = .ref a ∧ H a = some (.ins C dx fs) ∧ Cls X.K C ∧ EqD X.K C) : noneU u = decide (y = .non) := by
  rcases h with rfl | ⟨a, _, _, _, rfl, _⟩
  · obtain rfl : u = Value.none := r
    rfl
  · obtain rfl : u = Value.ref a := r
    rfl
theorem noneU_at {pins : List (Addr × Obj)} {σ : L2.St} {H : Hp} {s : Shared} {A : Around} {y : V} {u : Value} (I : Inv X pins σ H s) (hu : A.units < cLine) (r : RelV y u) (h : y = .non ∨ ∃ a C dx fs, y = .ref a ∧ H a = some (.ins C dx fs) ∧ Cls X.K C ∧ EqD X.K C) : SeqAt.EqAt A s u .none (noneU u) := by
  rcases h with rfl | ⟨a, C, dx, fs, rfl, ha, hc, he⟩
  · obtain rfl : u = Value.none := r
    exact SeqAt.EqAt.same .none
  · obtain rfl : u = Value.ref a := r
    obtain ⟨_, _, _, e, _⟩ := (show ObjOk X.prog X.w H s.heap a (.ins C dx fs) from I.hok a _ ha)
    exact eq_inst I.kIn e rfl he hu
theorem none_any {H : Hp} : ∀ {xs : List V} {us : List Value}, Vals xs us → OkN X.K H xs → us.any noneU = decide (V.non ∈ xs)
  | _, _, .nil, _ => rfl
  | y :: xs, u :: us, .cons r t, h => by
    rw [List.any_cons, none_any t fun z hz => h z (List.mem_cons_of_mem _ hz), noneU_of r (h y List.mem_cons_self), Bool.eq_iff_iff]
    simp only [Bool.or_eq_true, decide_eq_true_eq, List.mem_cons]
    constructor
    · rintro (z | z)
      · exact .inl z.symm
      · exact .inr z
    · rintro (z | z)
      · exact .inl z.symm
      · exact .inr z
theorem none_mem {H : Hp} {pins : List (Addr × Obj)} {σ : L2.St} {s : Shared} {A : Around} {xs : List V} {us : List Value} (I : Inv X pins σ H s) (hu : A.units < cLine) (r : Vals xs us) (h : OkN X.K H xs) : ∀ u ∈ us, SeqAt.EqAt A s u .none (noneU u) := by
  intro u hm
  obtain ⟨i, hi, rfl⟩ := List.getElem_of_mem hm
  have hl := r.length
  have hx : xs[i]? = some xs[i] := List.getElem?_eq_getElem (by omega)
  obtain ⟨u', e, ru⟩ := r.get hx
  rw [List.getElem?_eq_getElem hi] at e
  cases e
  exact noneU_at I hu ru (h _ (List.getElem_mem (by omega)))
theorem op_notInN (hu : X.A.units + 1 < cLine) : OpR X (compareOp .NotIn) (rInN X.K true) := by
  intro pins s σ H x y v u Q I rx ry h
  obtain ⟨p, xs, rfl, rfl, hs, hk, q⟩ := h
  obtain rfl : v = Value.none := rx
  cases ry
  obtain ⟨us, r, pl, _⟩ := I.list hs
  refine SeqAt.notIn_listAt noneU pl.isList (fun w hw => none_mem I (by show X.A.units + 1 < cLine; exact hu) r hk w (by simpa using hw)) ⟨.bl _, H, I, rfl, ?_⟩
  rw [show us.toArray.any noneU = us.any noneU by simp, none_any r hk]
  exact q
theorem none_idx {H : Hp} {xs : List V} {us : List Value} (r : Vals xs us) (h : OkN X.K H xs) (j : Nat) (hj : j < us.length) (hj' : j < xs.length) : noneU us[j] = decide (xs[j] = V.non) := by
  obtain ⟨u', e, ru⟩ := r.get (List.getElem?_eq_getElem hj')
  rw [List.getElem?_eq_getElem hj] at e
  cases e
  exact noneU_of ru (h _ (List.getElem_mem hj'))
theorem mt_indexN (hu : X.A.units + 1 < cLine) : MtR X "list.index" (rIndexN X.K) := by
  intro pins s σ H x xs v us Q I rx rs h
  obtain ⟨p, ys, rfl, rfl, hs, hk, hn, q⟩ := h
  obtain rfl : v = Value.ref p := rx
  obtain ⟨u, rfl, ru⟩ := Vals.one rs
  obtain rfl : u = Value.none := ru
  obtain ⟨ws, r, pl, hz⟩ := I.list hs
  obtain ⟨⟨cls, dd, data, sl⟩, ho, hc, n, hd⟩ := pl.isList
  simp only at hc hd
  subst hc hd
  have hl := r.length
  have hj : ys.idxOf V.non < ys.length := List.idxOf_lt_length_iff.mpr hn
  have hz2 : ys.length < 2 ^ 62 := Nat.lt_of_le_of_lt hz (by decide)
  refine call_meets PySem.F.slot_list_index ⟨_, ho, rfl⟩ PySem.F.entry_list_index (PySem.F.args_list_index_2 _ _)
    (SeqAt.list_indexAt p ws.toArray n dd sl .none noneU (ys.idxOf V.non) (by simpa [hl] using hj) (by omega) ?_ ?_) ⟨ho, fun y hy => none_mem I (by show X.A.units + 1 < cLine; exact hu) r hk y (by simpa using hy), ⟨.int _, H, I.tok _, ⟨_, rfl⟩, q⟩⟩
  · show noneU ws[ys.idxOf V.non] = true
    rw [none_idx r hk _ (by omega) hj, decide_eq_true_eq]
    exact List.getElem_idxOf hj
  · intro j hjs hlt
    show noneU ws[j] = false
    rw [none_idx r hk j (by simpa using hjs) (by omega), decide_eq_false_iff_not]
    intro e
    have := List.not_of_lt_findIdx (p := (· == V.non)) (xs := ys) hlt
    simp [e] at this
end
end G
namespace G
open PySem L2
end G
namespace G
open PySem L2 PySem.Spec PyProof.Rows
section
variable {X : Cx}
structure Mk0 (K : PySem.W.Frag) (C : Addr) : Prop where
  makes : PySem.W.makesIn K C = true
  init : PySem.W.findIn K (.ref C) "__init__" = some (some (.builtin "object.__init__"))
  kp : PySem.W.keepIn K (.ref C) = true
structure InsI (K : PySem.W.Frag) (C : Addr) : Prop where
  pg : PySem.W.plainGet K C "__class__" = true
  hd : PySem.W.hasDictIn K C = true
  cl : PySem.W.findIn K (.ref C) "__class__" = some (some (.builtin "object.__class__"))
  sp : PySem.W.specialIn K (.builtin "object.__class__") "__get__" = some (some (.builtin "getset_descriptor.__get__"))
  tk : PySem.W.takesIn K (.builtin "object.__class__") = some true
  so : PySem.W.mroIn K C (.type "object") = some true
end
end G
namespace G
open PySem L2
end G
namespace G
open PySem L2 PySem.Spec PyProof.Rows
end G
namespace G
open PySem L2 PySem.Spec PyProof.Rows
section
variable {σ : L2.St} {H : Hp} {Q : VK} {td ty tv : TE} {n bk ct : L2.St → Hp → Prop} {r : VK}
theorem i_dget (h : td σ H fun x H1 => ty σ H1 fun y H2 => ∃ a v, x = .ref a ∧ DGet H2 a y (some v) ∧ Q v H2) : tDGet td ty σ H Q := h
theorem i_dnotin (h : ty σ H fun y H1 => td σ H1 fun x H2 => ∃ a o, x = .ref a ∧ DGet H2 a y o ∧ Q (.bl (!o.isSome)) H2) : tDNotIn ty td σ H Q := h
theorem i_dput (h : tv σ H fun v H1 => td σ H1 fun x H2 => ty σ H2 fun y H3 => ∃ a H4, x = .ref a ∧ DPut H3 a y v H4 ∧ n σ H4) : sDPut td ty tv ⟨n, r, bk, ct⟩ σ H := h
end
end G
namespace G
open PySem L2 PySem.Spec PyProof.Rows
def LCg2 (K : PySem.W.Frag) (J : It) (caps : List Nat) (tc : TT) (te : TE) (σ : L2.St) (H1 : Hp) (Q : VK) : Prop := ∃ W : Nat → Nat → List V → Hp → Prop, (∃ m, W 0 m [] H1) ∧ ∀ i m ys H, W i m ys H →
  (J.stop i H ∧ ∀ p, H p = none → Q (.ref p) (upd H p (.lst ys))) ∨
  (J.go i H ∧ ys.length < sizeLine ∧ ∀ x H', J.yld i H x H' → ∃ a u v, x = .ref a ∧ SqT K H' a [u, v] ∧ tc (some u :: some v :: caps.map (pick σ)) H' fun k H2 => if k = true then te (some u :: some v :: caps.map (pick σ)) H2 (fun y H3 => ∃ m', m' < m ∧ W (i + 1) m' (ys ++ [y]) H3) else ∃ m', m' < m ∧ W (i + 1) m' ys H2)
def tLC2 (K : PySem.W.Frag) (wi : TI) (caps : List Nat) (tc : TT) (te : TE) : TE := fun σ H Q => wi σ H fun J H1 => LCg2 K J caps tc te σ H1 Q
theorem i_lcg2 {K : PySem.W.Frag} {wi : TI} {caps : List Nat} {tc : TT} {te : TE} {σ : L2.St} {H : Hp} {Q : VK} (h : wi σ H fun J H1 => LCg2 K J caps tc te σ H1 Q) : tLC2 K wi caps tc te σ H Q := h
theorem pe_lc2 {X : Cx} {elt iter : Expr} {x y : Str} {px py pt pos : Pos} {kt : Nat} {ifs : List Expr} {scope : Scope} {cl : List (Str × Addr)} {wi : TI} {tc : TT} {te : TE} {cns : List Str} (caps : List Nat)
    (hi : PI X (.Tuple [.Name x px, .Name y py] kt pt) iter wi)
    (hf : ∀ C s H ex pn, PF (cxLC X scope cl (x :: y :: cns) C s H ex pn) ifs tc) (he : ∀ C s H ex pn, PE (cxLC X scope cl (x :: y :: cns) C s H ex pn) elt te) (hc : X.calm = true)
    (hclos : closureFor scope X.env = pure cl) (hcl : AllIn X.env.cells cl) (hcap : CapOk X cns caps)
    (hkind : scope.kind = .function) (hcell : (scope.names.all fun p => p.2 != .cell) = true) (hfree : (scope.names.all fun p => p.2 != .free || (cl.lookup p.1).isSome) = true)
    (hcf : (cns.all fun y => scope.names.lookup y == some .free) = true) (hnames : ∀ y ∈ scope.names, y.2 = .local → scope.names.lookup y.1 = some .local) (hx : scope.names.lookup x = some .local) (hy : scope.names.lookup y = some .local) (hnd : (x :: y :: cns).Nodup)
    (hs : ∀ v, foldedSetIterable iter X.env v = pure v := by intro _; rfl) :
    PE X (.ListComp elt [⟨.Tuple [.Name x px, .Name y py] kt pt, iter, ifs, 0⟩] scope pos) (tLC2 X.K wi caps tc te) := by
  refine pe_lcG (ns := [x, y]) (gt := gTup X.K 2 (gCons (gName 0) (gCons (gName 1) gNil))) caps (fun J σ H Q h => ?_) hi (fun C s H ex pn => pg_tup hc (pgs_cons (pg_name hnd rfl (.inl (lookup_relabel_local hx)) (.inr (lookup_relabel_local hx))) (pgs_cons (pg_name hnd rfl (.inl (lookup_relabel_local hy)) (.inr (lookup_relabel_local hy))) pgs_nil))) hf he hc hclos hcl hcap hkind hcell hfree hcf hnames hs
  obtain ⟨W, w0, turn⟩ := h
  refine ⟨W, w0, fun i m ys H hw => (turn i m ys H hw).imp id fun ⟨g, l, st⟩ => ⟨g, l, fun z H' y vs hv => ?_⟩⟩
  obtain ⟨ta, u1, u2, ez, hst, st⟩ := st z H' y
  match vs, hv with
  | [v, v'], _ => exact ⟨[some u1, some u2], rfl, ⟨ta, _, ez, hst, rfl, _, _, rfl, _, _, rfl, rfl, rfl, rfl⟩, st⟩
end G
namespace G
open PySem L2 PySem.Spec PyProof.Rows
theorem ps_lcset {X : Cx} {iz : Nat} {z : Str} {pz posA : Pos} {elt iter : Expr} {x : Str} {px pos : Pos} {ifs : List Expr} {scope : Scope} {cl : List (Str × Addr)} {wi : TI} {tc : TT} {te : TE} {cns : List Str} (caps : List Nat)
    (hi : PI X (.Name x px) iter wi)
    (hf : ∀ C s H ex pn, PF (cxLC X scope cl (x :: cns) C s H ex pn) ifs tc) (he : ∀ C s H ex pn, PE (cxLC X scope cl (x :: cns) C s H ex pn) elt te) (hc : X.calm = true)
    (hclos : closureFor scope X.env = pure cl) (hcl : AllIn X.env.cells cl) (hcap : CapOk X cns caps)
    (hkind : scope.kind = .function) (hcell : (scope.names.all fun p => p.2 != .cell) = true) (hfree : (scope.names.all fun p => p.2 != .free || (cl.lookup p.1).isSome) = true)
    (hcf : (cns.all fun y => scope.names.lookup y == some .free) = true) (hnames : ∀ y ∈ scope.names, y.2 = .local → scope.names.lookup y.1 = some .local) (hx : scope.names.lookup x = some .local) (hnd : (x :: cns).Nodup)
    (hN : X.N.Nodup) (hiz : X.N[iz]? = some z) (hz : Loc X.env.scope z) (hfz : X.fn z = true ∨ X.env.scope.names.lookup z = some .local)
    (hsw : swapsWithSole [.Name z pz] (.ListComp elt [⟨.Name x px, iter, ifs, 0⟩] scope pos) posA.line X.env = pure true) (hs : ∀ v, foldedSetIterable iter X.env v = pure v := by intro _; rfl) :
    PS X (.Assign [.Name z pz] (.ListComp elt [⟨.Name x px, iter, ifs, 0⟩] scope pos) posA) (tAsg (tLC wi caps tc te) (gName iz)) := by
  intro pins s σ H D I h
  generalize hQ : (fun v H1 => gName iz v σ H1 D.nx) = Q
  have h : tLC wi caps tc te σ H Q := hQ ▸ h
  rw [exec_Assign_arm]
  refine wpAny_bind (wpAny_standAt ?_)
  rw [hsw]
  refine wpAny_bind (wpAny_pure ?_)
  rw [if_pos rfl]
  refine wpAny_bind ?_
  rw [evalThenUse]
  suffices key : wpAny (model X.prog X.w) X.A (comprehension (.ListComp elt [⟨.Name x px, iter, ifs, 0⟩] scope pos) scope X.env (firstIterPos [⟨.Name x px, iter, ifs, 0⟩] pos) (newList []) (firstAsync [⟨.Name x px, iter, ifs, 0⟩]) (firstIter [⟨.Name x px, iter, ifs, 0⟩] X.env) (some fun v => assignAll v ((assignEach [.Name z pz] X.env).map (·.2)))) (fun _ s' => SP X pins D .next s') X.xe s from
    wpAny_bind (wpAny_mono key (fun _ s' h => wpAny_pure (wpAny_pure h)) fun _ _ h => h)
  refine lc_core (ns := [x]) (gt := gName 0) (R := fun J σ H Q => LCg J caps tc te σ H Q) caps (fun J σ H Q h => ?_) hi (fun C s H ex pn => pg_name hnd rfl (.inl (lookup_relabel_local hx)) (.inr (lookup_relabel_local hx))) hf he hc hclos hcl hcap hkind hcell hfree hcf hnames hs I h fun acc C s6 m r0 hm fCC fin => ?_
  · obtain ⟨W, w0, turn⟩ := h
    refine ⟨W, w0, fun i m ys H hw => (turn i m ys H hw).imp id fun ⟨g, l, st⟩ => ⟨g, l, fun z H' y vs hv => ?_⟩⟩
    match vs, hv with
    | [v], _ => exact ⟨[some z], rfl, ⟨rfl, rfl⟩, st z H' y⟩
  obtain ⟨v, Hf, If, rf, qf, hfC⟩ := fin s6.heap (Heap.SameBut.refl _ _)
  have fC : FpOk X pins Hf C := fCC hfC
  obtain ⟨oC, esC, epC, gC, dC, kC, nC⟩ := hm
  have Ip : Inv X (pins ++ [(C, oC)]) σ Hf s6 := Inv.pins_of If fun p hp => by
    rcases List.mem_append.mp hp with hp | hp
    · exact If.pin p (List.mem_append_right _ hp)
    · rw [List.mem_singleton.mp hp]
      exact ⟨gC, fC.1, fC.2.1, fC.2.2.1, fun v z => by rw [dC] at z; cases z⟩
  show wpAny _ _ (assign (.Name z pz) X.env (.ref acc)) _ _ _
  refine wpAny_assign_Name (store_ok Ip hN hiz hz rf (fun s7 I7 => ?_) hfz)
  have g7 := (I7.pin (C, oC) (List.mem_append_right _ (List.mem_append_right _ List.mem_cons_self))).1
  refine ⟨m, ⟨oC, esC, epC, g7, dC, kC, nC⟩, fun h' hs' => ?_⟩
  have I8 := I7.unpinned
  have qf : D.nx (σ.set iz (some v)) Hf := by rw [← hQ] at qf; exact qf
  have kb : ∀ b o, b ≠ C → s7.heap.get? b = some o → h'.get? b = some o := fun b o hb e => hs'.extBut b o hb e
  refine ⟨_, Hf, I8.step (ch := [C]) (fun b hb => ?_) (fun b o _ _ hb e _ => kb b o (fun z => hb (by rw [z]; exact List.mem_cons_self)) e) (fun b o _ _ hb e _ => ⟨o.slots, kb b o (fun z => hb (by rw [z]; exact List.mem_cons_self)) e⟩) (fun _ _ _ _ h => h) (fun b o hb e => ⟨o, kb b o (fun z => hb (by rw [z]; exact List.mem_cons_self)) e⟩) (fun _ _ h => h) (fun _ _ _ h => h) (fun _ ps h => ⟨#[], by simpa using h⟩) (fun m' hm' => ?_) (fun b u e => ?_) I8.bare, qf⟩
  · rw [List.mem_singleton.mp hb]
    exact ⟨fC.2.2.2.1, fC.2.1, fC.2.2.2.2.1, fC.2.2.2.2.2⟩
  · obtain ⟨o', e1, e2, e3, e4, e5⟩ := hm'
    exact ⟨o', e1, e2, kb _ _ fC.2.1.symm e3, e4, e5⟩
  · refine (I8.hok b u e).stay (fun c w' hc q => kb c w' ?_ q) (fun _ q => q) fun _ _ q => q
    rintro rfl
    rcases hc with rfl | hc
    · rw [hfC] at e; cases e
    · rw [hfC] at hc; cases hc
end G
namespace G
open PySem L2 PySem.Spec PyProof.Rows
end G
namespace G
open PySem L2
def Ite (K : PySem.W.Frag) (a : Addr) : It :=
  ⟨fun i H => ∃ xs x, SqL K H a xs ∧ xs[i]? = some x, fun i H x H' => ∃ t v, x = .ref t ∧ H t = none ∧ H' = upd H t (.tup [.int i, v]) ∧ ∀ xs, SqL K H a xs → xs[i]? = some v, fun i H => ∃ xs, SqL K H a xs ∧ xs.length ≤ i⟩
def iEnum (K : PySem.W.Frag) (ta : TA) : TI := fun σ H R => ta σ H fun vs H1 => ∃ a, vs = [.ref a] ∧ (∃ xs, SqL K H1 a xs) ∧ R (Ite K a) H1
theorem i_iE {K : PySem.W.Frag} {ta : TA} {σ : L2.St} {H : Hp} {R : It → Hp → Prop} (h : ta σ H fun vs H1 => ∃ a, vs = [.ref a] ∧ (∃ xs, SqL K H1 a xs) ∧ R (Ite K a) H1) : iEnum K ta σ H R := h
theorem i_iT {K : PySem.W.Frag} {tl : TE} {σ : L2.St} {H : Hp} {R : It → Hp → Prop} (h : tl σ H fun x H1 => ∃ a, x = .ref a ∧ (∃ xs, SqT K H1 a xs) ∧ R (Itt K a) H1) : iTup K tl σ H R := h
def itemsO (v d : Addr) : HO := .ext fun h => h.IsItemsView v d
def tItems (td : TE) : TE := fun σ H Q => td σ H fun x H1 => ∃ a kvs, x = .ref a ∧ Rd H1 a (.dK kvs) ∧ ∀ v, H1 v = none → Q (.ref v) (upd H1 v (itemsO v a))
theorem i_items {td : TE} {σ : L2.St} {H : Hp} {Q : VK} (h : td σ H fun x H1 => ∃ a kvs, x = .ref a ∧ Rd H1 a (.dK kvs) ∧ ∀ v, H1 v = none → Q (.ref v) (upd H1 v (itemsO v a))) : tItems td σ H Q := h
def PrsAt (H : Hp) : List Addr → List (Key × V) → Prop
  | [], [] => True
  | t :: ts, kv :: kvs => H t = some (.tup [kV kv.1, kv.2]) ∧ PrsAt H ts kvs
  | _, _ => False
def cListI : List V → Hp → VK → Prop := fun xs H Q => ∃ v a kvs, xs = [.ref v] ∧ H v = some (itemsO v a) ∧ Rd H a (.dK kvs) ∧ ∀ l ts H', H l = none → Same H H' → H' l = some (.lst (ts.map V.ref)) → PrsAt H' ts kvs → Q (.ref l) H'
theorem i_listI {H : Hp} {Q : VK} {v a : Addr} {kvs : List (Key × V)} (h1 : H v = some (itemsO v a)) (h2 : Rd H a (.dK kvs)) (h : ∀ l ts H', H l = none → Same H H' → H' l = some (.lst (ts.map V.ref)) → PrsAt H' ts kvs → Q (.ref l) H') : cListI [.ref v] H Q := ⟨v, a, kvs, rfl, h1, h2, h⟩
def hasV (kvs : List (Key × V)) : V → Option Bool
  | .int i => some (valV kvs (.inl i)).isSome
  | .str x => some (valV kvs (.inr x)).isSome
  | .non => some false
  | _ => none
def tDInN (neg : Bool) (ty td : TE) : TE := fun σ H Q => ty σ H fun y H1 => td σ H1 fun x H2 => ∃ a kvs b, x = .ref a ∧ Rd H2 a (.dK kvs) ∧ hasV kvs y = some b ∧ Q (.bl (if neg then !b else b)) H2
theorem i_dinN {neg : Bool} {ty td : TE} {σ : L2.St} {H : Hp} {Q : VK} (h : ty σ H fun y H1 => td σ H1 fun x H2 => ∃ a kvs b, x = .ref a ∧ Rd H2 a (.dK kvs) ∧ hasV kvs y = some b ∧ Q (.bl (if neg then !b else b)) H2) : tDInN neg ty td σ H Q := h
section
variable {K : PySem.W.Frag} {a : Addr} {g : TG} {tb : TS} {σ : L2.St} {H : Hp} {n : L2.St → Hp → Prop} {r : VK}
theorem forE (xs : List V) (Pv : Nat → L2.St → Hp → Prop) (h0 : Pv 0 σ H) (hl : ∀ i σ H, i ≤ xs.length → Pv i σ H → SqL K H a xs)
    (hs : ∀ i x t σ H, xs[i]? = some x → Pv i σ H → H t = none → g (.ref t) σ (upd H t (.tup [.int i, x])) fun σ2 H2 => tb ⟨Pv (i + 1), r, n, Pv (i + 1)⟩ σ2 H2) (hd : ∀ σ H, Pv xs.length σ H → n σ H) :
    ∃ W : Nat → Nat → L2.St → Hp → Prop, (∃ m, W 0 m σ H) ∧ ∀ i m σ H, W i m σ H →
      ((Ite K a).stop i H ∧ n σ H) ∨ ((Ite K a).go i H ∧ ∃ N : L2.St → Hp → Prop, (∀ σ' H', N σ' H' → ∃ m', m' < m ∧ W (i + 1) m' σ' H') ∧ ∀ x H', (Ite K a).yld i H x H' → g x σ H' fun σ2 H2 => tb ⟨N, r, n, N⟩ σ2 H2) := by
  refine ⟨fun i m σ H => i ≤ xs.length ∧ m = xs.length - i ∧ Pv i σ H, ⟨xs.length, Nat.zero_le _, rfl, h0⟩, ?_⟩
  rintro i m σ H ⟨hi, rfl, p⟩
  have hq := hl i σ H hi p
  by_cases hk : i = xs.length
  · subst hk
    exact .inl ⟨⟨xs, hq, Nat.le_refl _⟩, hd σ H p⟩
  · have hlt : i < xs.length := by omega
    have hx : xs[i]? = some xs[i] := List.getElem?_eq_getElem hlt
    refine .inr ⟨⟨xs, _, hq, hx⟩, Pv (i + 1), fun σ' H' p' => ⟨xs.length - (i + 1), by omega, by omega, rfl, p'⟩, ?_⟩
    rintro x H' ⟨t, v, rfl, ht, rfl, hv⟩
    exact hs i v t σ H (hv xs hq) p ht
theorem forT (xs : List V) (Pv : Nat → L2.St → Hp → Prop) (h0 : Pv 0 σ H) (hl : ∀ i σ H, i ≤ xs.length → Pv i σ H → SqT K H a xs)
    (hs : ∀ i x σ H, xs[i]? = some x → Pv i σ H → g x σ H fun σ2 H2 => tb ⟨Pv (i + 1), r, n, Pv (i + 1)⟩ σ2 H2) (hd : ∀ σ H, Pv xs.length σ H → n σ H) :
    ∃ W : Nat → Nat → L2.St → Hp → Prop, (∃ m, W 0 m σ H) ∧ ∀ i m σ H, W i m σ H →
      ((Itt K a).stop i H ∧ n σ H) ∨ ((Itt K a).go i H ∧ ∃ N : L2.St → Hp → Prop, (∀ σ' H', N σ' H' → ∃ m', m' < m ∧ W (i + 1) m' σ' H') ∧ ∀ x H', (Itt K a).yld i H x H' → g x σ H' fun σ2 H2 => tb ⟨N, r, n, N⟩ σ2 H2) := by
  refine ⟨fun i m σ H => i ≤ xs.length ∧ m = xs.length - i ∧ Pv i σ H, ⟨xs.length, Nat.zero_le _, rfl, h0⟩, ?_⟩
  rintro i m σ H ⟨hi, rfl, p⟩
  have hq := hl i σ H hi p
  by_cases hk : i = xs.length
  · subst hk
    exact .inl ⟨⟨xs, hq, Nat.le_refl _⟩, hd σ H p⟩
  · have hlt : i < xs.length := by omega
    have hx : xs[i]? = some xs[i] := List.getElem?_eq_getElem hlt
    refine .inr ⟨⟨xs, _, hq, hx⟩, Pv (i + 1), fun σ' H' p' => ⟨xs.length - (i + 1), by omega, by omega, rfl, p'⟩, ?_⟩
    rintro x H' ⟨rfl, hv⟩
    exact hs i x σ H' (hv xs hq) p
theorem lc_enum {caps : List Nat} {tc : TT} {te : TE} {Q : VK} {xs : List V} (hs : SqL K H a xs) (hz : xs.length ≤ 1000000) (W : Nat → List V → Hp → Prop) (h0 : W 0 [] H) (hst : ∀ i ys H1, W i ys H1 → Same H H1 ∧ ys.length ≤ i)
    (step : ∀ i x ys H1 t (C : List V → Hp → Prop), (∀ zs H3, W (i + 1) zs H3 → C zs H3) → xs[i]? = some x → W i ys H1 → H1 t = none → tc (some (.int i) :: some x :: caps.map (pick σ)) (upd H1 t (.tup [.int i, x])) fun k H2 => if k = true then te (some (.int i) :: some x :: caps.map (pick σ)) H2 (fun y H3 => C (ys ++ [y]) H3) else C ys H2)
    (q : ∀ ys H1, W xs.length ys H1 → ∀ p, H1 p = none → Q (.ref p) (upd H1 p (.lst ys))) : LCg2 K (Ite K a) caps tc te σ H Q := by
  refine ⟨fun i m ys H1 => i ≤ xs.length ∧ m = xs.length - i ∧ W i ys H1, ⟨xs.length, Nat.zero_le _, rfl, h0⟩, ?_⟩
  rintro i m ys H1 ⟨hi, rfl, w⟩
  obtain ⟨sm, hl⟩ := hst i ys H1 w
  have hq : SqL K H1 a xs := sm.seq hs
  by_cases hk : i = xs.length
  · subst hk
    exact .inl ⟨⟨xs, hq, Nat.le_refl _⟩, q ys H1 w⟩
  · have hlt : i < xs.length := by omega
    refine .inr ⟨⟨xs, _, hq, List.getElem?_eq_getElem hlt⟩, Nat.lt_of_le_of_lt (show ys.length ≤ 1000000 by omega) (show 1000000 < sizeLine by decide), ?_⟩
    rintro x H' ⟨t, v, rfl, ht, rfl, hv⟩
    exact ⟨t, _, _, rfl, SqT.of upd_same, step i v ys H1 t (fun zs H3 => ∃ m', m' < xs.length - i ∧ i + 1 ≤ xs.length ∧ m' = xs.length - (i + 1) ∧ W (i + 1) zs H3) (fun zs H3 w' => ⟨xs.length - (i + 1), by omega, by omega, rfl, w'⟩) (hv xs hq) w ht⟩
end
end G
namespace G
open PySem L2 PySem.Spec PyProof.Rows
theorem inv_turn2 {X : Cx} {pins : List (Addr × Obj)} {σ : L2.St} {H : Hp} {s : Shared} {h' : Heap} {t' : Nat} {e it : Addr} (I : Inv X pins σ H s) (k : ∀ b u, b ≠ e → b ≠ it → s.heap.get? b = some u → h'.get? b = some u) (fe : FpOk X pins H e) (fi : FpOk X pins H it) :
    Inv X pins σ H { s with heap := h', toks := t' } := by
  have ne : ∀ b u, H b = some u → b ≠ e := fun b u q z => by rw [z, fe.1] at q; cases q
  have ni : ∀ b u, H b = some u → b ≠ it := fun b u q z => by rw [z, fi.1] at q; cases q
  have nm : ∀ b, b ∉ [e, it] → b ≠ e ∧ b ≠ it := fun b hb => ⟨fun z => hb (by simp [z]), fun z => hb (by simp [z])⟩
  refine I.step (g' := s.gens) (d' := s.drawn) (ch := [e, it]) (fun b hb => ?_) (fun b o _ _ hc q _ => k b o (nm b hc).1 (nm b hc).2 q) (fun b o _ _ hc q _ => ⟨o.slots, k b o (nm b hc).1 (nm b hc).2 q⟩) (fun _ _ _ _ n => n)
    (fun b o hc q => ⟨o, k b o (nm b hc).1 (nm b hc).2 q⟩) (fun _ _ q => q) (fun _ _ _ q => q) (fun b ps q => ⟨#[], by rw [q]; simp⟩) (fun m hm => ?_) (fun b u q => ?_) I.bare
  · rcases List.mem_cons.mp hb with z | z
    · rw [z]; exact ⟨fe.2.2.2.1, fe.2.1, fe.2.2.2.2.1, fe.2.2.2.2.2⟩
    · have z' : b = it := by simpa using z
      rw [z']; exact ⟨fi.2.2.2.1, fi.2.1, fi.2.2.2.2.1, fi.2.2.2.2.2⟩
  · obtain ⟨o, es, ep, ho, r⟩ := hm
    exact ⟨o, es, ep, k _ o (Ne.symm fe.2.1) (Ne.symm fi.2.1) ho, r⟩
  · refine (I.hok b u q).stay (fun c v hc z => ?_) (fun _ z => z) fun _ _ z => z
    rcases hc with y | y
    · rw [y] at z ⊢; exact k b v (ne b u q) (ni b u q) z
    · exact k c v (ne c _ y) (ni c _ y) z
theorem inv_turn2_laid {X : Cx} {pins : List (Addr × Obj)} {σ : L2.St} {H : Hp} {s : Shared} {h' : Heap} {t' : Nat} {e it a : Addr} {o : HO} (I : Inv X pins σ H s) (k : ∀ b u, b ≠ e → b ≠ it → s.heap.get? b = some u → h'.get? b = some u) (fe : FpOk X pins H e) (fi : FpOk X pins H it)
    (ha : s.heap.objs.size ≤ a) (new : ObjOk X.prog X.w (upd H a o) h' a o) : Inv X pins σ (upd H a o) { s with heap := h', toks := t' } := by
  have hn := I.hok.fresh ha
  have ne : ∀ b u, H b = some u → b ≠ e := fun b u q z => by rw [z, fe.1] at q; cases q
  have ni : ∀ b u, H b = some u → b ≠ it := fun b u q z => by rw [z, fi.1] at q; cases q
  have nm : ∀ b, b ∉ [e, it] → b ≠ e ∧ b ≠ it := fun b hb => ⟨fun z => hb (by simp [z]), fun z => hb (by simp [z])⟩
  have na : ∀ b u, s.heap.get? b = some u → b ≠ a := fun b u q => Nat.ne_of_lt (Nat.lt_of_lt_of_le (Heap.lt_size q) ha)
  refine I.step (g' := s.gens) (d' := s.drawn) (ch := [e, it]) (fun b hb => ?_) (fun b o _ _ hc q _ => k b o (nm b hc).1 (nm b hc).2 q) (fun b o _ _ hc q _ => ⟨o.slots, k b o (nm b hc).1 (nm b hc).2 q⟩) (fun b u _ q n => (upd_ne (na b u q)).trans n)
    (fun b o hc q => ⟨o, k b o (nm b hc).1 (nm b hc).2 q⟩) (fun b xs q => (upd_ne (ne_of_none q hn)).trans q) (fun b o xs q => (upd_ne (ne_of_none q hn)).trans q) (fun b ps q => ⟨#[], by rw [upd_ne (ne_of_none q hn), q]; simp⟩) (fun m hm => ?_) (fun b u q => ?_) I.bare
  · rcases List.mem_cons.mp hb with z | z
    · rw [z]; exact ⟨fe.2.2.2.1, fe.2.1, fe.2.2.2.2.1, fe.2.2.2.2.2⟩
    · have z' : b = it := by simpa using z
      rw [z']; exact ⟨fi.2.2.2.1, fi.2.1, fi.2.2.2.2.1, fi.2.2.2.2.2⟩
  · obtain ⟨o, es, ep, ho, r⟩ := hm
    exact ⟨o, es, ep, k _ o (Ne.symm fe.2.1) (Ne.symm fi.2.1) ho, r⟩
  · by_cases hb : b = a
    · subst hb; rw [upd_same] at q; cases q; exact new
    · rw [upd_ne hb] at q
      refine (I.hok b u q).stay (fun c v hc z => ?_) (fun c z => by rw [upd_ne (ne_of_none z hn)]; exact z) fun c xs z => by rw [upd_ne (ne_of_none z hn)]; exact z
      rcases hc with y | y
      · rw [y] at z ⊢; exact k b v (ne b u q) (ni b u q) z
      · exact k c v (ne c _ y) (ni c _ y) z
theorem turn_enum {P : Program} {w : World} {K : PySem.W.Frag} {elts : List Expr} {x1 : Nat} {pt : Pos} (a e it : Addr) (hne : e ≠ it) :
    Turn P w K (.Tuple elts x1 pt) (Ite K a) [e, it] e (fun i h => (∃ old, IsEnum h e it ((i : Nat) : Int) old) ∧ h.IsListIter it a i) where
  mem := by simp
  obj := fun i h st b hb => by
    obtain ⟨⟨old, he⟩, o, ho, c, d⟩ := st
    rcases List.mem_cons.mp hb with z | z
    · rw [z]; exact ⟨_, he, fun v z => by cases z⟩
    · have z' : b = it := by simpa using z
      rw [z']; exact ⟨o, ho, fun v z => by rw [d] at z; cases z⟩
  keep := fun i h h' st k => ⟨let ⟨old, he⟩ := st.1; ⟨old, k e (by simp) _ he⟩, st.2.at fun o q => k it (by simp) o q⟩
  item := by
    intro X hP hw hK hc i pins s σ H E I hf st hg
    subst hP hw hK
    obtain ⟨xs, x, hq, hx⟩ := hg
    obtain ⟨its, rv, p, hz⟩ := I.list hq
    obtain ⟨u, hu, ru⟩ := rv.get hx
    obtain ⟨⟨old, he⟩, hit⟩ := st
    have fe := hf e (by simp)
    have fi := hf it (by simp)
    have hes : e < s.heap.objs.size := Heap.lt_size he
    have his : it < s.heap.objs.size := by obtain ⟨o, q, _⟩ := hit; exact Heap.lt_size q
    refine wpAny_pyNext_enum_item he hit p.isList (x := u) (by simpa using hu) hne fun h1 ho1 hit1 ht1 hz1 hk1 => ?_
    refine ⟨_, rfl, wpAny_letOwnedTupleGo_enum (s := { s with heap := h1, toks := s.toks + 1 }) ho1 fun h2 he2 hs2 => ?_⟩
    replace hs2 : Heap.SameBut e h1 h2 := hs2
    have hn : H s.heap.objs.size = none := I.hok.fresh (Nat.le_refl _)
    have I2 : Inv X pins σ (upd H s.heap.objs.size (.tup [.int ((i : Nat) : Int), x])) { s with heap := h2, toks := s.toks + 1 } := by
      refine inv_turn2_laid I (fun b v hb hb' q => hs2.extBut b v hb (hk1 b v hb hb' q)) fe fi (Nat.le_refl _) ?_
      refine ⟨by show 2 ≤ sizeLine; decide, [.int ((i : Nat) : Int) s.toks, u], .cons ⟨_, rfl⟩ (.cons ru .nil), ⟨_, hs2.extBut _ _ (Nat.ne_of_gt hes) ht1, rfl, _, rfl⟩⟩
    refine ⟨.ref s.heap.objs.size, _, I2, rfl, ⟨_, x, rfl, hn, rfl, fun ys hy => by rw [I.list_inj hy hq]; exact hx⟩, ⟨⟨u, ?_⟩, hit1.extBut hs2.extBut (Ne.symm hne)⟩, fun b hb => ?_⟩
    · have e1 : (((i + 1 : Nat)) : Int) = (i : Int) + 1 := by omega
      show IsEnum h2 e it (((i + 1 : Nat)) : Int) u
      rw [e1]; exact he2
    · rcases List.mem_cons.mp hb with z | z
      · rw [z, upd_ne (Nat.ne_of_lt hes)]; exact fe.1
      · have z' : b = it := by simpa using z
        rw [z', upd_ne (Nat.ne_of_lt his)]; exact fi.1
  done := by
    intro X hP hw hK hc i pins s σ H E I hf st hg
    subst hP hw hK
    obtain ⟨xs, hq, hx⟩ := hg
    obtain ⟨its, rv, p, hz⟩ := I.list hq
    obtain ⟨⟨old, he⟩, hit⟩ := st
    have hl := rv.length
    exact wpAny_pyNext_enum_end (I.ok.hd hc) he hit p.isList (by simp; omega) fun h' hx' => ⟨rfl, inv_turn2 (t' := s.toks) I (fun b o _ hb' q => hx' b o hb' q) (hf e (by simp)) (hf it (by simp))⟩
  self := fun A i s Q E st h => let ⟨_, he⟩ := st.1; wpAny_pyIter_enum he h
theorem pi_enum {X : Cx} {elts : List Expr} {x1 : Nat} {pt : Pos} {l : Expr} {ta : TA} {p pos : Pos} (hg : Gl X "enumerate") (hm : X.mg "enumerate" = none) (ha : PA X [l] ta) (hs : starEach [l] X.env = [(false, eval l X.env)] := by rfl) :
    PI X (.Tuple elts x1 pt) (.Call (.Name "enumerate" p) [l] [] pos) (iEnum X.K ta) := by
  intro pins s σ H R I h
  refine Call_ (ld_blt I hg hm boot_enumerate (PyProof.Rows.callWith_type1 (thn (ha pos pins s σ H _ I h) fun us s1 ⟨vs, H1, I1, r1, q1⟩ => ?_) hs rfl))
  obtain ⟨a, e, ⟨xs, hq⟩, q⟩ := q1
  subst e
  cases r1 with
  | cons r rr =>
    cases rr
    obtain rfl : _ = Value.ref a := r
    obtain ⟨its, rv, pl, hz⟩ := I1.list hq
    refine call_enumerate_list pl.isList fun h' he hit hsz hk => ?_
    have I2 : Inv X pins σ H1 { s1 with heap := h' } := I1.kept (t' := s1.toks) hk
    refine wpAny_pyIter_enum (s := { s1 with heap := h' }) he ?_
    have hf : ∀ b, s1.heap.objs.size ≤ b → FpOk X pins H1 b := fun b hb => I1.fpOk hb (I1.hok.fresh hb)
    refine ⟨_, [s1.heap.objs.size + 1, s1.heap.objs.size], _, _, H1, rfl, I2, turn_enum a _ _ (Nat.succ_ne_self _), ⟨⟨_, he⟩, hit⟩, fun b hb => ?_, q⟩
    rcases List.mem_cons.mp hb with z | z
    · rw [z]; exact hf _ (Nat.le_succ _)
    · have z' : b = s1.heap.objs.size := by simpa using z
      rw [z']; exact hf _ (Nat.le_refl _)
end G
namespace G
open PySem L2 PySem.Spec PyProof.Rows
theorem inv_track {X : Cx} {pins : List (Addr × Obj)} {σ : L2.St} {H : Hp} {s : Shared} {a : Addr} {o : HO} (I : Inv X pins σ H s) (f : FpOk X pins H a) (new : ObjOk X.prog X.w (upd H a o) s.heap a o) : Inv X pins σ (upd H a o) s := by
  have hn := f.1
  have r : Inv X pins σ (upd H a o) { s with heap := s.heap, gens := s.gens, drawn := s.drawn, toks := s.toks } := by
    refine I.step (g' := s.gens) (t' := s.toks) (d' := s.drawn) (ch := [a]) (fun b hb => ?_) (fun b u _ _ _ q _ => q) (fun b u _ _ _ q _ => ⟨u.slots, q⟩) (fun b u hc q n => (upd_ne (fun z => hc (by simp [z]))).trans n) (fun b u _ q => ⟨u, q⟩)
      (fun b xs q => (upd_ne (ne_of_none q hn)).trans q) (fun b u xs q => (upd_ne (ne_of_none q hn)).trans q) (fun b ps q => ⟨#[], by rw [upd_ne (ne_of_none q hn), q]; simp⟩) (fun m hm => hm) (fun b u q => ?_) I.bare
    · have z : b = a := by simpa using hb
      rw [z]; exact ⟨f.2.2.2.1, f.2.1, f.2.2.2.2.1, f.2.2.2.2.2⟩
    · by_cases hb : b = a
      · subst hb; rw [upd_same] at q; cases q; exact new
      · rw [upd_ne hb] at q
        exact (I.hok b u q).stay (fun c v _ z => z) (fun c z => by rw [upd_ne (ne_of_none z hn)]; exact z) fun c xs z => by rw [upd_ne (ne_of_none z hn)]; exact z
  exact r
theorem fp_upd {X : Cx} {pins : List (Addr × Obj)} {H : Hp} {a b : Addr} {o : HO} (f : FpOk X pins H b) (h : b ≠ a) : FpOk X pins (upd H a o) b := ⟨(upd_ne h).trans f.1, f.2⟩
theorem kV_of {P : Program} {w : World} {k : Key} {u : Value} (h : (mixKind P w).is k u = true) : RelV (kV k) u := by
  rcases keyIs_shape h with ⟨i, t, rfl, rfl⟩ | ⟨x, t, rfl, rfl⟩
  · exact ⟨t, rfl⟩
  · exact ⟨t, rfl⟩
theorem pe_items {X : Cx} {o : Expr} {td : TE} {apos cpos : Pos} (ho : PE X o td) (hbase : attributeBase o "items" X.env (eval o X.env) = eval o X.env := by rfl) (hline : (apos.endLine == cpos.line) = true := by rfl) :
    PE X (.Call (.Attribute o "items" apos) [] [] cpos) (tItems td) := by
  intro pins s σ H Q I h
  refine wpAny_Call_method0_late hbase hline (thn (ho pins s σ H _ I h) fun u s1 ⟨x, H1, I1, rx, a, kvs, ex, rd, q⟩ => ?_)
  subst ex
  obtain rfl : u = Value.ref a := rx
  obtain ⟨t1, t2, hd⟩ := isD_at I1 (.inl ⟨kvs, rd⟩)
  obtain ⟨z, _, vs, rel, dd⟩ := dk_rd I1.hok rd
  refine ⟨"dict", "dict.items", PySem.F.plainAttrs_dict, PySem.F.slot_dict_items, PySem.F.type_dict_items, t1, t2, Calls.callWith_builtin rfl (PySem.evalArgs_none ?_)⟩
  refine call_meetsIn PySem.F.slot_dict_items t1 PySem.F.entry_dict_items (PySem.F.args_dict_items_1 _) (meets_dict_items (mixKind X.prog X.w) a hd) ⟨⟨vs, dd⟩, ?_⟩
  have hn := I1.hok.fresh (Nat.le_refl _)
  refine ⟨.ref s1.heap.objs.size, _, I1.laid (t' := s1.toks) (fun b u e => Heap.get?_push_of_some _ e) (Nat.le_refl _) ?_, rfl, q _ hn⟩
  exact ⟨⟨_, Heap.get?_push_size _ rfl, rfl, rfl⟩, ⟨_, Heap.get?_push_size _ rfl⟩, fun h1 h2 ⟨o, ho, r⟩ k => ⟨o, k o ho, r⟩⟩
theorem track_pairs {X : Cx} {pins : List (Addr × Obj)} {σ : L2.St} {s : Shared} : ∀ (as : List Addr) (kvs : List (Key × V)) (vs : List (Key × Value)) (H : Hp), Inv X pins σ H s → as.Nodup → (∀ a ∈ as, FpOk X pins H a) → as.length = kvs.length → KV kvs vs →
    (∀ (j : Nat) (a : Addr), as[j]? = some a → ∃ key k x, vs[j]? = some (k, x) ∧ (mixKind X.prog X.w).is k key = true ∧ s.heap.get? a = some { cls := .type "tuple", data := .seq #[key, x] }) →
    ∃ H', Inv X pins σ H' s ∧ Same H H' ∧ PrsAt H' as kvs
  | [], [], _, H, I, _, _, _, _, _ => ⟨H, I, fun _ _ h => h, trivial⟩
  | [], _ :: _, _, _, _, _, _, hl, _, _ => by simp at hl
  | _ :: _, [], _, _, _, _, _, hl, _, _ => by simp at hl
  | a :: as, kv :: kvs, vs, H, I, nd, fp, hl, r, pr => by
    cases r with
    | cons rv rs =>
      rename_i q ws
      obtain ⟨key, k, x, e, hk, hg⟩ := pr 0 a rfl
      have e' : q = (k, x) := by simpa using e
      subst e'
      obtain ⟨rk, rx⟩ := rv
      have fa := fp a (by simp)
      have na : a ∉ as := (List.nodup_cons.mp nd).1
      have rk' : kv.1 = k := rk
      have I1 : Inv X pins σ (L2.upd H a (.tup [kV kv.1, kv.2])) s := inv_track I fa ⟨by show 2 ≤ sizeLine; decide, [key, x], .cons (by rw [rk']; exact kV_of hk) (.cons rx .nil), ⟨_, hg, rfl, _, rfl⟩⟩
      obtain ⟨H', I', sm, ps⟩ := track_pairs as kvs ws _ I1 (List.nodup_cons.mp nd).2 (fun b hb => fp_upd (fp b (by simp [hb])) fun z => na (z ▸ hb)) (by simpa using hl) rs (fun j b hb => by simpa using pr (j + 1) b (by simpa using hb))
      refine ⟨H', I', fun b o hb => sm b o ?_, sm _ _ upd_same, ps⟩
      rw [upd_ne (ne_of_none hb fa.1)]; exact hb
theorem refs_vals : ∀ as : List Addr, Vals (as.map V.ref) (as.map Value.ref)
  | [] => .nil
  | _ :: as => .cons rfl (refs_vals as)
theorem call_listI {X : Cx} (hc : X.calm = true) : CallR X (.type "list") cListI := by
  intro pins s σ H xs us Q I r h
  obtain ⟨v, a, kvs, rfl, hv, rd, q⟩ := h
  obtain ⟨u, rfl, ru⟩ := Vals.one r
  obtain rfl : u = Value.ref v := ru
  have hvw : s.heap.IsItemsView v a := (show ObjOk X.prog X.w H s.heap v (itemsO v a) from I.hok v _ hv).1
  obtain ⟨z, hd, vs, rel, dd⟩ := dk_rd I.hok rd
  obtain ⟨ep, hm⟩ := dd.dictAt
  have hl := rel.length
  refine PySem.W.kdx_call (I.ok.hd hc) hvw hm (by rw [← hl]; exact z) fun h' tk acc c as hk hS hal hG hacc => ?_
  have hn := I.hok.fresh (Nat.le_refl s.heap.objs.size)
  have I1 : Inv X pins σ (upd H s.heap.objs.size (.lst (as.map V.ref))) { s with heap := h', toks := tk } := by
    refine I.laid hk (Nat.le_refl _) ⟨by rw [List.length_map, hal, ← hl]; exact z, acc.toList, c, by rw [hacc]; exact refs_vals as, by rw [Array.toArray_toList]; exact hS⟩
  have nd : as.Nodup := hG.rise.imp fun h => Nat.ne_of_lt h
  obtain ⟨H', I', sm, ps⟩ := track_pairs as kvs vs _ I1 nd (fun b hb => fp_upd (I.fpOk (Nat.le_of_lt (hG.above b hb)) (I.hok.fresh (Nat.le_of_lt (hG.above b hb)))) (Nat.ne_of_gt (hG.above b hb))) (by rw [hal, hl]) rel (fun j b hb => hG.pairs j b hb)
  refine ⟨.ref s.heap.objs.size, H', I', rfl, q _ as H' hn (fun b o hb => sm b o ?_) (sm _ _ upd_same) ps⟩
  rw [upd_ne (ne_of_none hb hn)]; exact hb
def keyN : Option Key → Value → Bool
  | none, .none => true
  | none, _ => false
  | some k, v => keyIs k v
theorem keyN_shape {k : Option Key} {v : Value} (h : keyN k v = true) : (k = none ∧ v = .none) ∨ ∃ j, k = some j ∧ keyIs j v = true := by
  cases k with
  | none => cases v <;> first | exact .inl ⟨rfl, rfl⟩ | cases h
  | some j => exact .inr ⟨j, rfl, h⟩
theorem keyIs_none {j : Key} (h : keyIs j Value.none = true) : False := by
  rcases keyIs_shape h with ⟨i, t, _, e⟩ | ⟨x, t, _, e⟩ <;> cases e
def mixN (P : Program) (w : World) : PySem.KeyKind P w (Option Key) where
  is := keyN
  hash := fun k => match k with | none => reduceHash 0xFCA86420 | some k => keyH w k
  inj := fun v a b ha hb => by
    rcases keyN_shape ha with ⟨rfl, rfl⟩ | ⟨i, rfl, h1⟩
    · rcases keyN_shape hb with ⟨rfl, _⟩ | ⟨j, rfl, h2⟩
      · rfl
      · exact (keyIs_none h2).elim
    · rcases keyN_shape hb with ⟨rfl, rfl⟩ | ⟨j, rfl, h2⟩
      · exact (keyIs_none h1).elim
      · rw [(mixKind P w).inj v i j h1 h2]
  byValue := fun k v h => by
    rcases keyN_shape h with ⟨rfl, rfl⟩ | ⟨i, rfl, h1⟩
    · rfl
    · exact (mixKind P w).byValue i v h1
  pyHash := fun {A E s k v Q} hv h => by
    rcases keyN_shape hv with ⟨rfl, rfl⟩ | ⟨i, rfl, h1⟩
    · exact PySem.W.pyHash_slot (T := "NoneType") rfl F.slot_NoneType_hash F.entry_NoneType_hash (F.args_NoneType_hash_1 _) (beq_builtin_none _) (.inl rfl) (wpAny_bind (wpAny_pure (wpAny_bind (wpAny_mkInt (wpAny_pure ⟨_, _, rfl, h⟩)))))
    · exact (mixKind P w).pyHash h1 h
  eqBool := fun {A E s a b u v Q} hu hv h => by
    rcases keyN_shape hu with ⟨rfl, rfl⟩ | ⟨i, rfl, h1⟩
    · rcases keyN_shape hv with ⟨rfl, rfl⟩ | ⟨j, rfl, h2⟩
      · exact eqAt_V (A := A) (s := s) (y := .non) (x := .non) rfl rfl rfl rfl P w E Q h
      · rcases keyIs_shape h2 with ⟨n, t, rfl, rfl⟩ | ⟨x, t, rfl, rfl⟩
        · exact eqAt_V (A := A) (s := s) (y := .non) (x := .int n) rfl ⟨t, rfl⟩ rfl rfl P w E Q h
        · exact eqAt_V (A := A) (s := s) (y := .non) (x := .str x) rfl ⟨t, rfl⟩ rfl rfl P w E Q h
    · rcases keyN_shape hv with ⟨rfl, rfl⟩ | ⟨j, rfl, h2⟩
      · rcases keyIs_shape h1 with ⟨n, t, rfl, rfl⟩ | ⟨x, t, rfl, rfl⟩
        · exact eqAt_V (A := A) (s := s) (y := .int n) (x := .non) ⟨t, rfl⟩ rfl rfl rfl P w E Q h
        · exact eqAt_V (A := A) (s := s) (y := .str x) (x := .non) ⟨t, rfl⟩ rfl rfl rfl P w E Q h
      · refine (mixKind P w).eqBool h1 h2 ?_
        have e : decide (i = j) = decide (some i = some j) := by
          by_cases z : i = j
          · subst z; simp
          · rw [decide_eq_false z, decide_eq_false (fun y => z (Option.some.inj y))]
        rw [e]; exact h
  «strs» := fun k x t v h => by
    rcases keyN_shape h with ⟨_, e⟩ | ⟨i, rfl, h1⟩
    · cases e
    · exact (mixKind P w).strs i x t v h1
theorem none_map {P : Program} {w : World} {h : Heap} {a : Addr} {vs : List (Key × Value)} (dd : h.DictOf (mixKind P w) a vs) : ∃ f, h.MapOf (mixN P w) a f ∧ f none = none := by
  obtain ⟨o, es, ep, ho, hc, hd, hk, hp, hn⟩ := dd
  refine ⟨fun k => findBy (mixN P w).is es k, ⟨o, es, ep, ho, hc, hd, fun e he => ?_, fun _ => rfl⟩, ?_⟩
  · obtain ⟨k, h1, h2⟩ := hk e he
    exact ⟨some k, h1, h2⟩
  · show Option.map (fun x => x.val) (Array.find? (fun e => keyN none e.key) es) = none
    rw [Option.map_eq_none_iff, Array.find?_eq_none]
    intro e he
    obtain ⟨k, h1, _⟩ := hk e he
    rcases keyIs_shape h1 with ⟨n, t, _, z⟩ | ⟨x, t, _, z⟩ <;> rw [z] <;> exact fun y => nomatch y
section
variable {X : Cx} {i o : Expr} {ty td : TE}
theorem hasV_cases {kvs : List (Key × V)} {y : V} {b : Bool} (h : hasV kvs y = some b) : (∃ k, y = kV k ∧ b = (valV kvs k).isSome) ∨ (y = .non ∧ b = false) := by
  cases y <;> simp only [hasV, Option.some.injEq] at h <;> first | cases h
  · exact .inr ⟨rfl, rfl⟩
  · exact .inl ⟨.inl _, rfl, rfl⟩
  · exact .inl ⟨.inr _, rfl, rfl⟩
theorem pc_dinN (hu : X.A.units + 1 < cLine) (hi : PE X i ty) (ho : PE X o td) : PC X .In i o (tDInN false ty td) := by
  intro pins s σ H Q I h
  refine thn (hi pins s σ H _ I h) fun iv s1 ⟨y, H1, I1, ry, h1⟩ => ?_
  refine thn (ho pins s1 σ H1 _ I1 h1) fun ov s2 ⟨x, H2, I2, rx, a, kvs, b, ex, rd, hb, q⟩ => ?_
  subst ex
  obtain rfl : ov = Value.ref a := rx
  rcases hasV_cases hb with ⟨k, rfl, rfl⟩ | ⟨rfl, rfl⟩
  · exact d_in hu I2 (.inl ⟨kvs, k, rd, rfl, rfl⟩) ry fun s' I' => ⟨.bl _, H2, I', rfl, q⟩
  · obtain rfl : iv = Value.none := ry
    obtain ⟨z, hd, vs, rel, dd⟩ := dk_rd I2.hok rd
    obtain ⟨f, hm, hf⟩ := none_map dd
    refine wpAny_in_of (knd := mixN X.prog X.w) (k := none) rfl hd hm ?_
    rw [hf]
    exact ⟨.bl _, H2, I2.tok _, rfl, q⟩
theorem pc_dnotinN (hu : X.A.units + 1 < cLine) (hi : PE X i ty) (ho : PE X o td) : PC X .NotIn i o (tDInN true ty td) := by
  intro pins s σ H Q I h
  refine thn (hi pins s σ H _ I h) fun iv s1 ⟨y, H1, I1, ry, h1⟩ => ?_
  refine thn (ho pins s1 σ H1 _ I1 h1) fun ov s2 ⟨x, H2, I2, rx, a, kvs, b, ex, rd, hb, q⟩ => ?_
  subst ex
  obtain rfl : ov = Value.ref a := rx
  rcases hasV_cases hb with ⟨k, rfl, rfl⟩ | ⟨rfl, rfl⟩
  · exact d_notIn hu I2 (.inl ⟨kvs, k, rd, rfl, rfl⟩) ry fun s' I' => ⟨.bl _, H2, I', rfl, q⟩
  · obtain rfl : iv = Value.none := ry
    obtain ⟨z, hd, vs, rel, dd⟩ := dk_rd I2.hok rd
    obtain ⟨f, hm, hf⟩ := none_map dd
    refine wpAny_notIn_of (knd := mixN X.prog X.w) (k := none) rfl hd hm ?_
    rw [hf]
    exact ⟨.bl _, H2, I2.tok _, rfl, q⟩
end
end G
namespace G
open PySem L2 PySem.Spec PyProof.Rows
section
variable {X : Cx}
end
end G
namespace HT
open PySem PyProof.Rows
def lexLe : List Int → List Int → Bool
  | [], _ => true
  | _ :: _, [] => false
  | x :: xs, y :: ys => if x = y then lexLe xs ys else decide (x ≤ y)
theorem lexLe_cons (x y : Int) (xs ys : List Int) : lexLe (x :: xs) (y :: ys) = if x = y then lexLe xs ys else decide (x ≤ y) := rfl
theorem lexLe_nil_nil : lexLe [] [] = true := rfl
theorem lexLe_nil_cons (y : Int) (ys : List Int) : lexLe [] (y :: ys) = true := rfl
theorem lexLe_cons_nil (x : Int) (xs : List Int) : lexLe (x :: xs) [] = false := rfl
theorem rcLe_int (A : Around) (s : Shared) (a : Int) (t : Tok) (c : Int) (u : Tok) (prog : Program) (w : World) (E : Value → Shared → Prop) (Q : Value → Shared → Prop) (h : Q (.bool (decide (a ≤ c))) s) :
    wpAny (model prog w) A (richCompare .LtE (.int a t) (.int c u)) Q E s :=
  (PyProof.Rows.le_int h : wpAny (model prog w) A (compareOp .LtE (.int a t) (.int c u)) Q E s)
section
open PySem.SeqAt
open PySem.AutoSeq1 (wpAny_loadPart')
open PySem.MeetsSeq PySem.MeetsSeq2 PySem.MeetsSeq3
theorem tuple_le_ints (l b : Addr) (items items2 : Array Value) (n n2 : Nat) (dd dd2 : Option Addr) (sl sl2 : Array (Option Value)) (ns ms : List Int) (hi : IntsAre items.toList ns) (hj : IntsAre items2.toList ms) :
    Meets (Builtin.«tuple.__le__» ⟨[.ref l, .ref b], []⟩)
      (fun _ R s => s.heap.get? l = some { cls := .type "tuple", dict := dd, data := .seq items n, slots := sl } ∧ s.heap.get? b = some { cls := .type "tuple", dict := dd2, data := .seq items2 n2, slots := sl2 } ∧
        R (.ok (.ret (.bool (lexLe ns ms)))) s) :=
  .of_wp fun prog w A R s h => by
    obtain ⟨hp, g, d, tk, os⟩ := s; obtain ⟨hl, hb, h⟩ := h
    have f2 := AutoSeq1.sub_tuple_tuple
    have z1 : items.size = ns.length := by rw [← hi.length]; simp
    have z2 : items2.size = ms.length := by rw [← hj.length]; simp
    wp_walk using wpAny_loadPart' hl, wpAny_loadPart' hb, wpAny_forIn_list _ (fun rest b s' => b.1 = none ∧ s' = ⟨hp, g, d, tk, os⟩ ∧ ∃ (vs ws : List Value) (ns' ms' : List Int), rest = vs.zip ws ∧
      IntsAre vs ns' ∧ IntsAre ws ms' ∧ ns'.length + items2.size = ms'.length + items.size ∧ R (.ok (.ret (.bool (lexLe ns' ms')))) ⟨hp, g, d, tk, os⟩) _
    case turn =>
      rintro ⟨y, x⟩ rest b s' ⟨hb', rfl, vs, ws, ns', ms', hz, hvi, hwi, hlen, hR⟩
      cases hvi with
      | nil => rw [List.zip_nil_left] at hz; cases hz
      | cons a t hvi' =>
        cases hwi with
        | nil => rw [List.zip_nil_right] at hz; cases hz
        | cons c u hwi' =>
          rw [List.zip_cons_cons] at hz
          injection hz with hyx hrest
          injection hyx with hy hx
          subst hy hx
          rw [lexLe_cons] at hR
          simp only [List.length_cons] at hlen
          obtain ⟨e, he, hiff⟩ := eqAt_int A.in1 ⟨hp, g, d, tk, os⟩ a t c u
          refine wpAny_bind (he prog w _ _ ?_)
          cases e with
          | true =>
            rw [if_pos (hiff.mp rfl)] at hR
            wp_walk
            exact ⟨rfl, rfl, _, _, _, _, hrest, hvi', hwi', by omega, hR⟩
          | false =>
            rw [if_neg (fun q => absurd (hiff.mpr q) Bool.false_ne_true)] at hR
            have hri := rcLe_int A.in1 ⟨hp, g, d, tk, os⟩ a t c u prog w
            wp_walk using hri
            exact ⟨_, rfl, by simpa using hR⟩
    case fin =>
      rintro ⟨b1, b2⟩ s' ⟨hb', rfl, vs, ws, ns', ms', hz, hvi, hwi, hlen, hR⟩
      simp only at hb'
      subst hb'
      have hv : lexLe ns' ms' = decide (items.size ≤ items2.size) := by
        cases hvi with
        | nil =>
          cases hwi with
          | nil =>
            simp only [List.length_nil] at hlen
            rw [lexLe_nil_nil]
            exact (decide_eq_true (by omega)).symm
          | cons c u hw =>
            simp only [List.length_nil, List.length_cons] at hlen
            rw [lexLe_nil_cons]
            exact (decide_eq_true (by omega)).symm
        | cons a t hv =>
          cases hwi with
          | nil =>
            simp only [List.length_nil, List.length_cons] at hlen
            rw [lexLe_cons_nil]
            exact (decide_eq_false (by omega)).symm
          | cons c u hw =>
            rw [List.zip_cons_cons] at hz
            cases hz
      rw [hv] at hR
      wp_walk
      exact ⟨_, rfl, by simpa [Builtin.Tuple.tupleCompareSizes] using hR⟩
    case h =>
      exact ⟨rfl, rfl, items.toList, items2.toList, ns, ms, rfl, hi, hj, by omega, h⟩
end
section
variable {prog : Program} {w : World} {A : Around} {E : Value → Shared → Prop} {s : Shared}
theorem le_tupInts {l b : Addr} {items items2 : Array Value} {ns ms : List Int} {Q : Value → Shared → Prop} (hl : IsTup s.heap l items) (hb : IsTup s.heap b items2) (hi : IntsAre items.toList ns) (hj : IntsAre items2.toList ms)
    (hu : A.units < cLine) (h : Q (.bool (lexLe ns ms)) s) : wpAny (model prog w) A (compareOp .LtE (.ref l) (.ref b)) Q E s := by
  obtain ⟨⟨cls, dd, data, sl⟩, ho, hc, n, hd⟩ := id hl
  obtain ⟨⟨cls2, dd2, data2, sl2⟩, ho2, hc2, n2, hd2⟩ := id hb
  simp only at hc hd hc2 hd2
  subst hc hd hc2 hd2
  exact richCompare_meets_room (op := .LtE) ⟨_, ho, rfl⟩ ⟨_, ho2, rfl⟩ PySem.F.slot_tuple_le PySem.F.entry_tuple_le (PySem.F.args_tuple_le_2 _ _) (tuple_le_ints l b items items2 n n2 dd dd2 sl sl2 ns ms hi hj)
    ⟨ho, ho2, show Value.bool (lexLe ns ms) ≠ Value.notImplemented ∧ Q (.bool (lexLe ns ms)) s from ⟨(fun x => nomatch x), h⟩⟩ hu

end
end HT
namespace L2
open PySem PySem.Spec PyProof.Rows
section
variable {X : Cx}
def rLeT (K : PySem.W.Frag) : R2 := fun x y H Q => ∃ a b ns ms, x = .ref a ∧ y = .ref b ∧ SqT K H a (ns.map V.int) ∧ SqT K H b (ms.map V.int) ∧ Q (.bl (HT.lexLe ns ms)) H
theorem op_leT (hu : X.A.units + 1 < cLine) : OpR X (compareOp .LtE) (rLeT X.K) := by
  intro pins s σ H x y v u Q I rx ry h
  obtain ⟨a, b, ns, ms, rfl, rfl, ha, hb, q⟩ := h
  cases rx
  cases ry
  obtain ⟨its, r1, p1, _⟩ := I.tuple ha
  obtain ⟨its2, r2, p2, _⟩ := I.tuple hb
  have i1 : IntsAre its.toArray.toList ns := intsAre_of r1
  have i2 : IntsAre its2.toArray.toList ms := intsAre_of r2
  exact HT.le_tupInts p1 p2 i1 i2 (Nat.lt_of_succ_lt hu) ⟨.bl (HT.lexLe ns ms), H, I, rfl, q⟩
end
end L2
local macro_rules | `(tactic| walk_at "g2") => `(tactic| with_reducible first | refine G.i_next ?_ | refine G.i_drop ?_ | refine G.i_ret ?_ | refine G.i_if ?_ | refine G.i_asg ?_ | refine G.i_C ?_ | refine G.i_op ?_ | refine G.i_un ?_ | refine G.i_B ?_ | refine G.i_test ?_ | refine G.i_tB ?_ | refine G.i_and ?_ | refine G.i_or ?_ | refine G.i_not ?_ | refine G.i_andV ?_ | refine G.i_notV ?_ | refine G.i_I0 ?_ | refine G.i_U ?_ | refine G.i_eqI ?_ | refine G.i_neI ?_ | refine G.i_isN0 ?_ | refine G.i_isN1 ?_ | refine G.i_isN3 ?_ | refine G.i_notN3 ?_ | refine G.i_iteT ?_ | refine G.i_iteF ?_ | refine G.i_iteNT ?_ | refine G.i_iteNF ?_ | refine G.i_nil ?_ | refine G.i_cons ?_ | refine G.i_lst ?_ | refine G.i_tup ?_ | refine G.i_call ?_ | refine G.i_CB ?_ | refine G.i_make ?_ | refine G.i_fld ?_ | refine G.i_sfld ?_ | refine G.i_meth ?_ | refine G.i_noPart ?_ | refine G.i_part ?_ | refine G.i_kI ?_ | refine G.i_sl ?_ | refine G.i_bm ?_ | refine G.i_for ?_ | refine G.i_iL ?_ | refine G.i_iR ?_ | refine G.i_v0 ?_ | refine G.i_v1 ?_ | refine G.i_v2 ?_ | refine G.i_v3 ?_ | refine G.i_v4 ?_ | refine G.i_v5 ?_ | refine G.i_v6 ?_ | refine G.i_v7 ?_ | refine G.i_v8 ?_ | refine G.i_v9 ?_ | refine G.i_g1 ?_ | refine G.i_g2 ?_ | refine G.i_g3 ?_ | refine G.i_g4 ?_ | refine G.i_g5 ?_ | refine G.i_g6 ?_ | refine G.i_g7 ?_ | refine G.i_g8 ?_ | refine G.i_g9 ?_ | refine G.i_max ?_ | refine G.i_raise ?_ | refine G.i_gsub ?_ | refine G.i_dget ?_ | refine G.i_dnotin ?_ | refine G.i_dput ?_ | refine G.i_lcg2 ?_ | refine G.i_isiI_int ?_ | refine G.i_isiI_bool ?_ | refine G.i_iE ?_ | refine G.i_iT ?_ | refine G.i_items ?_ | refine G.i_dinN ?_)
local macro_rules | `(tactic| walk_at "g1") => `(tactic| first | (with_reducible refine G.i_seq ?_) | walk_at "g2")
local macro_rules | `(tactic| walk_at "ne") => `(tactic| first | assumption | (exact Ne.symm (by assumption)) | exact L2.ne_of_none (by assumption) (by assumption) | exact Ne.symm (L2.ne_of_none (by assumption) (by assumption)) | exact Nat.ne_of_lt (by assumption))
local macro_rules | `(tactic| walk_at "hp") => `(tactic| first | assumption | exact L2.upd_same | (refine Eq.trans (L2.upd_ne ?hne) ?_; (case hne => walk_at "ne"); walk_at "hp"))
local macro_rules | `(tactic| walk_at "side") => `(tactic| first | omega | decide | (show (_ : Int) < _; decide) | exact ⟨by decide, by decide⟩ | exact ⟨by decide, by decide, by decide⟩ | (unfold L2.CMul; omega) | exact .inl (by unfold L2.CMul; omega))
local macro_rules | `(tactic| walk_at "ev") => `(tactic| repeat (first | walk_at "g1" | ((with_reducible refine G.i_I ?hc ?_); (case hc => walk_at "side"))))
local macro_rules | `(tactic| walk_at "es") => `(tactic| repeat (first | walk_at "g2" | ((with_reducible refine G.i_I ?hc ?_); (case hc => walk_at "side"))))
local macro_rules | `(tactic| walk_at "caps") => `(tactic| simp only [List.map_cons, List.map_nil, G.pick, List.getElem?_cons_zero, List.getElem?_cons_succ])
namespace K09
open PySem L2 G
def cellF (birth : Int) (bulk : Int) (tone : Int) (load : Int) (fa : Addr) : List (Str × V) := [("birth", .int birth), ("bulk", .int bulk), ("tone", .int tone), ("load", .int load), ("fields", .ref fa)]
theorem cellF_s_bulk_birth : (("bulk" : Str) == ("birth" : Str)) = false := by decide +kernel
theorem cellF_s_tone_birth : (("tone" : Str) == ("birth" : Str)) = false := by decide +kernel
theorem cellF_s_tone_bulk : (("tone" : Str) == ("bulk" : Str)) = false := by decide +kernel
theorem cellF_s_load_birth : (("load" : Str) == ("birth" : Str)) = false := by decide +kernel
theorem cellF_s_load_bulk : (("load" : Str) == ("bulk" : Str)) = false := by decide +kernel
theorem cellF_s_load_tone : (("load" : Str) == ("tone" : Str)) = false := by decide +kernel
theorem cellF_s_fields_birth : (("fields" : Str) == ("birth" : Str)) = false := by decide +kernel
theorem cellF_s_fields_bulk : (("fields" : Str) == ("bulk" : Str)) = false := by decide +kernel
theorem cellF_s_fields_tone : (("fields" : Str) == ("tone" : Str)) = false := by decide +kernel
theorem cellF_s_fields_load : (("fields" : Str) == ("load" : Str)) = false := by decide +kernel
theorem cellF_lk_birth {birth : Int} {bulk : Int} {tone : Int} {load : Int} {fa : Addr} : List.lookup ("birth" : Str) (cellF birth bulk tone load fa) = some (.int birth : V) := by
  unfold cellF
  simp only [List.lookup, beq_self_eq_true]
theorem cellF_lk_bulk {birth : Int} {bulk : Int} {tone : Int} {load : Int} {fa : Addr} : List.lookup ("bulk" : Str) (cellF birth bulk tone load fa) = some (.int bulk : V) := by
  unfold cellF
  simp only [List.lookup, beq_self_eq_true, cellF_s_bulk_birth]
theorem cellF_lk_fields {birth : Int} {bulk : Int} {tone : Int} {load : Int} {fa : Addr} : List.lookup ("fields" : Str) (cellF birth bulk tone load fa) = some (.ref fa : V) := by
  unfold cellF
  simp only [List.lookup, beq_self_eq_true, cellF_s_fields_birth, cellF_s_fields_bulk, cellF_s_fields_tone, cellF_s_fields_load]
theorem cellF_ne {a b : Str} (h : (a == b) = false) : ¬ b = a := fun e => by rw [e, beq_self_eq_true] at h; cases h
theorem cellF_mk {birth : Int} {bulk : Int} {tone : Int} {load : Int} {fa : Addr} : (putF "fields" (.ref fa) (putF "load" (.int load) (putF "tone" (.int tone) (putF "bulk" (.int bulk) (putF "birth" (.int birth) []))))) = cellF birth bulk tone load fa := by
  unfold cellF
  simp only [putF, if_neg (cellF_ne cellF_s_bulk_birth), if_neg (cellF_ne cellF_s_tone_birth), if_neg (cellF_ne cellF_s_tone_bulk), if_neg (cellF_ne cellF_s_load_birth), if_neg (cellF_ne cellF_s_load_bulk), if_neg (cellF_ne cellF_s_load_tone), if_neg (cellF_ne cellF_s_fields_birth), if_neg (cellF_ne cellF_s_fields_bulk), if_neg (cellF_ne cellF_s_fields_tone), if_neg (cellF_ne cellF_s_fields_load)]
theorem cellF_s_units_birth : (("units" : Str) == ("birth" : Str)) = false := by decide +kernel
theorem cellF_s_units_bulk : (("units" : Str) == ("bulk" : Str)) = false := by decide +kernel
theorem cellF_s_units_tone : (("units" : Str) == ("tone" : Str)) = false := by decide +kernel
theorem cellF_s_units_load : (("units" : Str) == ("load" : Str)) = false := by decide +kernel
theorem cellF_s_units_fields : (("units" : Str) == ("fields" : Str)) = false := by decide +kernel
theorem cellF_no_units {birth : Int} {bulk : Int} {tone : Int} {load : Int} {fa : Addr} : List.lookup ("units" : Str) (cellF birth bulk tone load fa) = none := by
  unfold cellF
  simp only [List.lookup, cellF_s_units_birth, cellF_s_units_bulk, cellF_s_units_tone, cellF_s_units_load, cellF_s_units_fields]
def heapF (room : Int) (ca : Addr) (used : Int) (born : Int) : List (Str × V) := [("room", .int room), ("cells", .ref ca), ("used", .int used), ("born", .int born)]
theorem heapF_s_cells_room : (("cells" : Str) == ("room" : Str)) = false := by decide +kernel
theorem heapF_s_used_room : (("used" : Str) == ("room" : Str)) = false := by decide +kernel
theorem heapF_s_used_cells : (("used" : Str) == ("cells" : Str)) = false := by decide +kernel
theorem heapF_s_born_room : (("born" : Str) == ("room" : Str)) = false := by decide +kernel
theorem heapF_s_born_cells : (("born" : Str) == ("cells" : Str)) = false := by decide +kernel
theorem heapF_s_born_used : (("born" : Str) == ("used" : Str)) = false := by decide +kernel
theorem heapF_lk_room {room : Int} {ca : Addr} {used : Int} {born : Int} : List.lookup ("room" : Str) (heapF room ca used born) = some (.int room : V) := by
  unfold heapF
  simp only [List.lookup, beq_self_eq_true]
theorem heapF_lk_cells {room : Int} {ca : Addr} {used : Int} {born : Int} : List.lookup ("cells" : Str) (heapF room ca used born) = some (.ref ca : V) := by
  unfold heapF
  simp only [List.lookup, beq_self_eq_true, heapF_s_cells_room]
theorem heapF_lk_used {room : Int} {ca : Addr} {used : Int} {born : Int} : List.lookup ("used" : Str) (heapF room ca used born) = some (.int used : V) := by
  unfold heapF
  simp only [List.lookup, beq_self_eq_true, heapF_s_used_room, heapF_s_used_cells]
theorem heapF_lk_born {room : Int} {ca : Addr} {used : Int} {born : Int} : List.lookup ("born" : Str) (heapF room ca used born) = some (.int born : V) := by
  unfold heapF
  simp only [List.lookup, beq_self_eq_true, heapF_s_born_room, heapF_s_born_cells, heapF_s_born_used]
theorem heapF_ne {a b : Str} (h : (a == b) = false) : ¬ b = a := fun e => by rw [e, beq_self_eq_true] at h; cases h
theorem heapF_put_used {room : Int} {ca : Addr} {used : Int} {born : Int} (y : Int) : putF "used" (.int y) (heapF room ca used born) = heapF room ca y born := by
  unfold heapF
  simp only [putF, if_true, if_neg (heapF_ne heapF_s_used_room), if_neg (heapF_ne heapF_s_used_cells)]
theorem heapF_put_born {room : Int} {ca : Addr} {used : Int} {born : Int} (y : Int) : putF "born" (.int y) (heapF room ca used born) = heapF room ca used y := by
  unfold heapF
  simp only [putF, if_true, if_neg (heapF_ne heapF_s_born_room), if_neg (heapF_ne heapF_s_born_cells), if_neg (heapF_ne heapF_s_born_used)]
theorem heapF_mk {room : Int} {ca : Addr} {used : Int} {born : Int} : (putF "born" (.int born) (putF "used" (.int used) (putF "cells" (.ref ca) (putF "room" (.int room) [])))) = heapF room ca used born := by
  unfold heapF
  simp only [putF, if_neg (heapF_ne heapF_s_cells_room), if_neg (heapF_ne heapF_s_used_room), if_neg (heapF_ne heapF_s_used_cells), if_neg (heapF_ne heapF_s_born_room), if_neg (heapF_ne heapF_s_born_cells), if_neg (heapF_ne heapF_s_born_used)]
theorem heapF_s_lay_room : (("lay" : Str) == ("room" : Str)) = false := by decide +kernel
theorem heapF_s_lay_cells : (("lay" : Str) == ("cells" : Str)) = false := by decide +kernel
theorem heapF_s_lay_used : (("lay" : Str) == ("used" : Str)) = false := by decide +kernel
theorem heapF_s_lay_born : (("lay" : Str) == ("born" : Str)) = false := by decide +kernel
theorem heapF_no_lay {room : Int} {ca : Addr} {used : Int} {born : Int} : List.lookup ("lay" : Str) (heapF room ca used born) = none := by
  unfold heapF
  simp only [List.lookup, heapF_s_lay_room, heapF_s_lay_cells, heapF_s_lay_used, heapF_s_lay_born]
theorem heapF_s_free_room : (("free" : Str) == ("room" : Str)) = false := by decide +kernel
theorem heapF_s_free_cells : (("free" : Str) == ("cells" : Str)) = false := by decide +kernel
theorem heapF_s_free_used : (("free" : Str) == ("used" : Str)) = false := by decide +kernel
theorem heapF_s_free_born : (("free" : Str) == ("born" : Str)) = false := by decide +kernel
theorem heapF_no_free {room : Int} {ca : Addr} {used : Int} {born : Int} : List.lookup ("free" : Str) (heapF room ca used born) = none := by
  unfold heapF
  simp only [List.lookup, heapF_s_free_room, heapF_s_free_cells, heapF_s_free_used, heapF_s_free_born]
def rd_Cell___init__ (K : PySem.W.Frag) : TS :=
  (tSeq (sFld K (tVar 0) (tVar 1) "birth")
      (tSeq (sFld K (tVar 0) (tVar 3) "bulk")
      (tSeq (sFld K (tVar 0) (tVar 4) "tone")
      (tSeq (sFld K (tVar 0) (tC (.int 0)) "load")
      (sFld K (tVar 0) (tOp (rRep) (tLst (tCons (tC .non) tNil)) (tVar 2)) "fields")))))
def rd_Cell_units (K : PySem.W.Frag) : TS :=
  (tRet (tOp (rI0 fun i j => .int (i + j)) (tOp (rI0 fun i j => .int (i + j)) (tC (.int 1)) (tCB (G.cLenL K) (tCons (tFld K (tVar 0) "fields") tNil))) (tFld K (tVar 0) "bulk")))
def rd_Heap___init__ (K : PySem.W.Frag) : TS :=
  (tSeq (sFld K (tVar 0) (tVar 1) "room")
      (tSeq (sFld K (tVar 0) (tLst tNil) "cells")
      (tSeq (sFld K (tVar 0) (tC (.int 0)) "used")
      (sFld K (tVar 0) (tC (.int 0)) "born"))))
def rd_Heap_make (K : PySem.W.Frag) (C_Cell C_Full C_Heap : Addr) (sp_Cell___init__ sp_Cell_units sp_Heap_free sp_Heap_lay : Sp) (E : XK) : TS :=
  (tSeq (tAsg (tMake C_Cell sp_Cell___init__ [] E0 (tCons (tOp (rI0 fun i j => .int (i + j)) (tFld K (tVar 0) "born") (tC (.int 1))) (tCons (tVar 1) (tCons (tVar 2) (tCons (tVar 3) tNil))))) (gName 4))
      (tSeq (tIfS (tTest (tOp (rI0 fun i j => .bl (decide (j < i))) (tMeth C_Cell "units" sp_Cell_units [] E0 (tVar 4) tNil) (tMeth C_Heap "free" sp_Heap_free [] E0 (tVar 0) tNil))) (G.tRaise C_Full E (tCons (tC (.str "the room does not suffice")) tNil)) tNext)
      (tSeq (sFld K (tVar 0) (tFld K (tVar 4) "birth") "born")
      (tSeq (sFld K (tVar 0) (tOp (rI0 fun i j => .int (i + j)) (tFld K (tVar 0) "used") (tMeth C_Cell "units" sp_Cell_units [] E0 (tVar 4) tNil)) "used")
      (tRet (tMeth C_Heap "lay" sp_Heap_lay [] E0 (tVar 0) (tCons (tVar 4) tNil)))))))
def rd_Heap_lay (K : PySem.W.Frag) : TS :=
  (tSeq (tIfS (tTest (tOp (G.rInN K true) (tC .non) (tFld K (tVar 0) "cells"))) (tSeq (tDrop (tBM K "list" rAppend (tFld K (tVar 0) "cells") (tCons (tVar 1) tNil)))
      (tRet (tOp (rI0 fun i j => .int (i - j)) (tCB (G.cLenL K) (tCons (tFld K (tVar 0) "cells") tNil)) (tC (.int 1))))) tNext)
      (tSeq (tAsg (tBM K "list" (G.rIndexN K) (tFld K (tVar 0) "cells") (tCons (tC .non) tNil)) (gName 2))
      (tSeq (tAsg (tVar 1) (gSub (tFld K (tVar 0) "cells") (tVar 2) rSetL))
      (tRet (tVar 2)))))
def rd_Heap_back (K : PySem.W.Frag) (C_Cell : Addr) (sp_Cell_units : Sp) : TS :=
  (tSeq (tAsg (tOp (rIxL K) (tFld K (tVar 0) "cells") (tVar 1)) (gName 2))
      (tSeq (sFld K (tVar 0) (tOp (rI0 fun i j => .int (i - j)) (tFld K (tVar 0) "used") (tMeth C_Cell "units" sp_Cell_units [] E0 (tVar 2) tNil)) "used")
      (tSeq (tAsg (tC .non) (gSub (tFld K (tVar 0) "cells") (tVar 1) rSetL))
      (tRet (tFld K (tVar 2) "birth")))))
def rd_Heap_free (K : PySem.W.Frag) : TS :=
  (tRet (tOp (rI0 fun i j => .int (i - j)) (tFld K (tVar 0) "room") (tFld K (tVar 0) "used")))
def rd_cell_at (K : PySem.W.Frag) : TS :=
  (tSeq (tIfS ((tOr (tTest (tOp (G.rIsN) (tVar 1) (tC .non))) (tOr (tTest (tOp (rI0 fun i j => .bl (decide (i < j))) (tVar 1) (tC (.int 0)))) (tTest (tOp (rI0 fun i j => .bl (decide (j ≤ i))) (tVar 1) (tCB (G.cLenL K) (tCons (tFld K (tVar 0) "cells") tNil))))))) (tRet (tC .non)) tNext)
      (tRet (tOp (rIxL K) (tFld K (tVar 0) "cells") (tVar 1))))
def rd_reached (K : PySem.W.Frag) (sp_onward : Sp) : TS :=
  (tSeq (tAsg (tLst tNil) (gName 2))
      (tSeq (tFor (G.iEnum K (tCons (tVar 1) tNil)) (gTup K 2 (gCons (gName 3) (gCons (gName 4) gNil)))
      (tDrop (tBM K "list" rExtend (tVar 2) (tCons (tCall sp_onward [] E0 (tCons (tVar 0) (tCons (tVar 4) (tCons (tTup (tCons (tVar 3) tNil)) tNil)))) tNil))))
      (tSeq (tAsg (tDNewK) (gName 5))
      (tSeq (tAsg (tC (.int 0)) (gName 6))
      (tSeq (tWhile (tTest (tOp (rI0 fun i j => .bl (decide (i < j))) (tVar 6) (tCB (G.cLenL K) (tCons (tVar 2) tNil)))) (tSeq (tAsg (tOp (rIxT K) (tOp (rIxL K) (tVar 2) (tVar 6)) (tC (.int 0))) (gName 7))
      (tSeq (tAsg (tOp (rIxT K) (tOp (rIxL K) (tVar 2) (tVar 6)) (tC (.int 1))) (gName 8))
      (tSeq (tAsg (tOp (rI0 fun i j => .int (i + j)) (tVar 6) (tC (.int 1))) (gName 6))
      (tIfS (tB (G.tDInN true (tVar 7) (tVar 5))) (tSeq (sDPut (tVar 5) (tVar 7) (tVar 8))
      (tDrop (tBM K "list" rExtend (tVar 2) (tCons (tCall sp_onward [] E0 (tCons (tVar 0) (tCons (tFld K (tOp (rIxL K) (tFld K (tVar 0) "cells") (tVar 7)) "fields") (tCons (tVar 8) tNil)))) tNil)))) tNext)))))
      (tRet (tCB (G.cListI) (tCons (G.tItems (tVar 5)) tNil))))))))
def rd_onward (K : PySem.W.Frag) (sp_cell_at : Sp) : TS :=
  (tRet (G.tLC2 K (G.iEnum K (tCons (tVar 1) tNil)) [0, 2] (tTest (tOp (G.rNotN) (tCall sp_cell_at [] E0 (tCons (tVar 2) (tCons (tVar 1) tNil))) (tC .non))) (tTup (tCons (tVar 1) (tCons (tOp (rCatT K) (tVar 3) (tTup (tCons (tVar 0) tNil))) tNil)))))
def rd__law_cell_at (K : PySem.W.Frag) : TS :=
  (tSeq (tIfS (tTest (tOp (rI0 fun i j => .bl (decide (i < j))) (tVar 1) (tCB (G.cLenL K) (tCons (tVar 0) tNil)))) (tRet (tOp (rIxL K) (tVar 0) (tVar 1))) tNext)
      (tRet (tC (.int 0))))
def rd__law_whole  : TS :=
  (tRet ((tAndV (tCB (G.cIsi) (tCons (tVar 0) (tCons (tC (.ty "int")) tNil))) (tNotV (tCB (G.cIsi) (tCons (tVar 0) (tCons (tC (.ty "bool")) tNil)))))))
def rd__law_mixed  : TS :=
  (tSeq (tAsg (tOp (rI0 fun i j => .int (i + j)) (tOp (rI0 fun i j => .int (i + j)) (tOp (rI0 fun i j => .int (i + j)) (tOp (rI0 fun i j => .int (i + j)) (tOp (rI (fun _ j => 0 < j) fun i j => .int (i % j)) (tVar 0) (tC (.int 1000003))) (tOp (rI CMul fun i j => .int (i * j)) (tOp (rI CMul fun i j => .int (i * j)) (tC (.int 31)) (tVar 1)) (tVar 1))) (tVar 1)) (tOp (rI CMul fun i j => .int (i * j)) (tOp (rI CMul fun i j => .int (i * j)) (tC (.int 17)) (tVar 2)) (tVar 2))) (tVar 2)) (gName 3))
      (tSeq (tAsg (tOp (rI (fun _ j => 0 < j) fun i j => .int (i % j)) (tOp (rI CMul fun i j => .int (i * j)) (tVar 3) (tC (.int 48271))) (tC (.int 2147483647))) (gName 3))
      (tRet (tOp (rI (fun _ j => 0 < j) fun i j => .int (i % j)) (tOp (rI CMul fun i j => .int (i * j)) (tVar 3) (tVar 3)) (tC (.int 998244353))))))
def rd__law_many  : TS :=
  (tSeq (tIfS (tTest (tOp (rEq) (tOp (rI (fun _ j => 0 < j) fun i j => .int (i % j)) (tOp (rI CDiv fun i j => .int (i / j)) (tVar 0) (tC (.int 4))) (tC (.int 8))) (tC (.int 7)))) (tRet (tC (.int 8))) tNext)
      (tRet (tOp (rI (fun _ j => 0 < j) fun i j => .int (i % j)) (tVar 0) (tC (.int 4)))))
def rd__law_left (sp__law_mixed : Sp) : TS :=
  (tRet (tOp (rNe) (tOp (rI (fun _ j => 0 < j) fun i j => .int (i % j)) (tOp (rI CDiv fun i j => .int (i / j)) (tCall sp__law_mixed [] E0 (tCons (tVar 0) (tCons (tC (.int 50)) (tCons (tC (.int 0)) tNil)))) (tC (.int 3))) (tC (.int 6))) (tC (.int 1))))
def rd__law_heap (K : PySem.W.Frag) (C_Heap : Addr) (sp_Heap___init__ sp_Heap_back sp_Heap_make sp__law_left sp__law_many : Sp) : TS :=
  (tSeq (tAsg (tMake C_Heap sp_Heap___init__ [] E0 (tCons (tOp (rI CPow fun i j => .int (i ^ j.toNat)) (tC (.int 10)) (tC (.int 15))) tNil)) (gName 1))
      (tSeq (tFor (iList K (tVar 0)) (gName 2)
      (tDrop (tMeth C_Heap "make" sp_Heap_make [] E0 (tVar 1) (tCons (tCall sp__law_many [] E0 (tCons (tVar 2) tNil)) (tCons (tOp (rI (fun _ j => 0 < j) fun i j => .int (i % j)) (tOp (rI CMul fun i j => .int (i * j)) (tVar 2) (tC (.int 16807))) (tC (.int 1000003))) (tCons (tOp (rI (fun _ j => 0 < j) fun i j => .int (i % j)) (tOp (rI CDiv fun i j => .int (i / j)) (tVar 2) (tC (.int 32))) (tC (.int 2))) tNil))))))
      (tSeq (tFor (G.iEnum K (tCons (tVar 0) tNil)) (gTup K 2 (gCons (gName 3) (gCons (gName 2) gNil)))
      (tIfS (tNot (tB (tCall sp__law_left [] E0 (tCons (tVar 2) tNil)))) (tDrop (tMeth C_Heap "back" sp_Heap_back [] E0 (tVar 1) (tCons (tVar 3) tNil))) tNext))
      (tRet (tVar 1)))))
def rd__law_link (K : PySem.W.Frag) : TS :=
  (tSeq (tAsg (tOp (rI CDiv fun i j => .int (i / j)) (tVar 0) (tC (.int 5))) (gName 5))
      (tSeq (tIfS (tTest (tOp (rEq) (tOp (rI (fun _ j => 0 < j) fun i j => .int (i % j)) (tVar 0) (tC (.int 5))) (tC (.int 0)))) (tRet (tC .non)) tNext)
      (tSeq (tIfS (tTest (tOp (rEq) (tOp (rI (fun _ j => 0 < j) fun i j => .int (i % j)) (tVar 5) (tC (.int 7))) (tC (.int 0)))) (tRet (tOp (rI (fun _ j => 0 < j) fun i j => .int (i % j)) (tOp (rI CDiv fun i j => .int (i / j)) (tVar 5) (tC (.int 7))) (tVar 4))) tNext)
      (tSeq (tIfS ((tOr (tTest (tOp (rEq) (tOp (rI (fun _ j => 0 < j) fun i j => .int (i % j)) (tVar 0) (tC (.int 5))) (tC (.int 1)))) ((tAnd (tTest (tOp (rEq) (tVar 2) (tC (.int 0)))) (tTest (tOp (rEq) (tOp (rI (fun _ j => 0 < j) fun i j => .int (i % j)) (tVar 0) (tC (.int 5))) (tC (.int 2)))))))) (tRet (tOp (rIxL K) (tVar 3) (tOp (rI (fun _ j => 0 < j) fun i j => .int (i % j)) (tOp (rI0 fun i j => .int (i + j)) (tVar 1) (tC (.int 1))) (tCB (G.cLenL K) (tCons (tVar 3) tNil))))) tNext)
      (tSeq (tIfS (tTest (tOp (rEq) (tOp (rI (fun _ j => 0 < j) fun i j => .int (i % j)) (tVar 0) (tC (.int 5))) (tC (.int 2)))) (tRet (tOp (rIxL K) (tVar 3) (tCB (G.cMax) (tCons (tC (.int 0)) (tCons (tOp (rI0 fun i j => .int (i - j)) (tVar 1) (tOp (rI (fun _ j => 0 < j) fun i j => .int (i % j)) (tVar 5) (tC (.int 4)))) tNil))))) tNext)
      (tRet (tOp (rIxL K) (tVar 3) (tOp (rI (fun _ j => 0 < j) fun i j => .int (i % j)) (tVar 5) (tCB (G.cLenL K) (tCons (tVar 3) tNil))))))))))
def rd__law_links (K : PySem.W.Frag) (sp__law_left sp__law_link sp__law_many sp__law_mixed : Sp) : TS :=
  (tSeq (tAsg (tDNewK) (gName 2))
      (tSeq (tAsg (G.tLC (iRng1 (tCons (tCB (G.cLenL K) (tCons (tVar 1) tNil)) tNil)) [1] (tB (tCall sp__law_left [] E0 (tCons (tOp (rIxL K) (tVar 1) (tVar 0)) tNil))) (tVar 0)) (gName 4))
      (tSeq (tFor (G.iEnum K (tCons (tVar 4) tNil)) (gTup K 2 (gCons (gName 5) (gCons (gName 3) gNil)))
      (tSeq (sDPut (tVar 2) (tVar 3) (tLst tNil))
      (tSeq (tAsg (tFld K (tOp (rIxL K) (tFld K (tVar 0) "cells") (tVar 3)) "fields") (gName 6))
      (tFor (iRng1 (tCons (tCall sp__law_many [] E0 (tCons (tOp (rIxL K) (tVar 1) (tVar 3)) tNil)) tNil)) (gName 7)
      (tSeq (tAsg (tCall sp__law_mixed [] E0 (tCons (tOp (rIxL K) (tVar 1) (tVar 3)) (tCons (tVar 7) (tCons (tC (.int 0)) tNil)))) (gName 8))
      (tSeq (tAsg (tCall sp__law_link [] E0 (tCons (tVar 8) (tCons (tVar 5) (tCons (tVar 7) (tCons (tVar 4) (tCons (tCB (G.cLenL K) (tCons (tVar 1) tNil)) tNil)))))) (gName 9))
      (tSeq (tDrop (tBM K "list" rAppend (tDGet (tVar 2) (tVar 3)) (tCons (tVar 9) tNil)))
      (tAsg (tVar 9) (gSub (tVar 6) (tVar 7) rSetL)))))))))
      (tRet (tVar 2)))))
def rd__law_slot  : TS :=
  (tSeq (tIfS ((tOr (tTest (tOp (rEq) (tVar 1) (tC (.int 0)))) (tTest (tOp (rI0 fun i j => .bl (decide (j < i))) (tOp (rI (fun _ j => 0 < j) fun i j => .int (i % j)) (tVar 0) (tC (.int 4))) (tC (.int 0)))))) (tRet (tC .non)) tNext)
      (tRet (tOp (rI (fun _ j => 0 < j) fun i j => .int (i % j)) (tOp (rI CDiv fun i j => .int (i / j)) (tVar 0) (tC (.int 4))) (tVar 1))))
def rd__law_rows (K : PySem.W.Frag) (sp__law_mixed sp__law_slot : Sp) : TS :=
  (tSeq (tAsg (tLst tNil) (gName 3))
      (tSeq (tFor (iRng1 (tCons (tOp (rI0 fun i j => .int (i + j)) (tC (.int 1)) (tOp (rI (fun _ j => 0 < j) fun i j => .int (i % j)) (tVar 0) (tC (.int 6)))) tNil)) (gName 4)
      (tSeq (tAsg (tLst tNil) (gName 5))
      (tSeq (tFor (iRng1 (tCons (tOp (rI (fun _ j => 0 < j) fun i j => .int (i % j)) (tOp (rI0 fun i j => .int (i + j)) (tOp (rI0 fun i j => .int (i + j)) (tOp (rI CDiv fun i j => .int (i / j)) (tVar 0) (tC (.int 6))) (tOp (rI CMul fun i j => .int (i * j)) (tOp (rI CMul fun i j => .int (i * j)) (tC (.int 5)) (tVar 4)) (tVar 4))) (tVar 4)) (tC (.int 10))) tNil)) (gName 6)
      (tDrop (tBM K "list" rAppend (tVar 5) (tCons (tCall sp__law_slot [] E0 (tCons (tCall sp__law_mixed [] E0 (tCons (tVar 1) (tCons (tVar 6) (tCons (tVar 4) tNil)))) (tCons (tVar 2) tNil))) tNil))))
      (tDrop (tBM K "list" rAppend (tVar 3) (tCons (tVar 5) tNil))))))
      (tRet (tVar 3))))
def rd__law_key (K : PySem.W.Frag) (sp__law_whole : Sp) : TS :=
  (tSeq (tIfS ((tOr (tNot (tB (tCB (G.cIsi) (tCons (tVar 0) (tCons (tC (.ty "tuple")) tNil))))) (tTest (tOp (rI0 fun i j => .bl (decide (i < j))) (tCB (G.cLenL K) (tCons (tVar 0) tNil)) (tC (.int 2)))))) (tRet (tC .non)) tNext)
      (tSeq (tFor (iTup K (tVar 0)) (gName 2)
      (tIfS ((tOr (tNot (tB (tCall sp__law_whole [] E0 (tCons (tVar 2) tNil)))) (tTest (tOp (rI0 fun i j => .bl (decide (i < j))) (tVar 2) (tC (.int 0)))))) (tRet (tC .non)) tNext))
      (tSeq (tIfS (tTest (tOp (rEq) (tCB (G.cLenL K) (tCons (tVar 0) tNil)) (tC (.int 2)))) (tRet (tTup (tCons (tUn (rU fun i => .int (-i)) (tC (.int 1))) (tCons (tOp (rIxT K) (tVar 0) (tC (.int 0))) (tCons (tOp (rIxT K) (tVar 0) (tC (.int 1))) tNil))))) tNext)
      (tSeq (tIfS (tB (tDNotIn (tSl (rSlT K) (tVar 0) tNoPart (tPart (tUn (rU fun i => .int (-i)) (tC (.int 1))))) (tVar 1))) (tRet (tC .non)) tNext)
      (tRet (tTup (tCons (tDGet (tVar 1) (tSl (rSlT K) (tVar 0) tNoPart (tPart (tUn (rU fun i => .int (-i)) (tC (.int 1)))))) (tCons (tOp (rIxT K) (tVar 0) (tUn (rU fun i => .int (-i)) (tC (.int 1)))) (tCons (tC (.int 0)) tNil)))))))))
def rd__law_at_key (K : PySem.W.Frag) : TS :=
  (tSeq (tIfS (tTest (tOp (rEq) (tOp (rIxT K) (tVar 0) (tC (.int 0))) (tUn (rU fun i => .int (-i)) (tC (.int 1))))) (tSeq (tIfS ((tAnd (tTest (tOp (rI0 fun i j => .bl (decide (i < j))) (tOp (rIxT K) (tVar 0) (tC (.int 1))) (tCB (G.cLenL K) (tCons (tVar 2) tNil)))) (tTest (tOp (rI0 fun i j => .bl (decide (i < j))) (tOp (rIxT K) (tVar 0) (tC (.int 2))) (tCB (G.cLenL K) (tCons (tOp (rIxL K) (tVar 2) (tOp (rIxT K) (tVar 0) (tC (.int 1)))) tNil)))))) (tRet (tOp (rIxL K) (tOp (rIxL K) (tVar 2) (tOp (rIxT K) (tVar 0) (tC (.int 1)))) (tOp (rIxT K) (tVar 0) (tC (.int 2))))) tNext)
      (tRet (tC .non))) tNext)
      (tSeq (tAsg (tDGet (tVar 3) (tOp (rIxT K) (tOp (rIxL K) (tVar 1) (tOp (rIxT K) (tVar 0) (tC (.int 0)))) (tC (.int 0)))) (gName 4))
      (tSeq (tIfS (tTest (tOp (rI0 fun i j => .bl (decide (i < j))) (tOp (rIxT K) (tVar 0) (tC (.int 1))) (tCB (G.cLenL K) (tCons (tVar 4) tNil)))) (tRet (tOp (rIxL K) (tVar 4) (tOp (rIxT K) (tVar 0) (tC (.int 1))))) tNext)
      (tRet (tC .non)))))
def rd__law_keys (K : PySem.W.Frag) (sp__law_at_key sp__law_key sp__law_whole : Sp) : TS :=
  (tSeq (tAsg (tDNewK) (gName 3))
      (tSeq (tAsg (tDNewT) (gName 4))
      (tSeq (tAsg (tTup (tCons (tUn (rU fun i => .int (-i)) (tC (.int 2))) (tCons (tC (.int 0)) (tCons (tC (.int 0)) tNil)))) (gName 5))
      (tSeq (tFor (G.iEnum K (tCons (tVar 0) tNil)) (gTup K 2 (gCons (gName 6) (gCons (gName 7) gNil)))
      (tSeq (tIfS ((tOr (tNot (tB (tCB (G.cIsi) (tCons (tVar 7) (tCons (tC (.ty "tuple")) tNil))))) (tTest (tOp (rNe) (tCB (G.cLenL K) (tCons (tVar 7) tNil)) (tC (.int 2)))))) (tRet (tC .non)) tNext)
      (tSeq (tIfS ((tOr (tNot (tB (tCall sp__law_whole [] E0 (tCons (tOp (rIxT K) (tVar 7) (tC (.int 0))) tNil)))) (tOr (tB (G.tDInN true (tOp (rIxT K) (tVar 7) (tC (.int 0))) (tVar 2))) (tB (G.tDInN false (tOp (rIxT K) (tVar 7) (tC (.int 0))) (tVar 3)))))) (tRet (tC .non)) tNext)
      (tSeq (tAsg (tCall sp__law_key [] E0 (tCons (tOp (rIxT K) (tVar 7) (tC (.int 1))) (tCons (tVar 4) tNil))) (gName 8))
      (tSeq (tIfS ((tOr (tTest (tOp (G.rIsN) (tVar 8) (tC .non))) (tTest (tOp (rLeT K) (tVar 8) (tVar 5))))) (tRet (tC .non)) tNext)
      (tSeq (tIfS (tTest (tOp (rNe) (tCall sp__law_at_key [] E0 (tCons (tVar 8) (tCons (tVar 0) (tCons (tVar 1) (tCons (tVar 2) tNil))))) (tOp (rIxT K) (tVar 7) (tC (.int 0))))) (tRet (tC .non)) tNext)
      (tSeq (tIfS ((tAnd (tTest (tOp (rI0 fun i j => .bl (decide (j < i))) (tVar 6) (tC (.int 0)))) (tTest (tOp (rI0 fun i j => .bl (decide (i < j))) (tCB (G.cLenL K) (tCons (tOp (rIxT K) (tVar 7) (tC (.int 1))) tNil)) (tCB (G.cLenL K) (tCons (tOp (rIxT K) (tOp (rIxL K) (tVar 0) (tOp (rI0 fun i j => .int (i - j)) (tVar 6) (tC (.int 1)))) (tC (.int 1))) tNil)))))) (tRet (tC .non)) tNext)
      (tSeq (tAsg (tVar 8) (gName 5))
      (tSeq (sDPut (tVar 3) (tOp (rIxT K) (tVar 7) (tC (.int 0))) (tVar 8))
      (sDPut (tVar 4) (tOp (rIxT K) (tVar 7) (tC (.int 1))) (tVar 6)))))))))))
      (tRet (tVar 3))))))
def rd__law_told_by (K : PySem.W.Frag) : TS :=
  (tRet ((tAndV (G.tDInN false (tVar 1) (tVar 0)) (tOp (rLeT K) (tDGet (tVar 0) (tVar 1)) (tVar 2)))))
def rd__law_least (K : PySem.W.Frag) (sp__law_told_by : Sp) : TS :=
  (tSeq (tFor (iRng1 (tCons (tCB (G.cLenL K) (tCons (tVar 2) tNil)) tNil)) (gName 4)
      (tFor (iRng1 (tCons (tCB (G.cLenL K) (tCons (tOp (rIxL K) (tVar 2) (tVar 4)) tNil)) tNil)) (gName 5)
      (tSeq (tAsg (tOp (rIxL K) (tOp (rIxL K) (tVar 2) (tVar 4)) (tVar 5)) (gName 6))
      (tIfS ((tAnd (tB (G.tDInN false (tVar 6) (tVar 3))) (tNot (tB (tCall sp__law_told_by [] E0 (tCons (tVar 1) (tCons (tVar 6) (tCons (tTup (tCons (tUn (rU fun i => .int (-i)) (tC (.int 1))) (tCons (tVar 4) (tCons (tVar 5) tNil)))) tNil)))))))) (tRet (tC (.bl false))) tNext))))
      (tSeq (tFor (G.iEnum K (tCons (tVar 0) tNil)) (gTup K 2 (gCons (gName 7) (gCons (gName 8) gNil)))
      (tFor (G.iEnum K (tCons (tDGet (tVar 3) (tOp (rIxT K) (tVar 8) (tC (.int 0)))) tNil)) (gTup K 2 (gCons (gName 9) (gCons (gName 6) gNil)))
      (tIfS ((tAnd (tB (G.tDInN false (tVar 6) (tVar 3))) (tNot (tB (tCall sp__law_told_by [] E0 (tCons (tVar 1) (tCons (tVar 6) (tCons (tTup (tCons (tVar 7) (tCons (tVar 9) (tCons (tC (.int 0)) tNil)))) tNil)))))))) (tRet (tC (.bl false))) tNext)))
      (tRet (tC (.bl true)))))
def rd_law (K : PySem.W.Frag) (sp__law_cell_at sp__law_heap sp__law_keys sp__law_least sp__law_links sp__law_rows sp_reached : Sp) : TS :=
  (tSeq (tAsg (tSl (rSlL K) (tVar 0) (tPart (tC (.int 2))) (tPart (tC (.int 42)))) (gName 1))
      (tSeq (tAsg (tCall sp__law_heap [] E0 (tCons (tVar 1) tNil)) (gName 2))
      (tSeq (tAsg (tCall sp__law_links [] E0 (tCons (tVar 2) (tCons (tVar 1) tNil))) (gName 3))
      (tSeq (tAsg (tCall sp__law_rows [] E0 (tCons (tCall sp__law_cell_at [] E0 (tCons (tVar 0) (tCons (tC (.int 0)) tNil))) (tCons (tCall sp__law_cell_at [] E0 (tCons (tVar 0) (tCons (tC (.int 1)) tNil))) (tCons (tCB (G.cLenL K) (tCons (tVar 1) tNil)) tNil)))) (gName 4))
      (tSeq (tAsg (tCall sp_reached [] E0 (tCons (tVar 2) (tCons (G.tLC (iList K (tVar 4)) [] G.tTrue (tCB (G.cListL K) (tCons (tVar 0) tNil))) tNil))) (gName 5))
      (tSeq (tIfS (tNot (tB (tCB (G.cIsi) (tCons (tVar 5) (tCons (tC (.ty "list")) tNil))))) (tRet (tC (.bl false))) tNext)
      (tSeq (tAsg (tCall sp__law_keys [] E0 (tCons (tVar 5) (tCons (tVar 4) (tCons (tVar 3) tNil)))) (gName 6))
      (tRet ((tAndV (tOp (G.rNotN) (tVar 6) (tC .non)) (tCall sp__law_least [] E0 (tCons (tVar 5) (tCons (tVar 6) (tCons (tVar 4) (tCons (tVar 3) tNil)))))))))))))))
structure TxC (K : PySem.W.Frag) (C_Cell C_Heap : Addr) : Prop where
  cl_Cell : Cls K C_Cell
  n_Cell_birth : NoAttr K C_Cell "birth"
  n_Cell_bulk : NoAttr K C_Cell "bulk"
  n_Cell_tone : NoAttr K C_Cell "tone"
  n_Cell_load : NoAttr K C_Cell "load"
  n_Cell_fields : NoAttr K C_Cell "fields"
  cl_Heap : Cls K C_Heap
  n_Heap_room : NoAttr K C_Heap "room"
  n_Heap_cells : NoAttr K C_Heap "cells"
  n_Heap_used : NoAttr K C_Heap "used"
  n_Heap_born : NoAttr K C_Heap "born"
  eq_Cell : EqD K C_Cell
structure CellO (CC : Addr) (H : Hp) (p fa : Addr) (birth bulk tone load : Int) (fl : List V) : Prop where
  o : ∃ dx, H p = some (.ins CC dx (cellF birth bulk tone load fa))
  f : H fa = some (.lst fl)
theorem CellO.same {CC : Addr} {H H' : Hp} {p fa : Addr} {birth bulk tone load : Int} {fl : List V} (h : CellO CC H p fa birth bulk tone load fl) (s : Same H H') : CellO CC H' p fa birth bulk tone load fl := by
  obtain ⟨⟨dx, h1⟩, h2⟩ := h
  exact ⟨⟨dx, s _ _ h1⟩, s _ _ h2⟩
structure HpO (CH : Addr) (H : Hp) (hp ca : Addr) (room used born : Int) (cs : List V) : Prop where
  o : ∃ dx, H hp = some (.ins CH dx (heapF room ca used born))
  c : H ca = some (.lst cs)
theorem HpO.ne {CH : Addr} {H : Hp} {hp ca : Addr} {room used born : Int} {cs : List V} (h : HpO CH H hp ca room used born cs) : hp ≠ ca := by
  obtain ⟨⟨dx, h1⟩, h2⟩ := h
  exact ne_of h1 h2 (fun z => by cases z)
theorem cellF_ne_heapF {a b c d e f g : Int} {x y : Addr} : cellF a b c d x ≠ heapF e y f g := fun z => by
  have := congrArg List.length z
  cases this
def S_Cell_init (CC : Addr) : Sp := fun vs H Q E => ∃ p birth many bulk tone, vs = [.ref p, .int birth, .int many, .int bulk, .int tone] ∧ ∃ dx, H p = some (.ins CC dx []) ∧ 0 ≤ many ∧ many ≤ 1000 ∧
  ∀ fa H', H fa = none → H' p = some (.ins CC dx (cellF birth bulk tone 0 fa)) → H' fa = some (.lst (List.replicate many.toNat V.non)) → (∀ b o, H b = some o → b ≠ p → H' b = some o) → Q .non H'
def S_Cell_units (CC : Addr) : Sp := fun vs H Q E => ∃ p, vs = [.ref p] ∧ ∃ fa birth bulk tone load fl, CellO CC H p fa birth bulk tone load fl ∧ Q (.int (1 + fl.length + bulk)) H
def S_Heap_init (CH : Addr) : Sp := fun vs H Q E => ∃ p room, vs = [.ref p, .int room] ∧ ∃ dx, H p = some (.ins CH dx []) ∧
  ∀ ca H', H ca = none → H' p = some (.ins CH dx (heapF room ca 0 0)) → H' ca = some (.lst []) → (∀ b o, H b = some o → b ≠ p → H' b = some o) → Q .non H'
def S_Heap_free (CH : Addr) : Sp := fun vs H Q E => ∃ hp, vs = [.ref hp] ∧ ∃ ca room used born cs, HpO CH H hp ca room used born cs ∧ Q (.int (room - used)) H
def putN (cs : List V) (v : V) : List V := if V.non ∈ cs then cs.set (cs.idxOf V.non) v else cs ++ [v]
def S_Heap_lay (K : PySem.W.Frag) (CH : Addr) : Sp := fun vs H Q E => ∃ hp v, vs = [.ref hp, v] ∧ ∃ ca room used born cs, HpO CH H hp ca room used born cs ∧ OkN K H cs ∧ cs.length ≤ 1000 ∧ Q (.int (cs.idxOf V.non)) (upd H ca (.lst (putN cs v)))
def S_Heap_back (CC CH : Addr) : Sp := fun vs H Q E => ∃ hp i, vs = [.ref hp, .int i] ∧ ∃ ca dx room used born cs p fa birth bulk tone load fl, 0 ≤ i ∧ H hp = some (.ins CH dx (heapF room ca used born)) ∧ H ca = some (.lst cs) ∧ cs[i.toNat]? = some (.ref p) ∧ CellO CC H p fa birth bulk tone load fl ∧
  Q (.int birth) (upd (upd H hp (.ins CH dx (heapF room ca (used - (1 + fl.length + bulk)) born))) ca (.lst (cs.set i.toNat V.non)))
def S_Heap_make (K : PySem.W.Frag) (CC CH CF : Addr) : Sp := fun vs H Q E => ∃ hp many bulk tone, vs = [.ref hp, .int many, .int bulk, .int tone] ∧ ∃ ca dx room used born cs, H hp = some (.ins CH dx (heapF room ca used born)) ∧ H ca = some (.lst cs) ∧ OkN K H cs ∧ cs.length ≤ 1000 ∧ 0 ≤ many ∧ many ≤ 1000 ∧
  (room - used < 1 + many + bulk → ∀ H', Same H H' → E (.ref CF) none H') ∧
  (1 + many + bulk ≤ room - used → ∀ p fa H', H p = none → H fa = none → Fm [hp, ca] H H' → H' hp = some (.ins CH dx (heapF room ca (used + (1 + many + bulk)) (born + 1))) → H' ca = some (.lst (putN cs (.ref p))) →
    CellO CC H' p fa (born + 1) bulk tone 0 (List.replicate many.toNat V.non) → Q (.int (cs.idxOf V.non)) H')
section
variable {K : PySem.W.Frag} {C_Cell C_Heap C_Full : Addr} {H : Hp} {Q : VK} {E : XK} {n : St → Hp → Prop} {bk ct : St → Hp → Prop}
theorem Cell_units_rd {p : Addr} (T : TxC K C_Cell C_Heap) (q : ∃ fa birth bulk tone load fl, CellO C_Cell H p fa birth bulk tone load fl ∧ Q (.int (1 + fl.length + bulk)) H) : rd_Cell_units K ⟨n, Q, bk, ct⟩ [some (.ref p)] H := by
  obtain ⟨fa, birth, bulk, tone, load, fl, ⟨⟨dx, h1⟩, h2⟩, h⟩ := q
  unfold rd_Cell_units
  walk_at "ev"
  refine i_fldK h1 T.cl_Cell T.n_Cell_fields cellF_lk_fields ?_
  walk_at "ev"
  refine i_lenL (SqL.of h2) ?_
  walk_at "ev"
  refine i_fldK h1 T.cl_Cell T.n_Cell_bulk cellF_lk_bulk ?_
  walk_at "ev"
  exact h
theorem Cell___init___rd {p : Addr} {birth many bulk tone : Int} (T : TxC K C_Cell C_Heap) (q : ∃ dx, H p = some (.ins C_Cell dx []) ∧ 0 ≤ many ∧ many ≤ 1000 ∧
  ∀ fa H', H fa = none → H' p = some (.ins C_Cell dx (cellF birth bulk tone 0 fa)) → H' fa = some (.lst (List.replicate many.toNat V.non)) → (∀ b o, H b = some o → b ≠ p → H' b = some o) → Q .non H') :
    rd_Cell___init__ K ⟨fun _ H' => Q .non H', Q, bk, ct⟩ [some (.ref p), some (.int birth), some (.int many), some (.int bulk), some (.int tone)] H := by
  obtain ⟨dx, hp, h0, h1, h⟩ := q
  unfold rd_Cell___init__
  walk_at "ev"
  refine ⟨p, C_Cell, dx, [], rfl, hp, T.cl_Cell, T.n_Cell_birth, by decide, ?_⟩
  walk_at "ev"
  refine ⟨p, C_Cell, dx, _, rfl, upd_same, T.cl_Cell, T.n_Cell_bulk, by show 1 < 1000; decide, ?_⟩
  rw [upd_upd]
  walk_at "ev"
  refine ⟨p, C_Cell, dx, _, rfl, upd_same, T.cl_Cell, T.n_Cell_tone, by show 2 < 1000; decide, ?_⟩
  rw [upd_upd]
  walk_at "ev"
  refine ⟨p, C_Cell, dx, _, rfl, upd_same, T.cl_Cell, T.n_Cell_load, by show 3 < 1000; decide, ?_⟩
  rw [upd_upd]
  walk_at "ev"
  refine ⟨by decide, fun l0 hl0 => ?_⟩
  walk_at "ev"
  refine ⟨l0, many, _, rfl, rfl, upd_same, by omega, by omega, ?_, fun fa hfa => ?_⟩
  · show 1 * many.toNat ≤ sizeLine
    exact len_ok (by omega)
  have npl : p ≠ l0 := ne_of_none upd_same hl0
  have npf : p ≠ fa := ne_of_none ((upd_ne npl).trans upd_same) hfa
  walk_at "ev"
  refine ⟨p, C_Cell, dx, _, rfl, (upd_ne npf).trans ((upd_ne npl).trans upd_same), T.cl_Cell, T.n_Cell_fields, by show 4 < 1000; decide, ?_⟩
  have nfa : H fa = none := by
    have e := hfa
    have n1 : fa ≠ l0 := fun z => by rw [z, upd_same] at e; cases e
    rw [upd_ne n1, upd_ne npf.symm] at e
    exact e
  refine h fa _ nfa (upd_same.trans (congrArg (fun l => some (HO.ins C_Cell dx l)) cellF_mk)) ?_ fun b o hb hne => ?_
  · rw [upd_ne npf.symm, upd_same]
    have e : (List.replicate many.toNat [V.non]).flatten = List.replicate many.toNat V.non := by
      generalize many.toNat = k
      induction k with
      | zero => rfl
      | succ k ih => rw [List.replicate_succ, List.replicate_succ, List.flatten_cons, ih]; rfl
    rw [e]
  · have e1 : upd H p (HO.ins C_Cell dx (putF "load" (V.int 0) (putF "tone" (V.int tone) (putF "bulk" (V.int bulk) (putF "birth" (V.int birth) []))))) b = some o := (upd_ne hne).trans hb
    have n1 : b ≠ l0 := ne_of_none e1 hl0
    have n2 : b ≠ fa := ne_of_none ((upd_ne n1).trans e1) hfa
    rw [upd_ne hne, upd_ne n2, upd_ne n1]
    exact e1
theorem Heap___init___rd {p : Addr} {room : Int} (T : TxC K C_Cell C_Heap) (q : ∃ dx, H p = some (.ins C_Heap dx []) ∧
  ∀ ca H', H ca = none → H' p = some (.ins C_Heap dx (heapF room ca 0 0)) → H' ca = some (.lst []) → (∀ b o, H b = some o → b ≠ p → H' b = some o) → Q .non H') :
    rd_Heap___init__ K ⟨fun _ H' => Q .non H', Q, bk, ct⟩ [some (.ref p), some (.int room)] H := by
  obtain ⟨dx, hp, h⟩ := q
  unfold rd_Heap___init__
  walk_at "ev"
  refine ⟨p, C_Heap, dx, [], rfl, hp, T.cl_Heap, T.n_Heap_room, by decide, ?_⟩
  walk_at "ev"
  refine ⟨by decide, fun ca hca => ?_⟩
  walk_at "ev"
  have npc : p ≠ ca := ne_of_none upd_same hca
  refine ⟨p, C_Heap, dx, _, rfl, (upd_ne npc).trans upd_same, T.cl_Heap, T.n_Heap_cells, by show 1 < 1000; decide, ?_⟩
  walk_at "ev"
  refine ⟨p, C_Heap, dx, _, rfl, upd_same, T.cl_Heap, T.n_Heap_used, by show 2 < 1000; decide, ?_⟩
  rw [upd_upd]
  walk_at "ev"
  refine ⟨p, C_Heap, dx, _, rfl, upd_same, T.cl_Heap, T.n_Heap_born, by show 3 < 1000; decide, ?_⟩
  rw [upd_upd]
  have nca : H ca = none := by
    have e := hca
    rw [upd_ne npc.symm] at e
    exact e
  refine h ca _ nca (upd_same.trans (congrArg (fun l => some (HO.ins C_Heap dx l)) heapF_mk)) ?_ fun b o hb hne => ?_
  · rw [upd_ne npc.symm, upd_same]
  · rw [upd_ne hne, upd_ne (ne_of_none ((upd_ne hne).trans hb) hca), upd_ne hne]; exact hb
theorem Heap_free_rd {hp : Addr} (T : TxC K C_Cell C_Heap) (q : ∃ ca room used born cs, HpO C_Heap H hp ca room used born cs ∧ Q (.int (room - used)) H) : rd_Heap_free K ⟨n, Q, bk, ct⟩ [some (.ref hp)] H := by
  obtain ⟨ca, room, used, born, cs, ⟨⟨dx, h1⟩, h2⟩, h⟩ := q
  unfold rd_Heap_free
  walk_at "ev"
  refine i_fldK h1 T.cl_Heap T.n_Heap_room heapF_lk_room ?_
  walk_at "ev"
  refine i_fldK h1 T.cl_Heap T.n_Heap_used heapF_lk_used ?_
  walk_at "ev"
  exact h
theorem Heap_lay_rd {hp : Addr} {v : V} (T : TxC K C_Cell C_Heap) (q : ∃ ca room used born cs, HpO C_Heap H hp ca room used born cs ∧ OkN K H cs ∧ cs.length ≤ 1000 ∧ Q (.int (cs.idxOf V.non)) (upd H ca (.lst (putN cs v)))) : rd_Heap_lay K ⟨n, Q, bk, ct⟩ [some (.ref hp), some v, none] H := by
  obtain ⟨ca, room, used, born, cs, ⟨⟨dx, h1⟩, h2⟩, ho, hl, h⟩ := q
  unfold rd_Heap_lay
  walk_at "ev"
  refine i_fldK h1 T.cl_Heap T.n_Heap_cells heapF_lk_cells ?_
  walk_at "ev"
  refine i_notInN (SqL.of h2) ho ?_
  walk_at "ev"
  refine ifnd (fun hn => ?_) (fun hn => ?_)
  · walk_at "ev"
    refine i_fldK h1 T.cl_Heap T.n_Heap_cells heapF_lk_cells ?_
    refine ⟨.inl ⟨rfl, _, SqL.of h2⟩, ?_⟩
    walk_at "ev"
    refine ⟨ca, cs, v, rfl, rfl, h2, Nat.lt_of_le_of_lt hl (by decide), ?_⟩
    walk_at "ev"
    have hne : hp ≠ ca := ne_of h1 h2 (fun z => by cases z)
    refine i_fldK ((upd_ne hne).trans h1) T.cl_Heap T.n_Heap_cells heapF_lk_cells ?_
    walk_at "ev"
    refine i_lenL (SqL.of upd_same) ?_
    walk_at "ev"
    have e1 : (((cs ++ [v]).length : Int) - 1) = (cs.idxOf V.non : Nat) := by
      rw [List.length_append, List.idxOf_eq_length hn]
      simp
    have e2 : putN cs v = cs ++ [v] := by unfold putN; rw [if_neg hn]
    rw [e1, ← e2]
    exact h
  · walk_at "ev"
    refine i_fldK h1 T.cl_Heap T.n_Heap_cells heapF_lk_cells ?_
    refine ⟨.inl ⟨rfl, _, SqL.of h2⟩, ?_⟩
    walk_at "ev"
    refine ⟨ca, cs, rfl, rfl, SqL.of h2, ho, hn, ?_⟩
    walk_at "ev"
    refine i_fldK h1 T.cl_Heap T.n_Heap_cells heapF_lk_cells ?_
    walk_at "ev"
    have hi : cs.idxOf V.non < cs.length := List.idxOf_lt_length_iff.mpr hn
    refine ⟨ca, cs, _, _, rfl, rfl, h2, ixN_nat hi, ?_⟩
    have e2 : putN cs v = cs.set (cs.idxOf V.non) v := by unfold putN; rw [if_pos hn]
    rw [← e2]
    walk_at "ev"
    exact h
theorem Heap_back_rd {hp : Addr} {i : Int} (T : TxC K C_Cell C_Heap) (q : ∃ ca dx room used born cs p fa birth bulk tone load fl, 0 ≤ i ∧ H hp = some (.ins C_Heap dx (heapF room ca used born)) ∧ H ca = some (.lst cs) ∧ cs[i.toNat]? = some (.ref p) ∧ CellO C_Cell H p fa birth bulk tone load fl ∧
  Q (.int birth) (upd (upd H hp (.ins C_Heap dx (heapF room ca (used - (1 + fl.length + bulk)) born))) ca (.lst (cs.set i.toNat V.non)))) : rd_Heap_back K C_Cell (S_Cell_units C_Cell) ⟨n, Q, bk, ct⟩ [some (.ref hp), some (.int i), none] H := by
  obtain ⟨ca, dx, room, used, born, cs, p, fa, birth, bulk, tone, load, fl, h0, h1, h2, hi, co, h⟩ := q
  obtain ⟨⟨dp, c1⟩, c2⟩ := id co
  unfold rd_Heap_back
  walk_at "ev"
  refine i_fldK h1 T.cl_Heap T.n_Heap_cells heapF_lk_cells ?_
  walk_at "ev"
  refine i_ixL (SqL.of h2) (atI_int h0 hi) ?_
  walk_at "ev"
  refine i_fldK h1 T.cl_Heap T.n_Heap_used heapF_lk_used ?_
  walk_at "ev"
  refine ⟨p, dp, _, rfl, c1, cellF_no_units, ?_⟩
  walk_at "ev"
  refine ⟨p, rfl, fa, birth, bulk, tone, load, fl, co, ?_⟩
  walk_at "ev"
  refine ⟨hp, C_Heap, dx, _, rfl, h1, T.cl_Heap, T.n_Heap_used, by show 4 < 1000; decide, ?_⟩
  rw [heapF_put_used]
  have hne : hp ≠ ca := ne_of h1 h2 (fun z => by cases z)
  walk_at "ev"
  refine i_fldK upd_same T.cl_Heap T.n_Heap_cells heapF_lk_cells ?_
  walk_at "ev"
  have hlt : i.toNat < cs.length := (List.getElem?_eq_some_iff.mp hi).1
  refine ⟨ca, cs, _, _, rfl, rfl, (upd_ne hne.symm).trans h2, ixN_int h0 hlt, ?_⟩
  walk_at "ev"
  refine i_fldK (C := C_Cell) (a := p) (dx := dp) (fs := cellF birth bulk tone load fa) ?_ T.cl_Cell T.n_Cell_birth cellF_lk_birth ?_
  · have n1 : p ≠ ca := ne_of c1 h2 (fun z => by cases z)
    have n2 : p ≠ hp := ne_of c1 h1 (fun z => by injection z with _ _ z; exact cellF_ne_heapF z)
    rw [upd_ne n1, upd_ne n2]
    exact c1
  exact h
theorem Heap_make_rd {hp : Addr} {many bulk tone : Int} (T : TxC K C_Cell C_Heap) (q : ∃ ca dx room used born cs, H hp = some (.ins C_Heap dx (heapF room ca used born)) ∧ H ca = some (.lst cs) ∧ OkN K H cs ∧ cs.length ≤ 1000 ∧ 0 ≤ many ∧ many ≤ 1000 ∧
  (room - used < 1 + many + bulk → ∀ H', Same H H' → E (.ref C_Full) none H') ∧
  (1 + many + bulk ≤ room - used → ∀ p fa H', H p = none → H fa = none → Fm [hp, ca] H H' → H' hp = some (.ins C_Heap dx (heapF room ca (used + (1 + many + bulk)) (born + 1))) → H' ca = some (.lst (putN cs (.ref p))) →
    CellO C_Cell H' p fa (born + 1) bulk tone 0 (List.replicate many.toNat V.non) → Q (.int (cs.idxOf V.non)) H')) :
    rd_Heap_make K C_Cell C_Full C_Heap (S_Cell_init C_Cell) (S_Cell_units C_Cell) (S_Heap_free C_Heap) (S_Heap_lay K C_Heap) E ⟨n, Q, bk, ct⟩ [some (.ref hp), some (.int many), some (.int bulk), some (.int tone), none] H := by
  obtain ⟨ca, dx, room, used, born, cs, h1, h2, ho, hl, m0, m1, hE, hQ⟩ := q
  have hne : hp ≠ ca := ne_of h1 h2 (fun z => by cases z)
  unfold rd_Heap_make
  walk_at "ev"
  refine i_fldK h1 T.cl_Heap T.n_Heap_born heapF_lk_born ?_
  walk_at "ev"
  intro p dp np ndp ned
  refine ⟨p, _, many, _, _, rfl, dp, upd_same, m0, m1, fun fa H1 nfa c1 c2 f3 => ⟨rfl, ?_⟩⟩
  have nfa' : H fa = none := by
    have e := nfa
    by_cases z1 : fa = p
    · rw [z1, upd_same] at e; cases e
    · rw [upd_ne z1] at e
      by_cases z2 : fa = dp
      · rw [z2, upd_same] at e; cases e
      · rw [upd_ne z2] at e; exact e
  have sm : Same H H1 := fun b o hb => by
    refine f3 b o ?_ (ne_of_none hb np)
    rw [upd_ne (ne_of_none hb np), upd_ne (ne_of_none hb ndp)]
    exact hb
  have co : CellO C_Cell H1 p fa (born + 1) bulk tone 0 (List.replicate many.toNat V.non) := ⟨⟨dp, c1⟩, c2⟩
  have el : ((List.replicate many.toNat V.non).length : Int) = many := by rw [List.length_replicate]; omega
  walk_at "ev"
  refine ⟨p, dp, _, rfl, c1, cellF_no_units, ?_⟩
  walk_at "ev"
  refine ⟨p, rfl, fa, _, _, _, _, _, co, ?_⟩
  walk_at "ev"
  refine ⟨hp, dx, _, rfl, sm _ _ h1, heapF_no_free, ?_⟩
  walk_at "ev"
  refine ⟨hp, rfl, ca, room, used, born, cs, ⟨⟨dx, sm _ _ h1⟩, sm _ _ h2⟩, ?_⟩
  walk_at "ev"
  rw [el]
  refine ifd (fun hf => ?_) (fun hf => ?_)
  · walk_at "ev"
    exact ⟨by decide, hE hf H1 sm⟩
  · walk_at "ev"
    refine i_fldK c1 T.cl_Cell T.n_Cell_birth cellF_lk_birth ?_
    walk_at "ev"
    refine ⟨hp, C_Heap, dx, _, rfl, sm _ _ h1, T.cl_Heap, T.n_Heap_born, by show 4 < 1000; decide, ?_⟩
    rw [heapF_put_born]
    walk_at "ev"
    refine i_fldK upd_same T.cl_Heap T.n_Heap_used heapF_lk_used ?_
    walk_at "ev"
    have n1 : p ≠ hp := (ne_of_none h1 np).symm
    have n2 : fa ≠ hp := (ne_of_none h1 nfa').symm
    have n3 : p ≠ ca := (ne_of_none h2 np).symm
    have n4 : fa ≠ ca := (ne_of_none h2 nfa').symm
    refine ⟨p, dp, _, rfl, (upd_ne n1).trans c1, cellF_no_units, ?_⟩
    walk_at "ev"
    refine ⟨p, rfl, fa, _, _, _, _, _, ⟨⟨dp, (upd_ne n1).trans c1⟩, (upd_ne n2).trans c2⟩, ?_⟩
    walk_at "ev"
    rw [el]
    refine ⟨hp, C_Heap, dx, _, rfl, upd_same, T.cl_Heap, T.n_Heap_used, by show 4 < 1000; decide, ?_⟩
    rw [heapF_put_used, upd_upd]
    walk_at "ev"
    refine ⟨hp, dx, _, rfl, upd_same, heapF_no_lay, ?_⟩
    walk_at "ev"
    refine ⟨hp, .ref p, rfl, ca, room, _, _, cs, ⟨⟨dx, upd_same⟩, (upd_ne hne.symm).trans (sm _ _ h2)⟩, ?_, hl, ?_⟩
    · intro y hy
      rcases ho y hy with e | ⟨a, C, d, fs, e, ha, hc, he⟩
      · exact .inl e
      · refine .inr ?_
        by_cases z : a = hp
        · rw [z] at ha e
          rw [h1] at ha; cases ha
          exact ⟨hp, _, _, _, e, upd_same, hc, he⟩
        · exact ⟨a, C, d, fs, e, (upd_ne z).trans (sm _ _ ha), hc, he⟩
    · refine hQ (by omega) p fa _ np nfa' ?_ ((upd_ne hne).trans upd_same) upd_same ⟨⟨dp, ?_⟩, ?_⟩
      · intro b o hb hn
        have b1 : b ≠ hp := fun z => hn (by rw [z]; exact List.mem_cons_self)
        have b2 : b ≠ ca := fun z => hn (by rw [z]; exact List.mem_cons_of_mem _ List.mem_cons_self)
        rw [upd_ne b2, upd_ne b1]
        exact sm _ _ hb
      · rw [upd_ne n3, upd_ne n1]; exact c1
      · rw [upd_ne n4, upd_ne n2]; exact c2
end
namespace KB
abbrev Fd := List (Option (List (Option Int)))
def fat (F : Fd) (p : Int) : Option (List (Option Int)) := if 0 ≤ p then (F[p.toNat]?).join else none
def nxt (F : Fd) (pl : Option Int) (f : Int) : Option Int := match pl with
  | none => none
  | some p => match fat F p with
    | none => none
    | some fl => if 0 ≤ f then (fl[f.toNat]?).join else none
abbrev Rw := List (List (Option Int))
def slt (R : Rw) (r s : Int) : Option Int := ((R[r.toNat]?).bind fun x => x[s.toNat]?).join
def fol (F : Fd) (R : Rw) : List Int → Option Int
  | r :: s :: fs => let e := fs.foldl (nxt F) (slt R r s); if (e.bind (fat F)).isSome then e else none
  | _ => none
def onw1 (F : Fd) (w : List Int) (x : Option Int × Nat) : Option (Int × List Int) := match x.1 with
  | none => none
  | some q => if (fat F q).isSome then some (q, w ++ [(x.2 : Int)]) else none
def onw (F : Fd) (w : List Int) (n : Nat) (ps : List (Option Int)) : List (Int × List Int) := (ps.zipIdx n).filterMap (onw1 F w)
def q0 (F : Fd) (n : Nat) (R : Rw) : List (Int × List Int) := (R.zipIdx n).flatMap fun x => onw F [(x.2 : Int)] 0 x.1
structure Good (F : Fd) (R : Rw) (p : Int) (w : List Int) : Prop where
  ex : ∃ r s fs row, w = r :: s :: fs ∧ 0 ≤ r ∧ 0 ≤ s ∧ R[r.toNat]? = some row ∧ s.toNat < row.length ∧ (∀ f ∈ fs, 0 ≤ f) ∧ fs.foldl (nxt F) (slt R r s) = some p
  there : (fat F p).isSome = true
theorem mem_onw {F : Fd} {w : List Int} {n : Nat} {ps : List (Option Int)} {q : Int} {v : List Int} (h : (q, v) ∈ onw F w n ps) : ∃ k, ps[k]? = some (some q) ∧ v = w ++ [((n + k : Nat) : Int)] ∧ (fat F q).isSome = true := by
  obtain ⟨⟨x, m⟩, hm, e⟩ := List.mem_filterMap.mp h
  obtain ⟨hk1, hk2⟩ := List.mem_zipIdx_iff_le_and_getElem?_sub.mp hm
  unfold onw1 at e
  cases x with
  | none => cases e
  | some q' =>
    simp only at e
    split at e
    · rename_i hs
      cases e
      refine ⟨m - n, hk2, ?_, hs⟩
      have : n + (m - n) = m := by have := hk1; simp only at this; omega
      rw [this]
    · cases e
theorem good_onw {F : Fd} {R : Rw} {p q : Int} {w v : List Int} {fl : List (Option Int)} (g : Good F R p w) (hf : fat F p = some fl) (h : (q, v) ∈ onw F w 0 fl) : Good F R q v := by
  obtain ⟨k, hk, rfl, hs⟩ := mem_onw h
  obtain ⟨⟨r, s, fs, row, rfl, h1, h2, h3, h4, h5, h6⟩, _⟩ := g
  refine ⟨⟨r, s, fs ++ [((0 + k : Nat) : Int)], row, rfl, h1, h2, h3, h4, fun f hf => ?_, ?_⟩, hs⟩
  · rcases List.mem_append.mp hf with z | z
    · exact h5 f z
    · have : f = ((0 + k : Nat) : Int) := by simpa using z
      omega
  · rw [List.foldl_append, h6]
    show nxt F (some p) _ = some q
    unfold nxt
    simp only [hf]
    rw [if_pos (by omega)]
    have : (((0 + k : Nat) : Int)).toNat = k := by omega
    rw [this, hk]; rfl
theorem good_q0 {F : Fd} {R : Rw} {q : Int} {v : List Int} (h : (q, v) ∈ q0 F 0 R) : Good F R q v := by
  obtain ⟨⟨row, n⟩, hm, h⟩ := List.mem_flatMap.mp h
  have hr : R[n]? = some row := List.mem_zipIdx_iff_getElem?.mp hm
  obtain ⟨k, hk, rfl, hs⟩ := mem_onw h
  refine ⟨⟨(n : Int), ((0 + k : Nat) : Int), [], row, rfl, by omega, by omega, by simpa using hr, ?_, (fun f hf => by cases hf), ?_⟩, hs⟩
  · have : k < row.length := (List.getElem?_eq_some_iff.mp hk).1
    omega
  · show slt R _ _ = some q
    unfold slt
    have e1 : ((n : Int)).toNat = n := by omega
    have e2 : (((0 + k : Nat) : Int)).toNat = k := by omega
    rw [e1, e2, hr]
    simp only [Option.bind_some, hk, Option.join_some]
inductive Bfs (F : Fd) (R : Rw) : List (Int × List Int) → Nat → List (Int × List Int) → Prop
  | start : Bfs F R (q0 F 0 R) 0 []
  | old {q k l p w} : Bfs F R q k l → q[k]? = some (p, w) → p ∈ l.map (·.1) → Bfs F R q (k + 1) l
  | new {q k l p w fl} : Bfs F R q k l → q[k]? = some (p, w) → p ∉ l.map (·.1) → fat F p = some fl → Bfs F R (q ++ onw F w 0 fl) (k + 1) (l ++ [(p, w)])
theorem Bfs.good {F : Fd} {R : Rw} {q l : List (Int × List Int)} {k : Nat} (b : Bfs F R q k l) : (∀ x ∈ q, Good F R x.1 x.2) ∧ ∀ x ∈ l, Good F R x.1 x.2 := by
  induction b with
  | start => exact ⟨fun x hx => good_q0 hx, fun x hx => nomatch hx⟩
  | old _ _ _ ih => exact ih
  | new b hq hn hf ih =>
    have g := ih.1 _ (List.mem_of_getElem? hq)
    refine ⟨fun x hx => ?_, fun x hx => ?_⟩
    · rcases List.mem_append.mp hx with z | z
      · exact ih.1 x z
      · exact good_onw g hf z
    · rcases List.mem_append.mp hx with z | z
      · exact ih.2 x z
      · have z' := List.mem_singleton.mp z
        rw [z']; exact g
theorem Good.fol {F : Fd} {R : Rw} {p : Int} {w : List Int} (g : Good F R p w) : fol F R w = some p := by
  obtain ⟨⟨r, s, fs, row, rfl, _, _, _, _, _, h6⟩, hs⟩ := g
  unfold KB.fol
  simp only [h6, Option.bind_some, hs, ↓reduceIte]
def wgt : Option (List (Option Int)) → Nat
  | none => 0
  | some fl => fl.length
def togo (F : Fd) (l : List (Int × List Int)) : Nat := ((F.zipIdx).map fun x => if (x.2 : Int) ∈ l.map (·.1) then 0 else wgt x.1).sum
theorem sum_lt {α : Type} (f g : α → Nat) : ∀ (xs : List α), (∀ x ∈ xs, g x ≤ f x) → (xs.map g).sum ≤ (xs.map f).sum
  | [], _ => Nat.le_refl _
  | x :: xs, h => by
    have h1 := h x (by simp)
    have h2 := sum_lt f g xs fun y hy => h y (by simp [hy])
    simp only [List.map_cons, List.sum_cons]
    omega
theorem sum_drop {α : Type} (f g : α → Nat) (d : Nat) : ∀ (xs : List α) (a : α), a ∈ xs → (∀ x ∈ xs, g x ≤ f x) → g a + d ≤ f a → (xs.map g).sum + d ≤ (xs.map f).sum
  | [], _, h, _, _ => nomatch h
  | x :: xs, a, ha, h, hd => by
    have h1 := h x (by simp)
    have h2 := sum_lt f g xs fun y hy => h y (by simp [hy])
    simp only [List.map_cons, List.sum_cons]
    rcases List.mem_cons.mp ha with z | z
    · subst z; omega
    · have h3 := sum_drop f g d xs a z (fun y hy => h y (by simp [hy])) hd
      omega
theorem onw_len {F : Fd} {w : List Int} {n : Nat} {ps : List (Option Int)} : (onw F w n ps).length ≤ ps.length := by
  unfold onw
  have := List.length_filterMap_le (onw1 F w) (ps.zipIdx n)
  rw [List.length_zipIdx] at this
  exact this
theorem togo_new {F : Fd} {l : List (Int × List Int)} {p : Int} {w : List Int} {fl : List (Option Int)} (hn : p ∉ l.map (·.1)) (hf : fat F p = some fl) : togo F (l ++ [(p, w)]) + fl.length ≤ togo F l := by
  unfold fat at hf
  split at hf
  · rename_i h0
    have hp : F[p.toNat]? = some (some fl) := by
      cases e : F[p.toNat]? with
      | none => rw [e] at hf; cases hf
      | some x => rw [e] at hf; simp only [Option.join_some] at hf; rw [hf]
    unfold togo
    refine sum_drop _ _ fl.length _ (some fl, p.toNat) (List.mem_zipIdx_iff_getElem?.mpr hp) (fun x _ => ?_) ?_
    · simp only [List.map_append, List.map_cons, List.map_nil, List.mem_append]
      by_cases h1 : (x.2 : Int) ∈ l.map (·.1)
      · simp only [h1, true_or, ↓reduceIte, Nat.le_refl]
      · simp only [h1, false_or]
        split
        · exact Nat.zero_le _
        · exact Nat.le_refl _
    · have e : ((p.toNat : Nat) : Int) = p := by omega
      simp only [List.map_append, List.map_cons, List.map_nil, List.mem_append, e]
      rw [if_pos (.inr (by simp)), if_neg hn]
      show 0 + fl.length ≤ wgt (some fl)
      show 0 + fl.length ≤ fl.length
      omega
  · cases hf
def total (F : Fd) (R : Rw) : Nat := (q0 F 0 R).length + togo F []
theorem Bfs.bound {F : Fd} {R : Rw} {q l : List (Int × List Int)} {k : Nat} (b : Bfs F R q k l) : q.length + togo F l ≤ total F R := by
  induction b with
  | start => exact Nat.le_refl _
  | old _ _ _ ih => exact ih
  | new b hq hn hf ih =>
    have h2 := @onw_len F
    rw [List.length_append]
    refine Nat.le_trans ?_ ih
    rename_i w fl
    have h3 := h2 (w := w) (n := 0) (ps := fl)
    have h4 := togo_new (w := w) hn hf
    omega
end KB
def oV : Option Int → V
  | none => .non
  | some i => .int i
def atO (cs : List V) (i : Int) : V := if 0 ≤ i then (cs[i.toNat]?).getD .non else .non
def CO (CC : Addr) (H : Hp) (cs : List V) (i : Nat) : Option (List (Option Int)) → Prop
  | none => cs[i]? = some .non
  | some fl => ∃ p fa b u t l, cs[i]? = some (.ref p) ∧ CellO CC H p fa b u t l (fl.map oV)
structure HV (CC CH : Addr) (H : Hp) (hp : Addr) (F : KB.Fd) : Prop where
  ex : ∃ ca room used born cs, HpO CH H hp ca room used born cs ∧ cs.length = F.length ∧ ∀ (i : Nat) x, F[i]? = some x → CO CC H cs i x
theorem HpO.same {CH : Addr} {H H' : Hp} {hp ca : Addr} {room used born : Int} {cs : List V} (h : HpO CH H hp ca room used born cs) (s : Same H H') : HpO CH H' hp ca room used born cs := by
  obtain ⟨⟨dx, h1⟩, h2⟩ := h
  exact ⟨⟨dx, s _ _ h1⟩, s _ _ h2⟩
theorem CO.same {CC : Addr} {H H' : Hp} {cs : List V} {i : Nat} {x : Option (List (Option Int))} (h : CO CC H cs i x) (s : Same H H') : CO CC H' cs i x := by
  cases x with
  | none => exact h
  | some fl =>
    obtain ⟨p, fa, b, u, t, l, e, c⟩ := h
    exact ⟨p, fa, b, u, t, l, e, c.same s⟩
theorem HV.same {CC CH : Addr} {H H' : Hp} {hp : Addr} {F : KB.Fd} (h : HV CC CH H hp F) (s : Same H H') : HV CC CH H' hp F := by
  obtain ⟨ca, room, used, born, cs, o, l, e⟩ := h
  exact ⟨ca, room, used, born, cs, o.same s, l, fun i x hx => (e i x hx).same s⟩
theorem fat_at {CC : Addr} {H : Hp} {cs : List V} {F : KB.Fd} (hl : cs.length = F.length) (e : ∀ (i : Nat) x, F[i]? = some x → CO CC H cs i x) (i : Int) :
    (KB.fat F i = none ∧ atO cs i = .non) ∨ ∃ fl p fa b u t l, KB.fat F i = some fl ∧ atO cs i = .ref p ∧ cs[i.toNat]? = some (.ref p) ∧ 0 ≤ i ∧ CellO CC H p fa b u t l (fl.map oV) := by
  unfold KB.fat atO
  by_cases h0 : 0 ≤ i
  · simp only [h0, ↓reduceIte]
    cases hf : F[i.toNat]? with
    | none =>
      have : cs[i.toNat]? = none := by rw [List.getElem?_eq_none_iff] at hf ⊢; omega
      exact .inl ⟨rfl, by rw [this]; rfl⟩
    | some x =>
      have c := e _ _ hf
      cases x with
      | none => exact .inl ⟨rfl, by rw [show cs[i.toNat]? = some V.non from c]; rfl⟩
      | some fl =>
        obtain ⟨p, fa, b, u, t, l, e1, c1⟩ := c
        exact .inr ⟨fl, p, fa, b, u, t, l, rfl, by rw [e1]; rfl, e1, trivial, c1⟩
  · simp only [h0, ↓reduceIte]
    exact .inl ⟨trivial, trivial⟩
def QAt (H : Hp) : List Addr → List (Int × List Int) → Prop
  | [], [] => True
  | t :: ts, x :: qs => (∃ a, H t = some (.tup [.int x.1, .ref a]) ∧ H a = some (.tup (x.2.map V.int))) ∧ QAt H ts qs
  | _, _ => False
theorem QAt.same {H H' : Hp} (s : Same H H') : ∀ {ts : List Addr} {qs : List (Int × List Int)}, QAt H ts qs → QAt H' ts qs
  | [], [], _ => trivial
  | [], _ :: _, h => h.elim
  | _ :: _, [], h => h.elim
  | _ :: _, _ :: _, ⟨⟨a, h1, h2⟩, h3⟩ => ⟨⟨a, s _ _ h1, s _ _ h2⟩, QAt.same s h3⟩
theorem QAt.app {H : Hp} : ∀ {ts us : List Addr} {qs rs : List (Int × List Int)}, QAt H ts qs → QAt H us rs → QAt H (ts ++ us) (qs ++ rs)
  | [], _, [], _, _, h => h
  | [], _, _ :: _, _, h, _ => h.elim
  | _ :: _, _, [], _, h, _ => h.elim
  | _ :: _, _, _ :: _, _, ⟨h1, h3⟩, h => ⟨h1, QAt.app h3 h⟩
theorem QAt.len {H : Hp} : ∀ {ts : List Addr} {qs : List (Int × List Int)}, QAt H ts qs → ts.length = qs.length
  | [], [], _ => rfl
  | [], _ :: _, h => h.elim
  | _ :: _, [], h => h.elim
  | _ :: _, _ :: _, ⟨_, h3⟩ => by rw [List.length_cons, List.length_cons, QAt.len h3]
theorem QAt.at {H : Hp} : ∀ {ts : List Addr} {qs : List (Int × List Int)} {i : Nat} {x : Int × List Int}, QAt H ts qs → qs[i]? = some x → ∃ t a, ts[i]? = some t ∧ H t = some (.tup [.int x.1, .ref a]) ∧ H a = some (.tup (x.2.map V.int))
  | [], [], _, _, _, e => by simp at e
  | [], _ :: _, _, _, h, _ => h.elim
  | _ :: _, [], _, _, h, _ => h.elim
  | t :: _, _ :: _, 0, _, ⟨⟨a, h1, h2⟩, _⟩, e => by cases e; exact ⟨t, a, rfl, h1, h2⟩
  | _ :: _, _ :: _, i + 1, _, ⟨_, h3⟩, e => QAt.at (i := i) h3 e
def S_cellv (CC CH : Addr) : Sp := fun vs H Q E => ∃ hp pl F, vs = [.ref hp, oV pl] ∧ HV CC CH H hp F ∧ (pl.bind (KB.fat F) = none → Q .non H) ∧ (∀ fl p fa b u t l, pl.bind (KB.fat F) = some fl → CellO CC H p fa b u t l (fl.map oV) → Q (.ref p) H)
def S_onward (K : PySem.W.Frag) (CC CH : Addr) : Sp := fun vs H Q E => ∃ hp a wt F ps w, vs = [.ref hp, .ref a, .ref wt] ∧ HV CC CH H hp F ∧ SqL K H a (ps.map oV) ∧ SqT K H wt (w.map V.int) ∧ w ≠ [] ∧ w.length ≤ 100000 ∧ ps.length ≤ 1000 ∧
  ∀ l ts H', H l = none → Same H H' → H' l = some (.lst (ts.map V.ref)) → QAt H' ts (KB.onw F w 0 ps) → Q (.ref l) H'
def RwAt (K : PySem.W.Frag) (H : Hp) : List Addr → KB.Rw → Prop
  | [], [] => True
  | a :: as, r :: R => SqL K H a (r.map oV) ∧ RwAt K H as R
  | _, _ => False
theorem RwAt.same {K : PySem.W.Frag} {H H' : Hp} (s : Same H H') : ∀ {as : List Addr} {R : KB.Rw}, RwAt K H as R → RwAt K H' as R
  | [], [], _ => trivial
  | [], _ :: _, h => h.elim
  | _ :: _, [], h => h.elim
  | _ :: _, _ :: _, ⟨h1, h3⟩ => ⟨s.seq h1, RwAt.same s h3⟩
theorem RwAt.len {K : PySem.W.Frag} {H : Hp} : ∀ {as : List Addr} {R : KB.Rw}, RwAt K H as R → as.length = R.length
  | [], [], _ => rfl
  | [], _ :: _, h => h.elim
  | _ :: _, [], h => h.elim
  | _ :: _, _ :: _, ⟨_, h3⟩ => by rw [List.length_cons, List.length_cons, RwAt.len h3]
theorem RwAt.at {K : PySem.W.Frag} {H : Hp} : ∀ {as : List Addr} {R : KB.Rw} {i : Nat} {a : Addr}, RwAt K H as R → as[i]? = some a → ∃ r, R[i]? = some r ∧ SqL K H a (r.map oV)
  | [], [], _, _, _, e => by simp at e
  | [], _ :: _, _, _, h, _ => h.elim
  | _ :: _, [], _, _, h, _ => h.elim
  | _ :: _, r :: _, 0, _, ⟨h1, _⟩, e => by cases e; exact ⟨r, rfl, h1⟩
  | _ :: _, _ :: _, i + 1, _, ⟨_, h3⟩, e => RwAt.at (i := i) h3 e
structure Few (F : KB.Fd) (R : KB.Rw) : Prop where
  f : F.length ≤ 1000
  g : ∀ p fl, KB.fat F p = some fl → fl.length ≤ 1000
  r : R.length ≤ 1000
  s : ∀ x ∈ R, x.length ≤ 1000
  t : KB.total F R ≤ 90000
def S_reached (K : PySem.W.Frag) (CC CH : Addr) : Sp := fun vs H Q E => ∃ hp ra F rs R, vs = [.ref hp, .ref ra] ∧ HV CC CH H hp F ∧ SqL K H ra (rs.map V.ref) ∧ RwAt K H rs R ∧ Few F R ∧
  ∀ l ts q qs H', KB.Bfs F R q q.length qs → H l = none → Same H H' → H' l = some (.lst (ts.map V.ref)) → QAt H' ts qs → Q (.ref l) H'
section
variable {K : PySem.W.Frag} {C_Cell C_Heap C_Full : Addr} {H : Hp} {Q : VK} {E : XK} {n : St → Hp → Prop} {bk ct : St → Hp → Prop}
theorem cell_at_rd0 {hp : Addr} {pl : Option Int} {F : KB.Fd} (T : TxC K C_Cell C_Heap) (v : HV C_Cell C_Heap H hp F) (q1 : pl.bind (KB.fat F) = none → Q .non H)
    (q2 : ∀ fl p fa b u t l, pl.bind (KB.fat F) = some fl → CellO C_Cell H p fa b u t l (fl.map oV) → Q (.ref p) H) : rd_cell_at K ⟨n, Q, bk, ct⟩ [some (.ref hp), some (oV pl)] H := by
  unfold rd_cell_at
  obtain ⟨ca, room, used, born, cs, ⟨⟨dx, h1⟩, h2⟩, hl, he⟩ := v
  cases pl with
  | none =>
    show (_ : TS) _ [some (.ref hp), some V.non] H
    walk_at "ev"
    exact q1 rfl
  | some i =>
    have q : Q (atO cs i) H := by
      rcases fat_at hl he i with ⟨e1, e2⟩ | ⟨fl, p, fa, b, u, t, l, e1, e2, _, _, c⟩
      · rw [e2]; exact q1 e1
      · rw [e2]; exact q2 fl p fa b u t l e1 c
    show (_ : TS) _ [some (.ref hp), some (V.int i)] H
    walk_at "ev"
    refine ifd (fun z => ?_) (fun z => ?_)
    · walk_at "ev"
      rw [show atO cs i = .non from if_neg (by omega)] at q
      exact q
    · rw [show atO cs i = (cs[i.toNat]?).getD .non from if_pos (by omega)] at q
      walk_at "ev"
      refine i_fldK h1 T.cl_Heap T.n_Heap_cells heapF_lk_cells ?_
      walk_at "ev"
      refine i_lenL (SqL.of h2) ?_
      walk_at "ev"
      refine ifd (fun y => ?_) (fun y => ?_)
      · walk_at "ev"
        rw [List.getElem?_eq_none_iff.mpr (by omega)] at q
        exact q
      · walk_at "ev"
        refine i_fldK h1 T.cl_Heap T.n_Heap_cells heapF_lk_cells ?_
        walk_at "ev"
        have hl : i.toNat < cs.length := by omega
        refine i_ixL (SqL.of h2) (atI_int (by omega) (List.getElem?_eq_getElem hl)) ?_
        rw [List.getElem?_eq_getElem hl] at q
        exact q
end
theorem onw_snoc (F : KB.Fd) (w : List Int) (n : Nat) (ps : List (Option Int)) (x : Option Int) : KB.onw F w n (ps ++ [x]) = KB.onw F w n ps ++ (KB.onw1 F w (x, n + ps.length)).toList := by
  unfold KB.onw
  rw [List.zipIdx_append, List.filterMap_append]
  congr 1
theorem take_snoc {α : Type} {xs : List α} {i : Nat} {x : α} (h : xs[i]? = some x) : xs.take (i + 1) = xs.take i ++ [x] := by
  rw [List.take_add_one, h]; rfl
theorem same_upd {H : Hp} {a : Addr} {o : HO} (h : H a = none) : Same H (upd H a o) := fun b u q => by rw [upd_ne (ne_of_none q h)]; exact q
section
variable {K : PySem.W.Frag} {C_Cell C_Heap C_Full : Addr} {H : Hp} {Q : VK} {E : XK} {n : St → Hp → Prop} {bk ct : St → Hp → Prop}
theorem onward_rd0 {hp a wt : Addr} {F : KB.Fd} {ps : List (Option Int)} {w : List Int} (v : HV C_Cell C_Heap H hp F) (ha : SqL K H a (ps.map oV)) (hw : SqT K H wt (w.map V.int)) (hne : w ≠ []) (hwl : w.length ≤ 100000) (hpl : ps.length ≤ 1000)
    (seqT : ∀ {H' : Hp}, Same H H' → SqT K H' wt (w.map V.int))
    (q : ∀ l ts H', H l = none → Same H H' → H' l = some (.lst (ts.map V.ref)) → QAt H' ts (KB.onw F w 0 ps) → Q (.ref l) H') :
    rd_onward K (S_cellv C_Cell C_Heap) ⟨n, Q, bk, ct⟩ [some (.ref hp), some (.ref a), some (.ref wt)] H := by
  unfold rd_onward
  walk_at "ev"
  refine ⟨a, rfl, ⟨_, ha⟩, lc_enum ha (by rw [List.length_map]; omega) (fun i ys H1 => Same H H1 ∧ i ≤ ps.length ∧ ∃ ts, ys = ts.map V.ref ∧ QAt H1 ts (KB.onw F w 0 (ps.take i))) ⟨Same.refl _, Nat.zero_le _, [], rfl, trivial⟩ ?_ ?_ ?_⟩
  · rintro i ys H1 ⟨sm, hi, ts, rfl, qa⟩
    refine ⟨sm, ?_⟩
    rw [List.length_map, qa.len]
    refine Nat.le_trans KB.onw_len ?_
    rw [List.length_take]; omega
  · rintro i x ys H1 t C hC hx ⟨sm, hi, ts, rfl, qa⟩ ht
    walk_at "caps"
    rw [List.getElem?_map] at hx
    obtain ⟨y, hy, rfl⟩ := Option.map_eq_some_iff.mp hx
    have hil : i < ps.length := (List.getElem?_eq_some_iff.mp hy).1
    have hn0 : 0 + (ps.take i).length = i := by rw [List.length_take]; omega
    have s1 : Same H1 (upd H1 t (.tup [.int i, oV y])) := same_upd ht
    have sm1 := sm.trans s1
    walk_at "ev"
    refine ⟨hp, y, F, rfl, v.same sm1, fun e => ?_, fun fl p fa b u t' l e c => ?_⟩
    · refine i_notN ?_
      walk_at "ev"
      refine iteF (hC _ _ ⟨sm1, hil, ts, rfl, ?_⟩)
      rw [take_snoc hy, onw_snoc, hn0]
      have e1 : KB.onw1 F w (y, i) = none := by
        unfold KB.onw1
        cases y with
        | none => rfl
        | some q' => simp only; rw [show KB.fat F q' = none from e]; rfl
      rw [e1]
      simp only [Option.toList_none, List.append_nil]
      exact qa.same s1
    · refine i_notN ?_
      walk_at "ev"
      refine iteT ?_
      obtain ⟨q', rfl⟩ : ∃ q', y = some q' := by
        cases y with
        | none => cases e
        | some q' => exact ⟨q', rfl⟩
      have e' : KB.fat F q' = some fl := e
      walk_at "ev"
      refine ⟨(by show 1 ≤ sizeLine; decide), fun t2 ht2 => ?_⟩
      have s2 := s1.trans (same_upd (o := .tup [.int i]) ht2)
      refine ⟨wt, t2, w.map V.int, [.int i], rfl, rfl, seqT (sm.trans s2), SqT.of upd_same, by simpa using hne, by rw [List.length_map]; exact len_ok (by simp only [List.length_cons, List.length_nil]; omega), (fun z => nomatch z), (fun _ t3 ht3 => ?_)⟩
      have s3 := s2.trans (same_upd (o := .tup (w.map V.int ++ [.int i])) ht3)
      walk_at "ev"
      refine ⟨(by show 2 ≤ sizeLine; decide), fun t4 ht4 => ?_⟩
      have s4 := s3.trans (same_upd (o := .tup [oV (some q'), .ref t3]) ht4)
      have n34 : t3 ≠ t4 := ne_of_none upd_same ht4
      have h3 : upd (upd (upd (upd H1 t (.tup [.int i, oV (some q')])) t2 (.tup [.int i])) t3 (.tup (w.map V.int ++ [.int i]))) t4 (.tup [oV (some q'), .ref t3]) t3 = some (.tup (w.map V.int ++ [.int i])) := by
        rw [upd_ne n34, upd_same]
      walk_at "ev"
      refine hC _ _ ⟨sm.trans s4, hil, ts ++ [t4], by simp, ?_⟩
      rw [take_snoc hy, onw_snoc, hn0]
      have e1 : KB.onw1 F w (some q', i) = some (q', w ++ [(i : Int)]) := by
        unfold KB.onw1
        simp only [e', Option.isSome_some, ↓reduceIte]
      rw [e1]
      refine (qa.same s4).app ⟨⟨t3, upd_same, ?_⟩, trivial⟩
      rw [h3, List.map_append]; rfl
  · rintro ys H1 ⟨sm, _, ts, rfl, qa⟩ l hl
    walk_at "ev"
    rw [List.length_map, List.take_length] at qa
    exact q l ts _ (sm.free hl) (sm.trans (same_upd hl)) upd_same (qa.same (same_upd hl))
end
theorem seqT {K : PySem.W.Frag} {H H' : Hp} {a : Addr} {xs : List V} (e : Same H H') (h : SqT K H a xs) : SqT K H' a xs := by
  rcases h with (h | ⟨o, h⟩) | h
  · exact .inl (.inl (e _ _ h))
  · exact .inl (.inr ⟨o, e _ _ h⟩)
  · exact .inr h
def TK (H H' : Hp) : Prop := ∀ b xs, H b = some (.tup xs) → H' b = some (.tup xs)
theorem TK.same {H H' : Hp} (s : Same H H') : TK H H' := fun b _ h => s b _ h
theorem TK.upd {H : Hp} {a : Addr} {o : HO} (h : ∀ xs, H a ≠ some (.tup xs)) : TK H (L2.upd H a o) := fun b xs q => by
  have n : b ≠ a := fun z => h xs (by rw [← z]; exact q)
  rw [upd_ne n]; exact q
theorem TK.trans {H H1 H2 : Hp} (a : TK H H1) (b : TK H1 H2) : TK H H2 := fun c xs h => b c xs (a c xs h)
theorem QAt.tk {H H' : Hp} (s : TK H H') : ∀ {ts : List Addr} {qs : List (Int × List Int)}, QAt H ts qs → QAt H' ts qs
  | [], [], _ => trivial
  | [], _ :: _, h => h.elim
  | _ :: _, [], h => h.elim
  | _ :: _, _ :: _, ⟨⟨a, h1, h2⟩, h3⟩ => ⟨⟨a, s _ _ h1, s _ _ h2⟩, QAt.tk s h3⟩
def LAt (H : Hp) : List (Key × V) → List (Int × List Int) → Prop
  | [], [] => True
  | kv :: kvs, x :: qs => (kv.1 = Sum.inl x.1 ∧ ∃ a, kv.2 = .ref a ∧ H a = some (.tup (x.2.map V.int))) ∧ LAt H kvs qs
  | _, _ => False
theorem LAt.tk {H H' : Hp} (s : TK H H') : ∀ {kvs : List (Key × V)} {qs : List (Int × List Int)}, LAt H kvs qs → LAt H' kvs qs
  | [], [], _ => trivial
  | [], _ :: _, h => h.elim
  | _ :: _, [], h => h.elim
  | _ :: _, _ :: _, ⟨⟨h0, a, h1, h2⟩, h3⟩ => ⟨⟨h0, a, h1, s _ _ h2⟩, LAt.tk s h3⟩
theorem LAt.app {H : Hp} : ∀ {ks ls : List (Key × V)} {qs rs : List (Int × List Int)}, LAt H ks qs → LAt H ls rs → LAt H (ks ++ ls) (qs ++ rs)
  | [], _, [], _, _, h => h
  | [], _, _ :: _, _, h, _ => h.elim
  | _ :: _, _, [], _, h, _ => h.elim
  | _ :: _, _, _ :: _, _, ⟨h1, h3⟩, h => ⟨h1, LAt.app h3 h⟩
theorem LAt.len {H : Hp} : ∀ {ts : List (Key × V)} {qs : List (Int × List Int)}, LAt H ts qs → ts.length = qs.length
  | [], [], _ => rfl
  | [], _ :: _, h => h.elim
  | _ :: _, [], h => h.elim
  | _ :: _, _ :: _, ⟨_, h3⟩ => by rw [List.length_cons, List.length_cons, LAt.len h3]
theorem LAt.val {H : Hp} (p : Int) : ∀ {kvs : List (Key × V)} {qs : List (Int × List Int)}, LAt H kvs qs → (valV kvs (Sum.inl p)).isSome = decide (p ∈ qs.map (·.1))
  | [], [], _ => by simp [valV]
  | [], _ :: _, h => h.elim
  | _ :: _, [], h => h.elim
  | kv :: kvs, x :: qs, ⟨⟨h0, _⟩, h3⟩ => by
    by_cases e : x.1 = p
    · rw [valV_pos (by rw [h0, e])]
      simp [e]
    · rw [valV_neg (by rw [h0]; exact fun z => e (Sum.inl.inj z)), LAt.val p h3]
      simp only [List.map_cons, List.mem_cons]
      have e' : ¬ p = x.1 := fun z => e z.symm
      simp only [e', false_or]
theorem LAt.prs {H : Hp} : ∀ {ts : List Addr} {kvs : List (Key × V)} {qs : List (Int × List Int)}, LAt H kvs qs → PrsAt H ts kvs → QAt H ts qs
  | [], [], [], _, _ => trivial
  | _, [], _ :: _, h, _ => h.elim
  | _, _ :: _, [], h, _ => h.elim
  | [], _ :: _, _ :: _, _, h => h.elim
  | _ :: _, [], [], _, h => h.elim
  | t :: ts, kv :: kvs, x :: qs, ⟨⟨h0, a, h1, h2⟩, h3⟩, ⟨p1, p2⟩ => ⟨⟨a, by rw [p1, h0, h1]; rfl, h2⟩, LAt.prs h3 p2⟩
theorem q0_snoc (F : KB.Fd) (R : KB.Rw) (i : Nat) (r : List (Option Int)) (h : R[i]? = some r) : KB.q0 F 0 (R.take (i + 1)) = KB.q0 F 0 (R.take i) ++ KB.onw F [(i : Int)] 0 r := by
  unfold KB.q0
  rw [take_snoc h, List.zipIdx_append, List.flatMap_append]
  have hl : (R.take i).length = i := by
    have := (List.getElem?_eq_some_iff.mp h).1
    rw [List.length_take]; omega
  rw [hl]
  simp only [List.zipIdx_cons, List.zipIdx_nil, List.flatMap_cons, List.flatMap_nil, List.append_nil, Nat.zero_add]
section
variable {K : PySem.W.Frag} {C_Cell C_Heap C_Full : Addr} {H : Hp} {Q : VK} {E : XK} {n : St → Hp → Prop} {bk ct : St → Hp → Prop}
end
structure RS (K : PySem.W.Frag) (CC CH : Addr) (H0 H : Hp) (ql d : Addr) (F : KB.Fd) (R : KB.Rw) (q qs : List (Int × List Int)) (k : Nat) : Prop where
  sm : Same H0 H
  nq : H0 ql = none
  b : KB.Bfs F R q k qs
  hk : k ≤ q.length
  oq : ∃ ts, H ql = some (.lst (ts.map V.ref)) ∧ QAt H ts q
  od : ∃ kvs, H d = some (.dK kvs) ∧ LAt H kvs qs
  nd : H0 d = none
theorem lst_tk {H : Hp} {a : Addr} {xs : List V} {o : HO} (h : H a = some (.lst xs)) : TK H (upd H a o) := TK.upd fun ys z => by rw [h] at z; cases z
theorem dk_tk {H : Hp} {a : Addr} {xs : List (Key × V)} {o : HO} (h : H a = some (.dK xs)) : TK H (upd H a o) := TK.upd fun ys z => by rw [h] at z; cases z
theorem same_own {H0 H : Hp} {a : Addr} {o : HO} (s : Same H0 H) (h : H0 a = none) : Same H0 (upd H a o) := fun b u q => by rw [upd_ne (ne_of_none q h)]; exact s b u q
theorem Bfs_few {F : KB.Fd} {R : KB.Rw} {q l : List (Int × List Int)} {k : Nat} (b : KB.Bfs F R q k l) : l.length ≤ k := by
  induction b with
  | start => exact Nat.le_refl _
  | old _ _ _ ih => omega
  | new _ _ _ _ ih => rw [List.length_append]; simp only [List.length_cons, List.length_nil]; omega
theorem Bfs_ways {F : KB.Fd} {R : KB.Rw} {q l : List (Int × List Int)} {k : Nat} (b : KB.Bfs F R q k l) : ∀ x ∈ q, x.2.length ≤ k + 2 := by
  induction b with
  | start =>
    intro x hx
    obtain ⟨⟨row, n⟩, hm, h⟩ := List.mem_flatMap.mp hx
    obtain ⟨j, _, e, _⟩ := KB.mem_onw (q := x.1) (v := x.2) h
    rw [e]; simp
  | old _ _ _ ih => intro x hx; have := ih x hx; omega
  | new b hq _ _ ih =>
    intro x hx
    rcases List.mem_append.mp hx with z | z
    · have := ih x z; omega
    · obtain ⟨j, _, e, _⟩ := KB.mem_onw (q := x.1) (v := x.2) z
      have := ih _ (List.mem_of_getElem? hq)
      rw [e, List.length_append]
      simp only [List.length_cons, List.length_nil]
      simp only at this
      omega
theorem q0_app (F : KB.Fd) : ∀ (R S : KB.Rw) (n : Nat), (KB.q0 F n R).length ≤ (KB.q0 F n (R ++ S)).length := fun R S n => by
  unfold KB.q0
  rw [List.zipIdx_append, List.flatMap_append, List.length_append]
  omega
theorem q0_take (F : KB.Fd) (R : KB.Rw) (i : Nat) : (KB.q0 F 0 (R.take i)).length ≤ KB.total F R := by
  have := q0_app F (R.take i) (R.drop i) 0
  rw [List.take_append_drop] at this
  unfold KB.total
  omega
section
variable {K : PySem.W.Frag} {C_Cell C_Heap C_Full : Addr} {H : Hp} {Q : VK} {E : XK} {n : St → Hp → Prop} {bk ct : St → Hp → Prop}
theorem reached_rd0 {hp ra : Addr} {F : KB.Fd} {rs : List Addr} {R : KB.Rw} {v2 v3 v4 v5 v6 v7 v8 : Option V} (T : TxC K C_Cell C_Heap) (v : HV C_Cell C_Heap H hp F) (hr : SqL K H ra (rs.map V.ref)) (rw' : RwAt K H rs R) (fw : Few F R)
    (q : ∀ l ts q qs H', KB.Bfs F R q q.length qs → H l = none → Same H H' → H' l = some (.lst (ts.map V.ref)) → QAt H' ts qs → Q (.ref l) H') :
    rd_reached K (S_onward K C_Cell C_Heap) ⟨n, Q, bk, ct⟩ [some (.ref hp), some (.ref ra), v2, v3, v4, v5, v6, v7, v8] H := by
  have hrl := rw'.len
  have f1 := fw.r
  unfold rd_reached
  walk_at "ev"
  refine ⟨(by show 0 ≤ sizeLine; decide), fun ql hql => ?_⟩
  walk_at "ev"
  refine ⟨ra, rfl, ⟨_, (same_upd hql).seq hr⟩, forE (rs.map V.ref) (fun i σ Hx => i ≤ rs.length ∧ Same H Hx ∧ (∃ ts, Hx ql = some (.lst (ts.map V.ref)) ∧ QAt Hx ts (KB.q0 F 0 (R.take i))) ∧ ∃ x y, σ = [some (.ref hp), some (.ref ra), some (.ref ql), x, y, v5, v6, v7, v8])
    ⟨Nat.zero_le _, same_upd hql, ⟨[], upd_same, trivial⟩, _, _, rfl⟩ (fun i σ Hx _ ⟨_, sm, _⟩ => sm.seq hr) ?_ ?_⟩
  · rintro i x t σ Hx hx ⟨hi, sm, ⟨ts, hts, qa⟩, y, z, rfl⟩ ht
    rw [List.getElem?_map] at hx
    obtain ⟨r, er, rfl⟩ := Option.map_eq_some_iff.mp hx
    obtain ⟨row, eR, hrow⟩ := rw'.at er
    have hil : i < rs.length := (List.getElem?_eq_some_iff.mp er).1
    have s1 := same_upd (o := .tup [.int i, .ref r]) ht
    refine ⟨t, _, rfl, SqT.of upd_same, rfl, .int i, _, rfl, ?_⟩
    walk_at "ev"
    refine ⟨.ref r, _, rfl, ?_⟩
    walk_at "ev"
    refine ⟨rfl, ?_⟩
    walk_at "ev"
    refine ⟨.inl ⟨rfl, _, SqL.of (s1 _ _ hts)⟩, ?_⟩
    walk_at "ev"
    refine ⟨(by show 1 ≤ sizeLine; decide), fun t2 ht2 => ?_⟩
    have s2 := s1.trans (same_upd (o := .tup [.int i]) ht2)
    walk_at "ev"
    refine ⟨hp, r, t2, F, row, [(i : Int)], rfl, v.same (sm.trans s2), (sm.trans s2).seq hrow, SqT.of upd_same, (fun z => nomatch z), (by show 1 ≤ 100000; decide), fw.s _ (List.mem_of_getElem? eR), fun l us H' hl s3 hl' qa' => ?_⟩
    have s4 := s2.trans s3
    have hq' : H' ql = some (.lst (ts.map V.ref)) := s4 _ _ hts
    walk_at "ev"
    have hlen : ts.length ≤ 100000 := by
      rw [qa.len]
      exact Nat.le_trans (Nat.le_trans (q0_take F R i) fw.t) (by decide)
    have hlen2 : us.length ≤ 1000 := by
      rw [qa'.len]
      exact Nat.le_trans KB.onw_len (fw.s _ (List.mem_of_getElem? eR))
    refine ⟨ql, l, _, _, rfl, rfl, hq', hl', by rw [List.length_map, List.length_map]; exact len_ok (by omega), ?_⟩
    walk_at "ev"
    refine ⟨hil, same_own (sm.trans s4) hql, ⟨ts ++ us, by rw [upd_same, List.map_append], ?_⟩, _, _, rfl⟩
    rw [q0_snoc F R i row eR]
    exact ((qa.same s4).app qa').tk (lst_tk hq')
  · rintro σ Hx ⟨hi, sm, ⟨ts, hts, qa⟩, y, z, rfl⟩
    rw [List.length_map, hrl, List.take_length] at qa
    walk_at "ev"
    intro d hd
    walk_at "ev"
    have ndq : d ≠ ql := fun e => by rw [e, hts] at hd; cases hd
    refine ⟨fun m σ Hx => ∃ q qs k x y v7 v8, m = KB.total F R - k ∧ σ = [some (.ref hp), some (.ref ra), some (.ref ql), x, y, some (.ref d), some (.int (k : Nat)), v7, v8] ∧ RS K C_Cell C_Heap H Hx ql d F R q qs k, ⟨_, KB.q0 F 0 R, [], 0, _, _, _, _, rfl, rfl, ?_⟩, ?_⟩
    · exact ⟨sm.trans (same_upd hd), hql, .start, Nat.zero_le _, ⟨ts, by rw [upd_ne ndq.symm]; exact hts, qa.same (same_upd hd)⟩, ⟨[], upd_same, trivial⟩, sm.free hd⟩
    · rintro m σ Hy ⟨q', qs, k, x, y, v7, v8, rfl, rfl, rs'⟩
      obtain ⟨sm', nq, b, hk, ⟨ts, hts, qa⟩, ⟨kvs, hkv, la⟩, nd⟩ := rs'
      have hlq := qa.len
      walk_at "ev"
      refine i_lenL (SqL.of hts) ?_
      walk_at "ev"
      have hb := b.bound
      refine ifd (fun z => ?_) (fun z => ?_)
      · rw [List.length_map] at z
        have hkq : k < q'.length := by omega
        have hq : q'[k]? = some q'[k] := List.getElem?_eq_getElem hkq
        obtain ⟨t, a, et, ht, hat⟩ := qa.at hq
        generalize hx : q'[k] = pw at hq ht hat
        obtain ⟨p, w⟩ := pw
        refine ⟨fun σ' H' => ∃ q2 qs2 x y v7 v8, σ' = [some (.ref hp), some (.ref ra), some (.ref ql), x, y, some (.ref d), some (.int ((k : Int) + 1)), v7, v8] ∧ RS K C_Cell C_Heap H H' ql d F R q2 qs2 (k + 1), ?_, ?_⟩
        · rintro σ' H' ⟨q2, qs2, x, y, v7, v8, rfl, r2⟩
          exact ⟨KB.total F R - (k + 1), by omega, q2, qs2, k + 1, x, y, v7, v8, rfl, by rw [show ((k + 1 : Nat) : Int) = (k : Int) + 1 from by omega], r2⟩
        have hix : atI (ts.map V.ref) ((k : Nat) : Int) = some (.ref t) := atI_nat (by rw [List.getElem?_map, et]; rfl)
        walk_at "ev"
        refine i_ixL (SqL.of hts) hix ?_
        walk_at "ev"
        refine ⟨t, _, 0, .int p, rfl, rfl, SqT.of ht, atI_int (by decide) rfl, ?_⟩
        walk_at "ev"
        refine i_ixL (SqL.of hts) hix ?_
        walk_at "ev"
        refine ⟨t, _, 1, .ref a, rfl, rfl, SqT.of ht, atI_int (by decide) rfl, ?_⟩
        walk_at "ev"
        refine ⟨d, kvs, _, rfl, .inl hkv, rfl, ?_⟩
        walk_at "ev"
        have gd := b.good.1 _ (List.mem_of_getElem? hq)
        refine ite2 (fun y => ?_) (fun y => ?_)
        · have hno : valV kvs (Sum.inl p) = none := by
            cases e : valV kvs (Sum.inl p) with
            | none => rfl
            | some _ => rw [e] at y; simp at y
          have hnp : p ∉ qs.map (·.1) := by
            have := la.val p
            rw [hno] at this
            simpa using this
          obtain ⟨fl, hfl⟩ : ∃ fl, KB.fat F p = some fl := Option.isSome_iff_exists.mp gd.there
          walk_at "ev"
          refine ⟨d, _, rfl, DPut.k (k := Sum.inl p) hkv ?_, ?_⟩
          · have h2 := la.len
            have h3 := Bfs_few b
            have h4 := fw.t
            exact Nat.lt_of_le_of_lt (show kvs.length ≤ 1000000 by omega) (show 1000000 < sizeLine by decide)
          rw [putK_new _ hno]
          have nd' : ql ≠ d := ne_of hts hkv (fun z => by cases z)
          have s1 : Same H (upd Hy d (.dK (kvs ++ [(Sum.inl p, .ref a)]))) := same_own sm' nd
          have k1 : TK Hy (upd Hy d (.dK (kvs ++ [(Sum.inl p, .ref a)]))) := dk_tk hkv
          have q1 : upd Hy d (.dK (kvs ++ [(Sum.inl p, .ref a)])) ql = some (.lst (ts.map V.ref)) := (upd_ne nd').trans hts
          walk_at "ev"
          refine ⟨.inl ⟨rfl, _, SqL.of q1⟩, ?_⟩
          walk_at "ev"
          obtain ⟨ca, room, used, born, cs, ho, hl, he⟩ := (v.same s1).ex
          have ho' := ho
          obtain ⟨⟨dx, o1⟩, o2⟩ := ho'
          refine i_fldK o1 T.cl_Heap T.n_Heap_cells heapF_lk_cells ?_
          walk_at "ev"
          rcases fat_at hl he p with ⟨e1, _⟩ | ⟨fl', p', fa, b', u, t', l, e1, _, e3, e4, c⟩
          · rw [hfl] at e1; cases e1
          rw [hfl] at e1
          cases e1
          refine i_ixL (SqL.of o2) (atI_int e4 e3) ?_
          obtain ⟨⟨dc, c1⟩, c2⟩ := c
          refine i_fldK c1 T.cl_Cell T.n_Cell_fields cellF_lk_fields ?_
          walk_at "ev"
          have hw := Bfs_ways b _ (List.mem_of_getElem? hq)
          have hgt := fw.t
          refine ⟨hp, fa, a, F, fl, w, rfl, v.same s1, SqL.of c2, SqT.of (k1 _ _ hat), ?_, ?_, fw.g p fl hfl, fun l2 us H2 hl2 s2 hl2' qa2 => ?_⟩
          · obtain ⟨r0, s0, fs0, _, e0, _⟩ := gd.ex
            intro z
            rw [show w = (p, w).2 from rfl, e0] at z; cases z
          · simp only at hw; omega
          have hq2 : H2 ql = some (.lst (ts.map V.ref)) := s2 _ _ q1
          have hd2 : H2 d = some (.dK (kvs ++ [(Sum.inl p, .ref a)])) := s2 _ _ upd_same
          have k2 := k1.trans (TK.same s2)
          have k3 : TK H2 (upd H2 ql (.lst (ts.map V.ref ++ us.map V.ref))) := lst_tk hq2
          have b2 := KB.Bfs.new b hq hnp hfl
          have hb2 := b2.bound
          rw [List.length_append, ← qa2.len, ← hlq] at hb2
          walk_at "ev"
          refine ⟨ql, l2, _, _, rfl, rfl, hq2, hl2', by rw [List.length_map, List.length_map]; exact len_ok (by omega), ?_⟩
          walk_at "ev"
          refine ⟨_, _, _, _, _, _, rfl, ⟨same_own (s1.trans s2) nq, nq, b2, by rw [List.length_append]; omega, ⟨ts ++ us, by rw [upd_same, List.map_append], (((qa.tk k2).app qa2).tk k3)⟩, ⟨_, by rw [upd_ne nd'.symm]; exact hd2, ((la.tk k2).app ?_).tk k3⟩, nd⟩⟩
          exact ⟨⟨rfl, a, rfl, k2 _ _ hat⟩, trivial⟩
        · have hin : p ∈ qs.map (·.1) := by
            have := la.val p
            cases e : valV kvs (Sum.inl p) with
            | none => rw [e] at y; simp at y
            | some _ => rw [e] at this; simpa using this.symm
          walk_at "ev"
          exact ⟨_, _, _, _, _, _, rfl, ⟨sm', nq, .old b hq hin, by omega, ⟨ts, hts, qa⟩, ⟨kvs, hkv, la⟩, nd⟩⟩
      · rw [List.length_map] at z
        have hkq : k = q'.length := by omega
        subst hkq
        walk_at "ev"
        refine ⟨d, kvs, rfl, .inl hkv, fun vw hvw => ?_⟩
        walk_at "ev"
        have s1 := same_upd (o := itemsO vw d) hvw
        refine i_listI upd_same (.inl (s1 _ _ hkv)) fun l us H2 hl s2 hl2 pa => ?_
        walk_at "ev"
        exact q l us q' qs H2 b ((sm'.trans s1).free hl) ((sm'.trans s1).trans s2) hl2 ((la.tk (TK.same (s1.trans s2))).prs pa)
end
def mixF (c a b : Int) : Int := ((c % 1000003 + 31 * a * a + a + 17 * b * b + b) * 48271 % 2147483647) * ((c % 1000003 + 31 * a * a + a + 17 * b * b + b) * 48271 % 2147483647) % 998244353
def leftF (c : Int) : Bool := !decide (mixF c 50 0 / 3 % 6 = 1)
def manyF (c : Int) : Int := if c / 4 % 8 = 7 then 8 else c % 4
theorem manyF_bd (c : Int) : 0 ≤ manyF c ∧ manyF c ≤ 8 := by unfold manyF; split <;> omega
theorem mixF_bd (c a b : Int) : 0 ≤ mixF c a b ∧ mixF c a b < 998244353 := by unfold mixF; omega
def S_at (K : PySem.W.Frag) : Sp := fun vs H Q E => ∃ a k, vs = [.ref a, .int k] ∧ ∃ ns : List Int, SqL K H a (ns.map V.int) ∧ 0 ≤ k ∧ ∀ z : Int, Q (.int z) H
def S_whole : Sp := fun vs H Q E => ∃ i, vs = [.int i] ∧ Q (.bl true) H
def S_mix : Sp := fun vs H Q E => ∃ c a b, vs = [.int c, .int a, .int b] ∧ 0 ≤ a ∧ a ≤ 1000 ∧ 0 ≤ b ∧ b ≤ 1000 ∧ Q (.int (mixF c a b)) H
def S_many : Sp := fun vs H Q E => ∃ c, vs = [.int c] ∧ Q (.int (manyF c)) H
def S_left : Sp := fun vs H Q E => ∃ c, vs = [.int c] ∧ Q (.bl (leftF c)) H
def S_link (K : PySem.W.Frag) : Sp := fun vs H Q E => ∃ d rank spot ta total, vs = [.int d, .int rank, .int spot, .ref ta, .int total] ∧ ∃ ns : List Int, SqL K H ta (ns.map V.int) ∧ 0 ≤ rank ∧ rank < ns.length ∧ 0 < total ∧ 0 ≤ d ∧ ∀ x : Option Int, Q (oV x) H
def S_slot : Sp := fun vs H Q E => ∃ d total, vs = [.int d, .int total] ∧ 0 ≤ total ∧ ∀ x : Option Int, Q (oV x) H
def RD (H : Hp) : List Addr → KB.Rw → Prop
  | [], [] => True
  | a :: as, r :: R => H a = some (.lst (r.map oV)) ∧ RD H as R
  | _, _ => False
theorem RD.keep {H H' : Hp} : ∀ {as : List Addr} {R : KB.Rw}, RD H as R → (∀ a ∈ as, ∀ o, H a = some o → H' a = some o) → RD H' as R
  | [], [], _, _ => trivial
  | [], _ :: _, h, _ => h.elim
  | _ :: _, [], h, _ => h.elim
  | a :: _, _ :: _, ⟨h1, h3⟩, k => ⟨k a (by simp) _ h1, RD.keep h3 fun b hb => k b (by simp [hb])⟩
theorem RD.rw {K : PySem.W.Frag} {H : Hp} : ∀ {as : List Addr} {R : KB.Rw}, RD H as R → RwAt K H as R
  | [], [], _ => trivial
  | [], _ :: _, h => h.elim
  | _ :: _, [], h => h.elim
  | _ :: _, _ :: _, ⟨h1, h3⟩ => ⟨SqL.of h1, RD.rw h3⟩
theorem RD.app {H : Hp} : ∀ {as bs : List Addr} {R S : KB.Rw}, RD H as R → RD H bs S → RD H (as ++ bs) (R ++ S)
  | [], _, [], _, _, h => h
  | [], _, _ :: _, _, h, _ => h.elim
  | _ :: _, _, [], _, h, _ => h.elim
  | _ :: _, _, _ :: _, _, ⟨h1, h3⟩, h => ⟨h1, RD.app h3 h⟩
theorem RD.len {H : Hp} : ∀ {as : List Addr} {R : KB.Rw}, RD H as R → as.length = R.length
  | [], [], _ => rfl
  | [], _ :: _, h => h.elim
  | _ :: _, [], h => h.elim
  | _ :: _, _ :: _, ⟨_, h3⟩ => by rw [List.length_cons, List.length_cons, RD.len h3]
theorem RD.mem {H : Hp} : ∀ {as : List Addr} {R : KB.Rw} {a : Addr}, RD H as R → a ∈ as → ∃ xs, H a = some (.lst xs)
  | [], _, _, _, h => nomatch h
  | _ :: _, [], _, h, _ => h.elim
  | b :: _, _ :: _, a, ⟨h1, h3⟩, h => by
    rcases List.mem_cons.mp h with e | e
    · rw [e]; exact ⟨_, h1⟩
    · exact RD.mem h3 e
def S_rows : Sp := fun vs H Q E => ∃ f s total, vs = [.int f, .int s, .int total] ∧ 0 ≤ total ∧
  ∀ ra rs R H', H ra = none → Same H H' → H' ra = some (.lst (rs.map V.ref)) → RD H' rs R → 1 ≤ R.length → R.length ≤ 6 → (∀ x ∈ R, x.length ≤ 9) → Q (.ref ra) H'
section
variable {K : PySem.W.Frag} {C_Cell C_Heap C_Full : Addr} {H : Hp} {Q : VK} {E : XK} {n : St → Hp → Prop} {bk ct : St → Hp → Prop}
theorem _law_cell_at_rd {a : Addr} {k : Int} (q : ∃ ns : List Int, SqL K H a (ns.map V.int) ∧ 0 ≤ k ∧ ∀ z : Int, Q (.int z) H) : rd__law_cell_at K ⟨n, Q, bk, ct⟩ [some (.ref a), some (.int k)] H := by
  obtain ⟨ns, h1, h0, h⟩ := q
  unfold rd__law_cell_at
  walk_at "ev"
  refine i_lenL h1 ?_
  walk_at "ev"
  rw [List.length_map]
  refine ifd (fun z => ?_) (fun z => ?_)
  · walk_at "ev"
    have hl : k.toNat < ns.length := by omega
    refine i_ixL h1 (atI_int (v := .int ns[k.toNat]) h0 (by rw [List.getElem?_map, List.getElem?_eq_getElem hl]; rfl)) ?_
    walk_at "ev"
    exact h _
  · walk_at "ev"
    exact h _
theorem _law_whole_rd {i : Int} (q : Q (.bl true) H) : rd__law_whole ⟨n, Q, bk, ct⟩ [some (.int i)] H := by
  unfold rd__law_whole
  walk_at "ev"
  exact q
theorem _law_mixed_rd0 {c a b : Int} {x : Option V} (h0 : 0 ≤ a) (h1 : a ≤ 1000) (h2 : 0 ≤ b) (h3 : b ≤ 1000) (q : Q (.int (mixF c a b)) H) : rd__law_mixed ⟨n, Q, bk, ct⟩ [some (.int c), some (.int a), some (.int b), x] H := by
  unfold rd__law_mixed
  walk_at "ev"
  have a1 := Int.emod_nonneg ((c % 1000003 + 31 * a * a + a + 17 * b * b + b) * 48271) (show (2147483647 : Int) ≠ 0 by decide)
  have a2 := Int.emod_lt_of_pos ((c % 1000003 + 31 * a * a + a + 17 * b * b + b) * 48271) (show (0 : Int) < 2147483647 by decide)
  exact q
theorem _law_many_rd {c : Int} (q : Q (.int (manyF c)) H) : rd__law_many ⟨n, Q, bk, ct⟩ [some (.int c)] H := by
  unfold rd__law_many
  unfold manyF at q
  walk_at "ev"
  refine ifd (fun z => ?_) (fun z => ?_)
  · rw [if_pos z] at q
    walk_at "ev"
    exact q
  · rw [if_neg z] at q
    walk_at "ev"
    exact q
theorem _law_left_rd {c : Int} (q : Q (.bl (leftF c)) H) : rd__law_left S_mix ⟨n, Q, bk, ct⟩ [some (.int c)] H := by
  unfold rd__law_left
  walk_at "ev"
  refine ⟨c, 50, 0, rfl, by decide, by decide, by decide, by decide, ?_⟩
  walk_at "ev"
  exact q
theorem _law_slot_rd0 {d total : Int} (h0 : 0 ≤ total) (q : ∀ x : Option Int, Q (oV x) H) : rd__law_slot ⟨n, Q, bk, ct⟩ [some (.int d), some (.int total)] H := by
  unfold rd__law_slot
  walk_at "ev"
  refine ifd (fun z => ?_) (fun z => ?_)
  · walk_at "ev"
    exact q none
  · walk_at "ev"
    refine ifd (fun y => ?_) (fun y => ?_)
    · walk_at "ev"
      exact q none
    · walk_at "ev"
      exact q (some _)
theorem ix_any {a : Addr} {ns : List Int} {i : Int} (h : SqL K H a (ns.map V.int)) (h0 : 0 ≤ i) (h1 : i < ns.length) (q : ∀ x : Int, Q (.int x) H) : rIxL K (.ref a) (.int i) H Q := by
  have hl : i.toNat < ns.length := by omega
  exact i_ixL h (atI_int (v := .int ns[i.toNat]) h0 (by rw [List.getElem?_map, List.getElem?_eq_getElem hl]; rfl)) (q _)
theorem _law_link_rd {d rank spot total : Int} {ta : Addr} {x : Option V} (q : ∃ ns : List Int, SqL K H ta (ns.map V.int) ∧ 0 ≤ rank ∧ rank < ns.length ∧ 0 < total ∧ 0 ≤ d ∧ ∀ x : Option Int, Q (oV x) H) :
    rd__law_link K ⟨n, Q, bk, ct⟩ [some (.int d), some (.int rank), some (.int spot), some (.ref ta), some (.int total), x] H := by
  obtain ⟨ns, h1, h2, h3, h4, h5, h⟩ := q
  unfold rd__law_link
  have one : ∀ i : Int, Q (.int i) H := fun i => h (some i)
  have last : ∀ r : Int, 0 ≤ r % (ns.length : Int) ∧ r % (ns.length : Int) < ns.length := fun r => ⟨Int.emod_nonneg _ (by omega), Int.emod_lt_of_pos _ (by omega)⟩
  walk_at "ev"
  refine ifd (fun z => ?_) (fun z => ?_)
  · walk_at "ev"
    exact h none
  walk_at "ev"
  refine ifd (fun z1 => ?_) (fun z1 => ?_)
  · walk_at "ev"
    exact one _
  walk_at "ev"
  have third : ∀ Q' : VK, (∀ i : Int, Q' (.int i) H) → rIxL K (.ref ta) (.int ((rank + 1) % (ns.length : Int))) H Q' := fun Q' hq => ix_any h1 (last _).1 (last _).2 hq
  refine ifd (fun z2 => ?_) (fun z2 => ?_)
  · walk_at "ev"
    refine i_lenL h1 ?_
    rw [List.length_map]
    walk_at "ev"
    exact third _ one
  walk_at "ev"
  refine ifd (fun z3 => ?_) (fun z3 => ?_)
  · walk_at "ev"
    refine ifd (fun z4 => ?_) (fun z4 => ?_)
    · walk_at "ev"
      refine i_lenL h1 ?_
      rw [List.length_map]
      walk_at "ev"
      exact third _ one
    · walk_at "ev"
      refine ifd (fun z5 => absurd z5 z4) (fun z5 => ?_)
      walk_at "ev"
      refine i_lenL h1 ?_
      rw [List.length_map]
      walk_at "ev"
      exact ix_any h1 (last _).1 (last _).2 one
  · refine iteF ?_
    walk_at "ev"
    refine ifd (fun z5 => ?_) (fun z5 => ?_)
    · walk_at "ev"
      have hd := h5
      refine ix_any h1 ?_ ?_ one
      · split <;> omega
      · split <;> omega
    · walk_at "ev"
      refine i_lenL h1 ?_
      rw [List.length_map]
      walk_at "ev"
      exact ix_any h1 (last _).1 (last _).2 one
theorem _law_rows_rd0 {f s total : Int} {x3 x4 x5 x6 : Option V} (h0 : 0 ≤ total) (q : ∀ ra rs R H', H ra = none → Same H H' → H' ra = some (.lst (rs.map V.ref)) → RD H' rs R → 1 ≤ R.length → R.length ≤ 6 → (∀ x ∈ R, x.length ≤ 9) → Q (.ref ra) H') :
    rd__law_rows K S_mix S_slot ⟨n, Q, bk, ct⟩ [some (.int f), some (.int s), some (.int total), x3, x4, x5, x6] H := by
  unfold rd__law_rows
  walk_at "ev"
  refine ⟨(by show 0 ≤ sizeLine; decide), fun ra hra => ?_⟩
  walk_at "ev"
  refine ⟨_, rfl, by omega, by omega, forR (fun i σ Hx => ∃ rs R x4 x5 x6, σ = [some (.int f), some (.int s), some (.int total), some (.ref ra), x4, x5, x6] ∧ Same H Hx ∧ Hx ra = some (.lst (rs.map V.ref)) ∧ RD Hx rs R ∧ R.length = i ∧ (∀ a ∈ rs, a ≠ ra) ∧ ∀ x ∈ R, x.length ≤ 9)
    ⟨[], [], _, _, _, rfl, same_upd hra, upd_same, trivial, rfl, (fun a h => nomatch h), fun x h => nomatch h⟩ ?_ ?_⟩
  · rintro i σ Hx hi ⟨rs, R, y4, y5, y6, rfl, sm, hr, rd, hl, hne, h9⟩
    have hrl := rd.len
    walk_at "ev"
    refine ⟨(by show 0 ≤ sizeLine; decide), fun sl hsl => ?_⟩
    have s1 := same_upd (o := .lst []) hsl
    have nsr : ra ≠ sl := ne_of_none hr hsl
    have nss : ∀ a ∈ rs, a ≠ sl := fun a ha => by
      obtain ⟨xs, e⟩ := rd.mem ha
      exact ne_of_none e hsl
    walk_at "ev"
    refine ⟨_, rfl, by omega, by omega, forR (fun j σ Hy => ∃ xs x6, σ = [some (.int f), some (.int s), some (.int total), some (.ref ra), some (.int (0 + (i : Nat))), some (.ref sl), x6] ∧ Same H Hy ∧ Hy ra = some (.lst (rs.map V.ref)) ∧ RD Hy rs R ∧ Hy sl = some (.lst (xs.map oV)) ∧ xs.length = j)
      ⟨[], _, rfl, sm.trans s1, s1 _ _ hr, rd.keep (fun a _ o h => s1 a o h), upd_same, rfl⟩ ?_ ?_⟩
    · rintro j σ Hy hj ⟨xs, y6, rfl, sm2, hr2, rd2, hs2, hx⟩
      walk_at "ev"
      refine ⟨.inl ⟨rfl, _, SqL.of hs2⟩, ?_⟩
      walk_at "ev"
      refine ⟨s, _, _, rfl, by omega, by omega, by omega, by omega, ?_⟩
      walk_at "ev"
      refine ⟨_, total, rfl, h0, fun x => ?_⟩
      walk_at "ev"
      refine ⟨sl, _, _, rfl, rfl, hs2, by rw [List.length_map]; exact Nat.lt_of_le_of_lt (show xs.length ≤ 1000000 by omega) (show 1000000 < sizeLine by decide), ?_⟩
      walk_at "ev"
      refine ⟨xs ++ [x], _, rfl, same_own sm2 (sm.free hsl), (upd_ne nsr).trans hr2, rd2.keep fun a ha o h => (upd_ne (nss a ha)).trans h, by rw [upd_same, List.map_append]; rfl, by rw [List.length_append, hx]; rfl⟩
    · rintro σ Hy ⟨xs, y6, rfl, sm2, hr2, rd2, hs2, hx⟩
      walk_at "ev"
      refine ⟨.inl ⟨rfl, _, SqL.of hr2⟩, ?_⟩
      walk_at "ev"
      refine ⟨ra, _, _, rfl, rfl, hr2, by rw [List.length_map]; exact Nat.lt_of_le_of_lt (show rs.length ≤ 1000000 by omega) (show 1000000 < sizeLine by decide), ?_⟩
      walk_at "ev"
      refine ⟨rs ++ [sl], R ++ [xs], _, _, _, rfl, same_own sm2 hra, by rw [upd_same, List.map_append]; rfl, (rd2.keep fun a ha o h => (upd_ne (hne a ha)).trans h).app ⟨(upd_ne nsr.symm).trans hs2, trivial⟩, by rw [List.length_append, hl]; rfl, fun a ha => ?_, fun x hx' => ?_⟩
      · rcases List.mem_append.mp ha with z | z
        · exact hne a z
        · rw [List.mem_singleton.mp z]; exact nsr.symm
      · rcases List.mem_append.mp hx' with z | z
        · exact h9 x z
        · rw [List.mem_singleton.mp z]
          omega
  · rintro σ Hx ⟨rs, R, y4, y5, y6, rfl, sm, hr, rd, hl, hne, h9⟩
    walk_at "ev"
    exact q ra rs R Hx hra sm hr rd (by omega) (by omega) h9
end
def rep (c : Int) : List (Option Int) := List.replicate (manyF c).toNat none
def cA (c : Int) : Option (List (Option Int)) := some (rep c)
def cL (c : Int) : Option (List (Option Int)) := if leftF c then some (rep c) else none
def gV : Option (Addr × Addr) → V
  | none => .non
  | some g => .ref g.1
structure HJ (CC CH : Addr) (H : Hp) (hp ca : Addr) (used born : Int) (gs : List (Option (Addr × Addr))) (F : KB.Fd) : Prop where
  oh : ∃ dx, H hp = some (.ins CH dx (heapF (10 ^ 15) ca used born))
  oc : H ca = some (.lst (gs.map gV))
  ln : gs.length = F.length
  no : ∀ i : Nat, gs[i]? = some none → F[i]? = some none
  ce : ∀ (i : Nat) g, gs[i]? = some (some g) → g.2 ≠ ca ∧ ∃ fl b u t l, F[i]? = some (some fl) ∧ CellO CC H g.1 g.2 b u t l (fl.map oV)
  dj : ∀ (i j : Nat) g g', gs[i]? = some (some g) → gs[j]? = some (some g') → g.2 = g'.2 → i = j
section
variable {CC CH : Addr} {H H' : Hp} {hp ca : Addr} {used born : Int} {gs : List (Option (Addr × Addr))} {F : KB.Fd}
theorem HJ.same (j : HJ CC CH H hp ca used born gs F) (s : Same H H') : HJ CC CH H' hp ca used born gs F := by
  obtain ⟨⟨dx, h1⟩, h2, h3, h4, h5, h6⟩ := j
  refine ⟨⟨dx, s _ _ h1⟩, s _ _ h2, h3, h4, fun i g hg => ?_, h6⟩
  obtain ⟨n1, fl, b, u, t, l, e, c⟩ := h5 i g hg
  exact ⟨n1, fl, b, u, t, l, e, c.same s⟩
theorem HJ.hpo (j : HJ CC CH H hp ca used born gs F) : HpO CH H hp ca (10 ^ 15) used born (gs.map gV) := ⟨j.oh, j.oc⟩
theorem HJ.hv (j : HJ CC CH H hp ca used born gs F) : HV CC CH H hp F := by
  refine ⟨ca, _, used, born, _, j.hpo, by rw [List.length_map]; exact j.ln, fun i x hx => ?_⟩
  have hi : i < gs.length := by rw [j.ln]; exact (List.getElem?_eq_some_iff.mp hx).1
  have hg : gs[i]? = some gs[i] := List.getElem?_eq_getElem hi
  cases e : gs[i] with
  | none =>
    rw [e] at hg
    have := j.no i hg
    rw [hx] at this
    cases this
    show (gs.map gV)[i]? = some V.non
    rw [List.getElem?_map, hg]; rfl
  | some g =>
    rw [e] at hg
    obtain ⟨_, fl, b, u, t, l, e2, c⟩ := j.ce i g hg
    rw [hx] at e2
    cases e2
    exact ⟨g.1, g.2, b, u, t, l, by rw [List.getElem?_map, hg]; rfl, c⟩
theorem HJ.okn {K : PySem.W.Frag} (j : HJ CC CH H hp ca used born gs F) (tx : TxC K CC CH) : OkN K H (gs.map gV) := by
  intro y hy
  obtain ⟨g, hg, rfl⟩ := List.mem_map.mp hy
  obtain ⟨i, hi, e⟩ := List.getElem_of_mem hg
  cases g with
  | none => exact .inl rfl
  | some g =>
    obtain ⟨_, fl, b, u, t, l, _, ⟨⟨dx, o⟩, _⟩⟩ := j.ce i g (by rw [List.getElem?_eq_getElem hi, e])
    exact .inr ⟨g.1, CC, dx, _, rfl, o, tx.cl_Cell, tx.eq_Cell⟩
theorem HJ.made {p fa : Addr} {many bulk tone : Int} (j : HJ CC CH H hp ca used born gs F) (all : ∀ g ∈ gs, g ≠ none) (np : H p = none) (nf : H fa = none) (fm : Fm [hp, ca] H H') (h1 : ∃ dx, H' hp = some (.ins CH dx (heapF (10 ^ 15) ca (used + (1 + many + bulk)) (born + 1)))) (h2 : H' ca = some (.lst (putN (gs.map gV) (.ref p))))
    (c : CellO CC H' p fa (born + 1) bulk tone 0 (List.replicate many.toNat V.non)) : HJ CC CH H' hp ca (used + (1 + many + bulk)) (born + 1) (gs ++ [some (p, fa)]) (F ++ [some (List.replicate many.toNat none)]) := by
  have nn : V.non ∉ gs.map gV := fun h => by
    obtain ⟨g, hg, e⟩ := List.mem_map.mp h
    cases g with
    | none => exact all _ hg rfl
    | some g => cases e
  have hfa : fa ≠ ca := fun z => by rw [z, j.oc] at nf; cases nf
  refine ⟨h1, ?_, by rw [List.length_append, List.length_append, j.ln]; rfl, fun i hi => ?_, fun i g hi => ?_, fun a b g g' ha hb e => ?_⟩
  · rw [h2]; unfold putN; rw [if_neg nn, List.map_append]; rfl
  · by_cases h : i < gs.length
    · rw [List.getElem?_append_left h] at hi
      exact absurd rfl (all _ (List.mem_of_getElem? hi))
    · rw [List.getElem?_append_right (by omega)] at hi
      cases k : i - gs.length with
      | zero => rw [k] at hi; cases hi
      | succ m => rw [k] at hi; simp at hi
  · by_cases h : i < gs.length
    · rw [List.getElem?_append_left h] at hi
      obtain ⟨n1, fl, b, u, t, l, e, ⟨⟨dx, o⟩, of⟩⟩ := j.ce i g hi
      refine ⟨n1, fl, b, u, t, l, by rw [List.getElem?_append_left (by rw [← j.ln]; exact h)]; exact e, ⟨dx, fm _ _ o ?_⟩, fm _ _ of ?_⟩
      · obtain ⟨dh, oh⟩ := j.oh
        intro hm
        rcases List.mem_cons.mp hm with z | z
        · rw [z, oh] at o
          have := Option.some.inj o
          injection this with _ _ e3
          exact cellF_ne_heapF e3.symm
        · have z' : g.1 = ca := by simpa using z
          rw [z', j.oc] at o; cases o
      · obtain ⟨dh, oh⟩ := j.oh
        intro hm
        rcases List.mem_cons.mp hm with z | z
        · rw [z, oh] at of; cases of
        · exact n1 (by simpa using z)
    · rw [List.getElem?_append_right (by omega)] at hi
      cases k : i - gs.length with
      | zero =>
        rw [k] at hi
        have e : g = (p, fa) := by simpa using hi.symm
        subst e
        have hi' : i = F.length := by rw [← j.ln]; omega
        refine ⟨hfa, List.replicate many.toNat none, born + 1, bulk, tone, 0, by rw [hi', List.getElem?_append_right (Nat.le_refl _), Nat.sub_self]; rfl, ?_⟩
        rw [List.map_replicate]
        exact c
      | succ m => rw [k] at hi; simp at hi
  · have old : ∀ (i : Nat) g, (gs ++ [some (p, fa)])[i]? = some (some g) → (gs[i]? = some (some g) ∧ g.2 ≠ fa) ∨ (i = gs.length ∧ g = (p, fa)) := fun i g hi => by
      by_cases h : i < gs.length
      · rw [List.getElem?_append_left h] at hi
        obtain ⟨n1, fl, b, u, t, l, e, ⟨⟨dx, o⟩, of⟩⟩ := j.ce i g hi
        exact .inl ⟨hi, ne_of_none of nf⟩
      · rw [List.getElem?_append_right (by omega)] at hi
        cases k : i - gs.length with
        | zero => rw [k] at hi; exact .inr ⟨by omega, by simpa using hi.symm⟩
        | succ m => rw [k] at hi; simp at hi
    rcases old a g ha with ⟨x1, x2⟩ | ⟨x1, x2⟩ <;> rcases old b g' hb with ⟨y1, y2⟩ | ⟨y1, y2⟩
    · exact j.dj a b g g' x1 y1 e
    · rw [y2] at e; exact absurd e x2
    · rw [x2] at e; exact absurd e.symm y2
    · rw [x1, y1]
theorem HJ.back {i : Nat} {g : Addr × Addr} {u' : Int} {dx : Addr} (j : HJ CC CH H hp ca used born gs F) (hg : gs[i]? = some (some g)) :
    HJ CC CH (upd (upd H hp (.ins CH dx (heapF (10 ^ 15) ca u' born))) ca (.lst ((gs.map gV).set i V.non))) hp ca u' born (gs.set i none) (F.set i none) := by
  have nhc : hp ≠ ca := j.hpo.ne
  have hi : i < gs.length := (List.getElem?_eq_some_iff.mp hg).1
  have kp : ∀ b o, H b = some o → b ≠ hp → b ≠ ca → upd (upd H hp (.ins CH dx (heapF (10 ^ 15) ca u' born))) ca (.lst ((gs.map gV).set i V.non)) b = some o := fun b o h n1 n2 => by
    rw [upd_ne n2, upd_ne n1]; exact h
  refine ⟨⟨dx, by rw [upd_ne nhc, upd_same]⟩, by rw [upd_same, List.map_set]; rfl, by rw [List.length_set, List.length_set, j.ln], fun k hk => ?_, fun k g' hk => ?_, fun a b x y ha hb e => ?_⟩
  · by_cases h : k = i
    · subst h; rw [List.getElem?_set_self (by rw [← j.ln]; exact hi)]
    · rw [List.getElem?_set_ne (by omega)] at hk ⊢
      exact j.no k hk
  · have h : k ≠ i := fun z => by
      subst z
      rw [List.getElem?_set_self hi] at hk; cases hk
    rw [List.getElem?_set_ne (by omega)] at hk
    obtain ⟨n1, fl, b, u, t, l, e, ⟨⟨dc, o⟩, of⟩⟩ := j.ce k g' hk
    obtain ⟨dh, oh⟩ := j.oh
    refine ⟨n1, fl, b, u, t, l, by rw [List.getElem?_set_ne (by omega)]; exact e, ⟨dc, kp _ _ o (fun z => ?_) (fun z => ?_)⟩, kp _ _ of (fun z => ?_) n1⟩
    · rw [z, oh] at o
      have := Option.some.inj o
      injection this with _ _ e3
      exact cellF_ne_heapF e3.symm
    · rw [z, j.oc] at o; cases o
    · rw [z, oh] at of; cases of
  · have h1 : a ≠ i := fun z => by subst z; rw [List.getElem?_set_self hi] at ha; cases ha
    have h2 : b ≠ i := fun z => by subst z; rw [List.getElem?_set_self hi] at hb; cases hb
    rw [List.getElem?_set_ne (by omega)] at ha hb
    exact j.dj a b x y ha hb e
end
def S_heap (K : PySem.W.Frag) (CC CH : Addr) : Sp := fun vs H Q E => ∃ (a : Addr) (cs : List Int), vs = [.ref a] ∧ SqL K H a (cs.map V.int) ∧ cs.length ≤ 40 ∧
  ∀ hp ca used born gs H', H hp = none → H ca = none → Same H H' → HJ CC CH H' hp ca used born gs (cs.map cL) → (∀ (i : Nat) g, gs[i]? = some (some g) → H g.2 = none) → Q (.ref hp) H'
section
variable {K : PySem.W.Frag} {C_Cell C_Heap C_Full : Addr} {H : Hp} {Q : VK} {E : XK} {n : St → Hp → Prop} {bk ct : St → Hp → Prop}
theorem _law_heap_rd0 {a : Addr} {cs : List Int} {x1 x2 x3 : Option V} (T : TxC K C_Cell C_Heap) (ha : SqL K H a (cs.map V.int)) (hl : cs.length ≤ 40)
    (q : ∀ hp ca used born gs H', H hp = none → H ca = none → Same H H' → HJ C_Cell C_Heap H' hp ca used born gs (cs.map cL) → (∀ (i : Nat) g, gs[i]? = some (some g) → H g.2 = none) → Q (.ref hp) H') :
    rd__law_heap K C_Heap (S_Heap_init C_Heap) (S_Heap_back C_Cell C_Heap) (S_Heap_make K C_Cell C_Heap C_Full) S_left S_many ⟨n, Q, bk, ct⟩ [some (.ref a), x1, x2, x3] H := by
  unfold rd__law_heap
  walk_at "ev"
  intro hp dx nhp ndx nd
  refine ⟨hp, _, rfl, dx, upd_same, fun ca H1 nca c1 c2 f1 => ⟨rfl, ?_⟩⟩
  have s1 : Same H H1 := fun b o hb => by
    refine f1 b o ?_ (ne_of_none hb nhp)
    rw [upd_ne (ne_of_none hb nhp), upd_ne (ne_of_none hb ndx)]
    exact hb
  have nca' : H ca = none := by
    have e := nca
    by_cases z1 : ca = hp
    · rw [z1, upd_same] at e; cases e
    · rw [upd_ne z1] at e
      by_cases z2 : ca = dx
      · rw [z2, upd_same] at e; cases e
      · rw [upd_ne z2] at e; exact e
  walk_at "ev"
  refine ⟨a, rfl, ⟨_, s1.seq ha⟩, forL (cs.map V.int) (fun i σ Hx => i ≤ cs.length ∧ Same H Hx ∧ ∃ used gs x2, σ = [some (.ref a), some (.ref hp), x2, x3] ∧ HJ C_Cell C_Heap Hx hp ca used i gs ((cs.take i).map cA) ∧ (∀ g ∈ gs, g ≠ none) ∧ 0 ≤ used ∧ used ≤ i * 1000020 ∧ ∀ (i : Nat) g, gs[i]? = some (some g) → H g.2 = none)
    ⟨Nat.zero_le _, s1, 0, [], _, rfl, ⟨⟨dx, c1⟩, c2, rfl, (fun i h => by simp at h), (fun i g h => by simp at h), (fun i j g g' h => by simp at h)⟩, (fun g h => nomatch h), by omega, by omega, fun i g h => by simp at h⟩ (fun i σ Hx _ ⟨_, sm, _⟩ => sm.seq ha) ?_ ?_⟩
  · rintro i x σ Hx hx ⟨hi, sm, used, gs, y2, rfl, j, all, hu0, hu, fr⟩
    rw [List.getElem?_map] at hx
    obtain ⟨c, hc, rfl⟩ := Option.map_eq_some_iff.mp hx
    have hil : i < cs.length := (List.getElem?_eq_some_iff.mp hc).1
    have jl := j.ln
    rw [List.length_map, List.length_take] at jl
    obtain ⟨dh, oh⟩ := j.oh
    have hm := manyF_bd c
    walk_at "ev"
    refine ⟨hp, dh, _, rfl, oh, rfl, ?_⟩
    walk_at "ev"
    refine ⟨c, rfl, ?_⟩
    walk_at "ev"
    have hb1 := Int.emod_nonneg (c * 16807) (show (1000003 : Int) ≠ 0 by decide)
    have hb2 := Int.emod_lt_of_pos (c * 16807) (show (0 : Int) < 1000003 by decide)
    refine ⟨hp, manyF c, c * 16807 % 1000003, c / 32 % 2, rfl, ca, dh, _, used, i, _, oh, j.oc, j.okn T, by rw [List.length_map]; omega, hm.1, by omega, ?_, fun _ p fa H' np nf fm h1 h2 cc => ?_⟩
    · intro z
      have e15 : (10 : Int) ^ 15 = 1000000000000000 := by decide
      rw [e15] at z
      omega
    · walk_at "ev"
      have jm := j.made all np nf fm ⟨dh, h1⟩ h2 cc
      have s2 : Same H H' := fun b o hb => fm b o (sm b o hb) (fun hm => by
        rcases List.mem_cons.mp hm with z | z
        · rw [z, nhp] at hb; cases hb
        · have z' : b = ca := by simpa using z
          rw [z', nca'] at hb; cases hb)
      refine ⟨hil, s2, used + (1 + manyF c + c * 16807 % 1000003), gs ++ [some (p, fa)], _, rfl, ?_, fun g hg => ?_, by omega, ?_, fun k g hk => ?_⟩
      · rw [take_snoc hc, List.map_append, show ((i + 1 : Nat) : Int) = (i : Int) + 1 from by omega]
        exact jm
      · rcases List.mem_append.mp hg with z | z
        · exact all g z
        · rw [List.mem_singleton.mp z]; exact fun z => by cases z
      · rw [show ((i + 1 : Nat) : Int) = (i : Int) + 1 from by omega]; omega
      · by_cases h : k < gs.length
        · rw [List.getElem?_append_left h] at hk
          exact fr k g hk
        · rw [List.getElem?_append_right (by omega)] at hk
          cases e : k - gs.length with
          | zero =>
            rw [e] at hk
            have : g = (p, fa) := by simpa using hk.symm
            rw [this]; exact sm.free nf
          | succ m => rw [e] at hk; simp at hk
  · rintro σ Hx ⟨hi, sm, used, gs, y2, rfl, j, all, hu0, hu, fr⟩
    rw [List.length_map, List.take_length] at j
    walk_at "ev"
    refine ⟨a, rfl, ⟨_, sm.seq ha⟩, forE (cs.map V.int) (fun i σ Hx => i ≤ cs.length ∧ Same H Hx ∧ ∃ used gs x2 x3, σ = [some (.ref a), some (.ref hp), x2, x3] ∧ HJ C_Cell C_Heap Hx hp ca used cs.length gs ((cs.take i).map cL ++ (cs.drop i).map cA) ∧ ∀ (i : Nat) g, gs[i]? = some (some g) → H g.2 = none)
      ⟨Nat.zero_le _, sm, used, gs, _, _, rfl, j, fr⟩ (fun i σ Hx _ ⟨_, sm, _⟩ => sm.seq ha) ?_ ?_⟩
    · rintro i x t σ Hy hx ⟨hi, sm2, used2, gs2, z2, z3, rfl, j2, fr2⟩ ht
      rw [List.getElem?_map] at hx
      obtain ⟨c, hc, rfl⟩ := Option.map_eq_some_iff.mp hx
      have hil : i < cs.length := (List.getElem?_eq_some_iff.mp hc).1
      have hln : ((cs.take i).map cL).length = i := by rw [List.length_map, List.length_take]; omega
      have hdr : cs.drop i = c :: cs.drop (i + 1) := by
        rw [List.drop_eq_getElem_cons hil]
        congr 1
        rw [List.getElem?_eq_getElem hil] at hc
        exact Option.some.inj hc
      have s3 := same_upd (o := .tup [.int i, .int c]) ht
      have j3 := j2.same s3
      refine ⟨t, _, rfl, SqT.of upd_same, rfl, .int i, _, rfl, ?_⟩
      walk_at "ev"
      refine ⟨.int c, _, rfl, ?_⟩
      walk_at "ev"
      refine ⟨rfl, ?_⟩
      walk_at "ev"
      refine ⟨c, rfl, ?_⟩
      walk_at "ev"
      have Fi : ((cs.take i).map cL ++ (cs.drop i).map cA)[i]? = some (some (rep c)) := by
        rw [List.getElem?_append_right (by omega), hln, Nat.sub_self, hdr]; rfl
      cases hlf : leftF c with
      | true =>
        walk_at "ev"
        refine ⟨hil, sm2.trans s3, used2, gs2, _, _, rfl, ?_, fr2⟩
        have e : (cs.take (i + 1)).map cL ++ (cs.drop (i + 1)).map cA = (cs.take i).map cL ++ (cs.drop i).map cA := by
          rw [take_snoc hc, hdr, List.map_append, List.append_assoc]
          congr 1
          show [cL c] ++ _ = cA c :: _
          unfold cL cA; rw [hlf]; rfl
        rw [e]; exact j3
      | false =>
        walk_at "ev"
        obtain ⟨dh, oh⟩ := j3.oh
        refine ⟨hp, dh, _, rfl, oh, rfl, ?_⟩
        walk_at "ev"
        have hgl : i < gs2.length := by
          rw [j2.ln]; exact (List.getElem?_eq_some_iff.mp Fi).1
        have hg0 : gs2[i]? = some gs2[i] := List.getElem?_eq_getElem hgl
        obtain ⟨g, hg⟩ : ∃ g, gs2[i]? = some (some g) := by
          cases e : gs2[i] with
          | none => rw [e] at hg0; rw [j2.no i hg0] at Fi; cases Fi
          | some g => rw [e] at hg0; exact ⟨g, hg0⟩
        obtain ⟨n1, fl, b, u, tt, l, e2, cc⟩ := j3.ce i g hg
        refine ⟨hp, (i : Nat), rfl, ca, dh, _, used2, cs.length, _, g.1, g.2, b, u, tt, l, _, by omega, oh, j3.oc, by rw [Int.toNat_natCast, List.getElem?_map, hg]; rfl, cc, ?_⟩
        walk_at "ev"
        rw [Int.toNat_natCast]
        refine ⟨hil, same_own (same_own (sm2.trans s3) nhp) nca', used2 - (1 + ((fl.map oV).length : Int) + u), gs2.set i none, _, _, rfl, ?_, fun k g' hk => fr2 k g' ?_⟩
        · have e : (cs.take (i + 1)).map cL ++ (cs.drop (i + 1)).map cA = ((cs.take i).map cL ++ (cs.drop i).map cA).set i none := by
            rw [take_snoc hc, hdr, List.map_append, List.append_assoc, List.set_append_right _ _ (by omega), hln, Nat.sub_self]
            congr 1
            show [cL c] ++ _ = none :: _
            unfold cL; rw [hlf]; rfl
          rw [e]
          exact j3.back hg
        · have h : k ≠ i := fun z => by
            subst z
            rw [List.getElem?_set_self hgl] at hk; cases hk
          rw [List.getElem?_set_ne (by omega)] at hk
          exact hk
    · rintro σ Hy ⟨hi2, sm2, used2, gs2, z2, z3, rfl, j2, fr2⟩
      rw [List.length_map, List.take_length, List.drop_length] at j2
      simp only [List.map_nil, List.append_nil] at j2
      walk_at "ev"
      exact q hp ca used2 _ gs2 Hy nhp nca' sm2 j2 fr2
end
section
variable {CC CH : Addr} {H H' : Hp} {hp ca : Addr} {used born : Int} {gs : List (Option (Addr × Addr))} {F : KB.Fd}
theorem HJ.beside {a : Addr} {o : HO} (j : HJ CC CH H hp ca used born gs F) (n1 : a ≠ hp) (n2 : a ≠ ca) (n3 : ∀ (i : Nat) g, gs[i]? = some (some g) → g.1 ≠ a ∧ g.2 ≠ a) : HJ CC CH (upd H a o) hp ca used born gs F := by
  obtain ⟨⟨dx, h1⟩, h2, h3, h4, h5, h6⟩ := j
  refine ⟨⟨dx, (upd_ne n1.symm).trans h1⟩, (upd_ne n2.symm).trans h2, h3, h4, fun i g hg => ?_, h6⟩
  obtain ⟨m1, fl, b, u, t, l, e, ⟨⟨dc, o1⟩, o2⟩⟩ := h5 i g hg
  exact ⟨m1, fl, b, u, t, l, e, ⟨dc, (upd_ne (n3 i g hg).1).trans o1⟩, (upd_ne (n3 i g hg).2).trans o2⟩
theorem HJ.byDict {a : Addr} {o : HO} {kvs : List (Key × V)} (j : HJ CC CH H hp ca used born gs F) (h : H a = some (.dK kvs)) : HJ CC CH (upd H a o) hp ca used born gs F := by
  obtain ⟨dx, h1⟩ := j.oh
  refine j.beside (ne_of h h1 (fun z => by cases z)) (ne_of h j.oc (fun z => by cases z)) fun i g hg => ?_
  obtain ⟨m1, fl, b, u, t, l, e, ⟨⟨dc, o1⟩, o2⟩⟩ := j.ce i g hg
  exact ⟨ne_of o1 h (fun z => by cases z), ne_of o2 h (fun z => by cases z)⟩
theorem HJ.byList {a : Addr} {o : HO} {xs : List V} (j : HJ CC CH H hp ca used born gs F) (h : H a = some (.lst xs)) (n2 : a ≠ ca) (n3 : ∀ (i : Nat) g, gs[i]? = some (some g) → g.2 ≠ a) : HJ CC CH (upd H a o) hp ca used born gs F := by
  obtain ⟨dx, h1⟩ := j.oh
  refine j.beside (ne_of h h1 (fun z => by cases z)) n2 fun i g hg => ⟨?_, n3 i g hg⟩
  obtain ⟨m1, fl, b, u, t, l, e, ⟨⟨dc, o1⟩, o2⟩⟩ := j.ce i g hg
  exact ne_of o1 h (fun z => by cases z)
theorem HJ.put {i : Nat} {g : Addr × Addr} {fl' : List (Option Int)} (j : HJ CC CH H hp ca used born gs F) (hg : gs[i]? = some (some g)) : HJ CC CH (upd H g.2 (.lst (fl'.map oV))) hp ca used born gs (F.set i (some fl')) := by
  obtain ⟨n1, fl, b, u, t, l, e, ⟨⟨dc, o1⟩, o2⟩⟩ := j.ce i g hg
  obtain ⟨dx, h1⟩ := j.oh
  have hi : i < F.length := (List.getElem?_eq_some_iff.mp e).1
  refine ⟨⟨dx, (upd_ne (ne_of h1 o2 (fun z => by cases z))).trans h1⟩, (upd_ne n1.symm).trans j.oc, by rw [List.length_set]; exact j.ln, fun k hk => ?_, fun k g' hk => ?_, j.dj⟩
  · have : k ≠ i := fun z => by rw [z, hg] at hk; cases hk
    rw [List.getElem?_set_ne (by omega)]; exact j.no k hk
  · obtain ⟨m1, fl2, b2, u2, t2, l2, e2, ⟨⟨dc2, p1⟩, p2⟩⟩ := j.ce k g' hk
    refine ⟨m1, ?_⟩
    have np : g'.1 ≠ g.2 := ne_of p1 o2 (fun z => by cases z)
    by_cases h : k = i
    · subst h
      rw [hg] at hk
      cases hk
      exact ⟨fl', b2, u2, t2, l2, by rw [List.getElem?_set_self hi], ⟨dc2, (upd_ne np).trans p1⟩, upd_same⟩
    · have nf : g'.2 ≠ g.2 := fun z => h (j.dj k i g' g hk hg z)
      exact ⟨fl2, b2, u2, t2, l2, by rw [List.getElem?_set_ne (by omega)]; exact e2, ⟨dc2, (upd_ne np).trans p1⟩, (upd_ne nf).trans p2⟩
end
def thr (cs : List Int) : List Int := (List.range cs.length).filterMap fun i => (cs[i]?).bind fun c => if leftF c then some ((i : Nat) : Int) else none
theorem thr_mem {cs : List Int} {p : Int} : p ∈ thr cs ↔ ∃ c, 0 ≤ p ∧ cs[p.toNat]? = some c ∧ leftF c = true := by
  unfold thr
  rw [List.mem_filterMap]
  constructor
  · rintro ⟨i, hi, e⟩
    cases hc : cs[i]? with
    | none => rw [hc] at e; cases e
    | some c =>
      rw [hc] at e
      simp only [Option.bind_some] at e
      split at e
      · rename_i hl
        cases e
        exact ⟨c, by omega, by rw [Int.toNat_natCast]; exact hc, hl⟩
      · cases e
  · rintro ⟨c, h0, hc, hl⟩
    refine ⟨p.toNat, List.mem_range.mpr (List.getElem?_eq_some_iff.mp hc).1, ?_⟩
    rw [hc]
    simp only [Option.bind_some, hl, ↓reduceIte]
    congr 1; omega
theorem fm_nodup : ∀ (ns : List Nat) (f : Nat → Option Int), ns.Nodup → (∀ i v, f i = some v → v = (i : Int)) → (ns.filterMap f).Nodup
  | [], _, _, _ => List.nodup_nil
  | n :: ns, f, nd, hf => by
    have ih := fm_nodup ns f (List.nodup_cons.mp nd).2 hf
    cases e : f n with
    | none => rw [List.filterMap_cons_none e]; exact ih
    | some v =>
      rw [List.filterMap_cons_some e, List.nodup_cons]
      refine ⟨fun hm => ?_, ih⟩
      obtain ⟨m, hm1, hm2⟩ := List.mem_filterMap.mp hm
      have e1 := hf n v e
      have e2 := hf m v hm2
      have : m = n := by omega
      exact (List.nodup_cons.mp nd).1 (this ▸ hm1)
theorem thr_nodup (cs : List Int) : (thr cs).Nodup := by
  refine fm_nodup _ _ List.nodup_range fun i v h => ?_
  cases hc : cs[i]? with
  | none => rw [hc] at h; cases h
  | some c =>
    rw [hc] at h
    simp only [Option.bind_some] at h
    split at h
    · cases h; rfl
    · cases h
def Shp (cs : List Int) (F : KB.Fd) : Prop := F.length = cs.length ∧ ∀ (j : Nat) c, cs[j]? = some c → (leftF c = false → F[j]? = some none) ∧ (leftF c = true → ∃ fl, F[j]? = some (some fl) ∧ fl.length = (manyF c).toNat)
theorem shp_cL (cs : List Int) : Shp cs (cs.map cL) := by
  refine ⟨List.length_map .., fun j c hc => ?_⟩
  rw [List.getElem?_map, hc]
  unfold cL
  constructor
  · intro h; simp [h]
  · intro h
    refine ⟨rep c, by simp [h], ?_⟩
    unfold rep; rw [List.length_replicate]
theorem Shp.set {cs : List Int} {F : KB.Fd} {i : Nat} {c : Int} {fl : List (Option Int)} (s : Shp cs F) (hc : cs[i]? = some c) (hl : leftF c = true) (hf : fl.length = (manyF c).toNat) : Shp cs (F.set i (some fl)) := by
  refine ⟨by rw [List.length_set]; exact s.1, fun j d hd => ?_⟩
  by_cases h : j = i
  · subst h
    rw [hc] at hd; cases hd
    have hi : j < F.length := by rw [s.1]; exact (List.getElem?_eq_some_iff.mp hc).1
    rw [List.getElem?_set_self hi]
    exact ⟨fun z => (by rw [hl] at z; cases z), fun _ => ⟨fl, rfl, hf⟩⟩
  · rw [List.getElem?_set_ne (by omega)]
    exact s.2 j d hd
structure DE (H : Hp) (ca : Addr) (gs : List (Option (Addr × Addr))) (F : KB.Fd) (kv : Key × V) (p : Int) : Prop where
  ex : ∃ l fl, kv = (Sum.inl p, .ref l) ∧ KB.fat F p = some fl ∧ H l = some (.lst (fl.map oV)) ∧ l ≠ ca ∧ ∀ (i : Nat) g, gs[i]? = some (some g) → g.2 ≠ l
def DS (H : Hp) (ca : Addr) (gs : List (Option (Addr × Addr))) (F : KB.Fd) : List (Key × V) → List Int → Prop
  | [], [] => True
  | kv :: kvs, p :: ps => DE H ca gs F kv p ∧ DS H ca gs F kvs ps
  | _, _ => False
theorem DS.app {H : Hp} {ca : Addr} {gs : List (Option (Addr × Addr))} {F : KB.Fd} : ∀ {ks ls : List (Key × V)} {ps qs : List Int}, DS H ca gs F ks ps → DS H ca gs F ls qs → DS H ca gs F (ks ++ ls) (ps ++ qs)
  | [], _, [], _, _, h => h
  | [], _, _ :: _, _, h, _ => h.elim
  | _ :: _, _, [], _, h, _ => h.elim
  | _ :: _, _, _ :: _, _, ⟨h1, h3⟩, h => ⟨h1, DS.app h3 h⟩
theorem DS.mv {H H' : Hp} {ca : Addr} {gs : List (Option (Addr × Addr))} {F F' : KB.Fd} : ∀ {ks : List (Key × V)} {ps : List Int}, DS H ca gs F ks ps → (∀ p ∈ ps, KB.fat F' p = KB.fat F p) → (∀ l xs, (∃ k, (k, V.ref l) ∈ ks) → l ≠ ca → (∀ (i : Nat) g, gs[i]? = some (some g) → g.2 ≠ l) → H l = some (.lst xs) → H' l = some (.lst xs)) → DS H' ca gs F' ks ps
  | [], [], _, _, _ => trivial
  | [], _ :: _, h, _, _ => h.elim
  | _ :: _, [], h, _, _ => h.elim
  | kv :: kvs, p :: ps, ⟨⟨l, fl, e, h1, h2, h3, h4⟩, h5⟩, hF, hH => ⟨⟨l, fl, e, by rw [hF p (by simp)]; exact h1, hH l _ ⟨kv.1, by rw [e]; simp⟩ h3 h4 h2, h3, h4⟩, DS.mv h5 (fun q hq => hF q (by simp [hq])) fun l xs ⟨k, hk⟩ => hH l xs ⟨k, by simp [hk]⟩⟩
theorem DS.len {H : Hp} {ca : Addr} {gs : List (Option (Addr × Addr))} {F : KB.Fd} : ∀ {ks : List (Key × V)} {ps : List Int}, DS H ca gs F ks ps → ks.length = ps.length
  | [], [], _ => rfl
  | [], _ :: _, h => h.elim
  | _ :: _, [], h => h.elim
  | _ :: _, _ :: _, ⟨_, h3⟩ => by rw [List.length_cons, List.length_cons, DS.len h3]
theorem DS.no {H : Hp} {ca : Addr} {gs : List (Option (Addr × Addr))} {F : KB.Fd} {p : Int} : ∀ {ks : List (Key × V)} {ps : List Int}, DS H ca gs F ks ps → p ∉ ps → valV ks (Sum.inl p) = none
  | [], [], _, _ => rfl
  | [], _ :: _, h, _ => h.elim
  | _ :: _, [], h, _ => h.elim
  | _ :: _, q :: _, ⟨⟨l, fl, e, _⟩, h3⟩, hn => by
    rw [valV_neg (by rw [e]; exact fun z => hn (by simp [Sum.inl.inj z]))]
    exact DS.no h3 fun z => hn (by simp [z])
theorem DS.yes {H : Hp} {ca : Addr} {gs : List (Option (Addr × Addr))} {F : KB.Fd} {p : Int} : ∀ {ks : List (Key × V)} {ps : List Int}, DS H ca gs F ks ps → p ∈ ps → ∃ l fl, valV ks (Sum.inl p) = some (.ref l) ∧ KB.fat F p = some fl ∧ H l = some (.lst (fl.map oV))
  | [], [], _, h => nomatch h
  | [], _ :: _, h, _ => h.elim
  | _ :: _, [], h, _ => h.elim
  | kv :: _, q :: _, ⟨⟨l, fl, e, h1, h2, _⟩, h3⟩, hm => by
    by_cases hq : q = p
    · subst hq
      exact ⟨l, fl, by rw [valV_pos (by rw [e]), e], h1, h2⟩
    · rw [valV_neg (by rw [e]; exact fun z => hq (Sum.inl.inj z))]
      rcases List.mem_cons.mp hm with z | z
      · exact absurd z.symm hq
      · exact DS.yes h3 z
def S_links (K : PySem.W.Frag) (CC CH : Addr) : Sp := fun vs H Q E => ∃ (hp la : Addr) (cs : List Int) (H0 : Hp) (ca : Addr) (used born : Int) (gs : List (Option (Addr × Addr))), vs = [.ref hp, .ref la] ∧ SqL K H0 la (cs.map V.int) ∧ cs.length ≤ 40 ∧ Same H0 H ∧ HJ CC CH H hp ca used born gs (cs.map cL) ∧ (∀ (i : Nat) g, gs[i]? = some (some g) → H0 g.2 = none) ∧
  ∀ d kvs F H', H0 d = none → Same H0 H' → H' d = some (.dK kvs) → HJ CC CH H' hp ca used born gs F → Shp cs F → DS H' ca gs F kvs (thr cs) → Q (.ref d) H'
theorem fat_nat (F : KB.Fd) (i : Nat) : KB.fat F (i : Int) = (F[i]?).join := by
  unfold KB.fat
  rw [if_pos (by omega), Int.toNat_natCast]
theorem fat_set_ne {F : KB.Fd} {i : Nat} {x : Option (List (Option Int))} {p : Int} (h : p ≠ (i : Int)) : KB.fat (F.set i x) p = KB.fat F p := by
  unfold KB.fat
  by_cases h0 : 0 ≤ p
  · rw [if_pos h0, if_pos h0, List.getElem?_set_ne (by omega)]
  · rw [if_neg h0, if_neg h0]
theorem set_mid (xs fl : List (Option Int)) (o : Option Int) (h : xs.length < fl.length) : ((xs ++ fl.drop xs.length).map oV).set xs.length (oV o) = ((xs ++ [o]) ++ fl.drop (xs.length + 1)).map oV := by
  have e : fl.drop xs.length = fl[xs.length] :: fl.drop (xs.length + 1) := List.drop_eq_getElem_cons h
  rw [e, List.map_append, List.set_append_right _ _ (by rw [List.length_map]; exact Nat.le_refl _), List.length_map, Nat.sub_self, List.map_append, List.map_append, List.append_assoc]
  rfl
theorem DS.mem {H : Hp} {ca : Addr} {gs : List (Option (Addr × Addr))} {F : KB.Fd} {k : Key} {l : Addr} : ∀ {ks : List (Key × V)} {ps : List Int}, DS H ca gs F ks ps → (k, V.ref l) ∈ ks → ∃ xs, H l = some (.lst xs)
  | [], _, _, h => nomatch h
  | _ :: _, [], h, _ => h.elim
  | kv :: _, _ :: _, ⟨⟨l', fl, e, _, h2, _⟩, h3⟩, hm => by
    rcases List.mem_cons.mp hm with z | z
    · rw [e] at z
      have : l = l' := by injection z with _ z2; injection z2
      rw [this]; exact ⟨_, h2⟩
    · exact DS.mem h3 z
section
variable {K : PySem.W.Frag} {C_Cell C_Heap C_Full : Addr} {H : Hp} {Q : VK} {E : XK} {n : St → Hp → Prop} {bk ct : St → Hp → Prop}
theorem _law_links_rd0 {hp la : Addr} {cs : List Int} {H0 : Hp} {ca : Addr} {used born : Int} {gs : List (Option (Addr × Addr))} {x2 x3 x4 x5 x6 x7 x8 x9 : Option V} (T : TxC K C_Cell C_Heap) (hla : SqL K H0 la (cs.map V.int)) (hl : cs.length ≤ 40) (s0 : Same H0 H) (j0 : HJ C_Cell C_Heap H hp ca used born gs (cs.map cL)) (fr : ∀ (i : Nat) g, gs[i]? = some (some g) → H0 g.2 = none)
    (q : ∀ d kvs F H', H0 d = none → Same H0 H' → H' d = some (.dK kvs) → HJ C_Cell C_Heap H' hp ca used born gs F → Shp cs F → DS H' ca gs F kvs (thr cs) → Q (.ref d) H') :
    rd__law_links K S_left (S_link K) S_many S_mix ⟨n, Q, bk, ct⟩ [some (.ref hp), some (.ref la), x2, x3, x4, x5, x6, x7, x8, x9] H := by
  unfold rd__law_links
  walk_at "ev"
  intro d hd
  have s1 := s0.trans (same_upd (o := .dK []) hd)
  walk_at "ev"
  refine i_lcg ?_
  walk_at "ev"
  refine i_lenL (s1.seq hla) ?_
  walk_at "ev"
  rw [List.length_map]
  refine ⟨_, rfl, by omega, by omega, lc_src cs.length (by omega) (fun i => (cs[i]?).bind fun c => if leftF c then some (V.int ((i : Nat) : Int)) else none) (show ((cs.length : Nat) : Int).toNat ≤ cs.length by omega) (fun i hi => show i < ((cs.length : Nat) : Int).toNat by omega) (fun i x H' hi y => ?_) fun tl htl => ?_⟩
  · obtain ⟨rfl, rfl⟩ := y
    rw [Int.zero_add]
    have hc : cs[i]? = some cs[i] := List.getElem?_eq_getElem hi
    refine ⟨rfl, fun q' hq => ?_, fun y q' hy hq => ?_⟩
    · walk_at "caps"
      walk_at "ev"
      refine i_ixL (s1.seq hla) (atI_nat (v := .int cs[i]) (by rw [List.getElem?_map, hc]; rfl)) ?_
      walk_at "ev"
      refine ⟨cs[i], rfl, ?_⟩
      walk_at "ev"
      rw [hc] at hq
      simp only [Option.bind_some] at hq
      cases hlf : leftF cs[i] with
      | true => rw [hlf] at hq; exact hq
      | false => rw [hlf] at hq; exact hq
    · walk_at "caps"
      walk_at "ev"
      rw [hc] at hy
      simp only [Option.bind_some] at hy
      split at hy
      · cases hy; exact hq
      · cases hy
  · have etl : (List.range cs.length).filterMap (fun i => (cs[i]?).bind fun c => if leftF c then some (V.int ((i : Nat) : Int)) else none) = (thr cs).map V.int := by
      unfold thr
      rw [List.map_filterMap]
      congr 1
      funext i
      cases cs[i]? with
      | none => rfl
      | some c => simp only [Option.bind_some]; split <;> rfl
    rw [etl]
    walk_at "ev"
    have s2 := s1.trans (same_upd (o := .lst ((thr cs).map V.int)) htl)
    have ntf : ∀ (i : Nat) g, gs[i]? = some (some g) → g.2 ≠ tl := fun i g hg => by
      obtain ⟨m1, fl, b, u, t, l, e, ⟨⟨dc, o1⟩, o2⟩⟩ := (j0.same (same_upd (o := .dK []) hd)).ce i g hg
      exact ne_of_none o2 htl
    have ndt : d ≠ tl := ne_of_none upd_same htl
    have nd0 : H0 d = none := s0.free hd
    have nt0 : H0 tl = none := s1.free htl
    have hlt : (thr cs).length ≤ 40 := Nat.le_trans (List.length_filterMap_le _ _) (by rw [List.length_range]; exact hl)
    refine ⟨tl, rfl, ⟨_, SqL.of upd_same⟩, forE ((thr cs).map V.int) (fun i σ Hx => i ≤ (thr cs).length ∧ Same H0 Hx ∧ Hx tl = some (.lst ((thr cs).map V.int)) ∧ ∃ kvs F y3 y5 y6 y7 y8 y9, σ = [some (.ref hp), some (.ref la), some (.ref d), y3, some (.ref tl), y5, y6, y7, y8, y9] ∧ Hx d = some (.dK kvs) ∧ HJ C_Cell C_Heap Hx hp ca used born gs F ∧ Shp cs F ∧ DS Hx ca gs F kvs ((thr cs).take i))
      ⟨Nat.zero_le _, s2, upd_same, [], _, _, _, _, _, _, _, rfl, (upd_ne ndt).trans upd_same, (j0.same (same_upd (o := .dK []) hd)).same (same_upd htl), shp_cL cs, trivial⟩ (fun i σ Hx _ ⟨_, _, h, _⟩ => SqL.of h) ?_ ?_⟩
    · rintro i x t σ Hx hx ⟨hi, sm, htl', kvs, F, y3, y5, y6, y7, y8, y9, rfl, hd', j, sh, ds⟩ ht
      rw [List.getElem?_map] at hx
      obtain ⟨p, hp', rfl⟩ := Option.map_eq_some_iff.mp hx
      have hil : i < (thr cs).length := (List.getElem?_eq_some_iff.mp hp').1
      obtain ⟨c, hp0, hc, hlf⟩ := thr_mem.mp (List.mem_of_getElem? hp')
      have hpc : p.toNat < cs.length := (List.getElem?_eq_some_iff.mp hc).1
      have epn : ((p.toNat : Nat) : Int) = p := by omega
      have s3 := same_upd (o := .tup [.int i, .int p]) ht
      refine ⟨t, _, rfl, SqT.of upd_same, rfl, .int i, _, rfl, ?_⟩
      walk_at "ev"
      refine ⟨.int p, _, rfl, ?_⟩
      walk_at "ev"
      refine ⟨rfl, ?_⟩
      walk_at "ev"
      refine ⟨(by show 0 ≤ sizeLine; decide), fun l hl' => ?_⟩
      have s4 := s3.trans (same_upd (o := .lst []) hl')
      have j4 := j.same s4
      have nin : p ∉ (thr cs).take i := fun hm => by
        obtain ⟨k, hk, ek⟩ := List.getElem_of_mem hm
        rw [List.length_take] at hk
        rw [List.getElem_take] at ek
        obtain ⟨_, ei⟩ := List.getElem?_eq_some_iff.mp hp'
        have := (List.getElem_inj (thr_nodup cs)).mp (ek.trans ei.symm)
        omega
      have hno := ds.no nin
      walk_at "ev"
      refine ⟨d, _, rfl, DPut.k (k := Sum.inl p) (s4 _ _ hd') ?_, ?_⟩
      · have := ds.len
        rw [List.length_take] at this
        exact Nat.lt_of_le_of_lt (show kvs.length ≤ 1000000 by omega) (show 1000000 < sizeLine by decide)
      rw [putK_new _ hno]
      have ndl : d ≠ l := ne_of_none (s3 _ _ hd') hl'
      have ntl : tl ≠ l := ne_of_none (s3 _ _ htl') hl'
      have nlc : l ≠ ca := (ne_of_none (s3 _ _ j.oc) hl').symm
      have nlg : ∀ (i : Nat) g, gs[i]? = some (some g) → g.2 ≠ l := fun i g hg => by
        obtain ⟨m1, fl, b, u, t, l, e, ⟨⟨dc, o1⟩, o2⟩⟩ := j.ce i g hg
        exact ne_of_none (s3 _ _ o2) hl'
      have nlk : ∀ l', (∃ k, (k, V.ref l') ∈ kvs) → (∃ xs, Hx l' = some (.lst xs)) → l' ≠ l := fun l' _ ⟨xs, h⟩ => ne_of_none (s3 _ _ h) hl'
      generalize hH5 : upd (upd (upd Hx t (.tup [.int i, .int p])) l (.lst [])) d (.dK (kvs ++ [(Sum.inl p, .ref l)])) = H5
      have s5 : Same H0 H5 := by rw [← hH5]; exact same_own (sm.trans s4) nd0
      have d5 : H5 d = some (.dK (kvs ++ [(Sum.inl p, .ref l)])) := by rw [← hH5]; exact upd_same
      have l5 : H5 l = some (.lst []) := by rw [← hH5, upd_ne ndl.symm]; exact upd_same
      have t5 : H5 tl = some (.lst ((thr cs).map V.int)) := by rw [← hH5, upd_ne ndt.symm]; exact s4 _ _ htl'
      have j5 : HJ C_Cell C_Heap H5 hp ca used born gs F := by rw [← hH5]; exact j4.byDict (s4 _ _ hd')
      have k5 : ∀ b xs, Hx b = some (.lst xs) → H5 b = some (.lst xs) := fun b xs h => by
        rw [← hH5, upd_ne (ne_of h hd' (fun z => by cases z))]; exact s4 _ _ h
      have nl0 : H0 l = none := (sm.trans s3).free hl'
      clear hH5
      obtain ⟨fl0, hF0, hfl0⟩ := (sh.2 _ c hc).2 hlf
      have hgl : p.toNat < gs.length := by rw [j.ln, sh.1]; exact hpc
      have hg0 : gs[p.toNat]? = some gs[p.toNat] := List.getElem?_eq_getElem hgl
      obtain ⟨g, hg⟩ : ∃ g, gs[p.toNat]? = some (some g) := by
        cases e : gs[p.toNat] with
        | none => rw [e] at hg0; rw [j.no _ hg0] at hF0; cases hF0
        | some g => rw [e] at hg0; exact ⟨g, hg0⟩
      obtain ⟨dx, oh⟩ := j5.oh
      walk_at "ev"
      refine i_fldK oh T.cl_Heap T.n_Heap_cells heapF_lk_cells ?_
      walk_at "ev"
      refine i_ixL (SqL.of j5.oc) (atI_int (v := .ref g.1) hp0 (by rw [List.getElem?_map, hg]; rfl)) ?_
      obtain ⟨nfc, _, _, _, _, _, _, ⟨⟨dc, o1⟩, o2⟩⟩ := j5.ce _ g hg
      refine i_fldK o1 T.cl_Cell T.n_Cell_fields cellF_lk_fields ?_
      walk_at "ev"
      refine i_ixL (s5.seq hla) (atI_int (v := .int c) hp0 (by rw [List.getElem?_map, hc]; rfl)) ?_
      walk_at "ev"
      refine ⟨c, rfl, ?_⟩
      have hm := manyF_bd c
      walk_at "ev"
      have nff : ∀ b xs, Hx b = some (.lst xs) → (∀ (i : Nat) g, gs[i]? = some (some g) → g.2 ≠ b) → b ≠ g.2 := fun b xs _ h z => h _ g hg z.symm
      refine ⟨manyF c, rfl, by omega, by omega, forR (fun k σ Hy => ∃ xs y7 y8 y9, σ = [some (.ref hp), some (.ref la), some (.ref d), some (.int p), some (.ref tl), some (.int i), some (.ref g.2), y7, y8, y9] ∧ xs.length = k ∧ Same H0 Hy ∧ Hy tl = some (.lst ((thr cs).map V.int)) ∧ Hy d = some (.dK (kvs ++ [(Sum.inl p, .ref l)])) ∧ Hy l = some (.lst (xs.map oV)) ∧ HJ C_Cell C_Heap Hy hp ca used born gs (F.set p.toNat (some (xs ++ fl0.drop k))) ∧ DS Hy ca gs F kvs ((thr cs).take i))
        ⟨[], _, _, _, rfl, rfl, s5, t5, d5, l5, ?_, ds.mv (fun _ _ => rfl) fun l' xs _ _ _ h => k5 l' xs h⟩ ?_ ?_⟩
      · have e : F.set p.toNat (some ([] ++ fl0.drop 0)) = F := by
          rw [List.drop_zero, List.nil_append]
          exact List.ext_getElem? fun m => by
            by_cases h : m = p.toNat
            · subst h
              rw [List.getElem?_set_self (by rw [sh.1]; exact hpc), hF0]
            · rw [List.getElem?_set_ne (by omega)]
        rw [e]; exact j5
      · rintro k σ Hy hk ⟨xs, z7, z8, z9, rfl, hxl, sy, ty, dy, ly, jy, dsy⟩
        have hkf : k < fl0.length := by omega
        walk_at "ev"
        refine i_ixL (sy.seq hla) (atI_int (v := .int c) hp0 (by rw [List.getElem?_map, hc]; rfl)) ?_
        walk_at "ev"
        refine ⟨c, _, 0, rfl, by omega, by omega, by decide, by decide, ?_⟩
        walk_at "ev"
        refine i_lenL (sy.seq hla) ?_
        rw [List.length_map]
        walk_at "ev"
        refine ⟨_, _, _, tl, _, rfl, thr cs, SqL.of ty, by omega, by omega, by omega, (mixF_bd _ _ _).1, fun o => ?_⟩
        walk_at "ev"
        refine ⟨d, .ref l, rfl, ?_, ?_⟩
        · have := DGet.k (k := Sum.inl p) dy
          rw [valV_snoc _ _ _ _ hno, if_pos rfl] at this
          exact this
        refine ⟨.inl ⟨rfl, _, SqL.of ly⟩, ?_⟩
        walk_at "ev"
        refine ⟨l, _, _, rfl, rfl, ly, by rw [List.length_map]; exact Nat.lt_of_le_of_lt (show xs.length ≤ 1000000 by omega) (show 1000000 < sizeLine by decide), ?_⟩
        walk_at "ev"
        have jy2 : HJ C_Cell C_Heap (upd Hy l (.lst (xs.map oV ++ [oV o]))) hp ca used born gs (F.set p.toNat (some (xs ++ fl0.drop k))) := jy.byList ly nlc nlg
        obtain ⟨_, fl1, _, _, _, _, e1, ⟨_, of1⟩⟩ := jy2.ce _ g hg
        rw [List.getElem?_set_self (by rw [sh.1]; exact hpc)] at e1
        cases e1
        have nlf : l ≠ g.2 := (nlg _ g hg).symm
        have hlen : ((xs ++ fl0.drop k).map oV).length = fl0.length := by rw [List.length_map, List.length_append, List.length_drop, hxl]; omega
        refine ⟨g.2, _, _, k, rfl, rfl, of1, ?_, ?_⟩
        · rw [hlen, show (0 : Int) + ((k : Nat) : Int) = ((k : Nat) : Int) from by omega]
          exact ixN_nat hkf
        rw [show ((xs ++ fl0.drop k).map oV).set k (oV o) = ((xs ++ [o]) ++ fl0.drop (k + 1)).map oV from by
          have := set_mid xs fl0 o (by omega)
          rw [hxl] at this
          exact this]
        have jy3 := jy2.put (fl' := (xs ++ [o]) ++ fl0.drop (k + 1)) hg
        rw [List.set_set] at jy3
        walk_at "ev"
        refine ⟨xs ++ [o], _, _, _, rfl, by rw [List.length_append, hxl]; rfl, same_own (same_own sy nl0) (fr _ g hg), ?_, ?_, ?_, jy3, dsy.mv (fun _ _ => rfl) fun l' ys hk' h1 h2 h => ?_⟩
        · rw [upd_ne (ntf _ g hg).symm, upd_ne ntl]; exact ty
        · rw [upd_ne (ne_of (H := upd Hy l (.lst (xs.map oV ++ [oV o]))) ((upd_ne ndl).trans dy) of1 (fun z => by cases z)), upd_ne ndl]; exact dy
        · rw [upd_ne nlf, upd_same, List.map_append]; rfl
        · obtain ⟨kk, hkk⟩ := hk'
          rw [upd_ne (h2 _ g hg).symm, upd_ne (nlk l' ⟨kk, hkk⟩ (ds.mem hkk))]; exact h
      · rintro σ Hy ⟨xs, z7, z8, z9, rfl, hxl, sy, ty, dy, ly, jy, dsy⟩
        have e1 : xs ++ fl0.drop (manyF c).toNat = xs := by rw [List.drop_eq_nil_of_le (by omega), List.append_nil]
        rw [e1] at jy
        have hFl : p.toNat < F.length := by rw [sh.1]; exact hpc
        have fp : KB.fat (F.set p.toNat (some xs)) p = some xs := by
          unfold KB.fat
          rw [if_pos hp0, List.getElem?_set_self hFl]; rfl
        refine ⟨hil, sy, ty, kvs ++ [(Sum.inl p, .ref l)], F.set p.toNat (some xs), _, _, _, _, _, _, rfl, dy, jy, sh.set hc hlf hxl, ?_⟩
        rw [take_snoc hp']
        refine (dsy.mv (fun q' hq' => fat_set_ne fun z => nin ?_) fun _ _ _ _ _ h => h).app ⟨⟨l, xs, rfl, fp, ly, nlc, nlg⟩, trivial⟩
        rw [z, epn] at hq'
        exact hq'
    · rintro σ Hx ⟨hi, sm, htl', kvs, F, y3, y5, y6, y7, y8, y9, rfl, hd', j, sh, ds⟩
      rw [List.length_map, List.take_length] at ds
      walk_at "ev"
      exact q d kvs F Hx nd0 sm hd' j sh ds
end
theorem Rd.same {H H' : Hp} {a : Addr} {u : HO} (s : Same H H') (h : Rd H a u) : Rd H' a u := by
  rcases h with h | ⟨o, h⟩
  · exact .inl (s _ _ h)
  · exact .inr ⟨o, s _ _ h⟩
def S_law (K : PySem.W.Frag) : Sp := fun vs H Q E => ∃ a, vs = [.ref a] ∧ ∃ ns : List Int, SqL K H a (ns.map V.int) ∧ ns.length ≤ 63 ∧ ∀ H', Q (.bl true) H'
theorem fat_thr {cs : List Int} {F : KB.Fd} (sh : Shp cs F) (p : Int) : (p ∈ thr cs ∧ ∃ fl, KB.fat F p = some fl ∧ fl.length ≤ 8) ∨ (p ∉ thr cs ∧ KB.fat F p = none) := by
  by_cases h0 : 0 ≤ p
  · by_cases hl : p.toNat < cs.length
    · have hc : cs[p.toNat]? = some cs[p.toNat] := List.getElem?_eq_getElem hl
      cases hlf : leftF cs[p.toNat] with
      | true =>
        obtain ⟨fl, e1, e2⟩ := (sh.2 _ _ hc).2 hlf
        have := manyF_bd cs[p.toNat]
        refine .inl ⟨thr_mem.mpr ⟨_, h0, hc, hlf⟩, fl, ?_, by omega⟩
        unfold KB.fat
        rw [if_pos h0, e1]; rfl
      | false =>
        refine .inr ⟨fun hm => ?_, ?_⟩
        · obtain ⟨c, _, hc', hl'⟩ := thr_mem.mp hm
          rw [hc] at hc'; cases hc'
          rw [hlf] at hl'; cases hl'
        · unfold KB.fat
          rw [if_pos h0, (sh.2 _ _ hc).1 hlf]; rfl
    · refine .inr ⟨fun hm => ?_, ?_⟩
      · obtain ⟨c, _, hc', _⟩ := thr_mem.mp hm
        exact hl (List.getElem?_eq_some_iff.mp hc').1
      · unfold KB.fat
        rw [if_pos h0, List.getElem?_eq_none_iff.mpr (by rw [sh.1]; omega)]; rfl
  · refine .inr ⟨fun hm => ?_, ?_⟩
    · obtain ⟨c, h, _⟩ := thr_mem.mp hm; exact h0 h
    · unfold KB.fat
      rw [if_neg h0]
theorem sum_le (xs : List Nat) (b : Nat) : (∀ x ∈ xs, x ≤ b) → xs.sum ≤ xs.length * b := by
  induction xs with
  | nil => intro _; simp
  | cons x xs ih =>
    intro h
    have h1 := h x (by simp)
    have h2 := ih fun y hy => h y (by simp [hy])
    rw [List.sum_cons, List.length_cons, Nat.succ_mul]
    omega
theorem flat_le {α β : Type} (f : α → List β) (b : Nat) : ∀ xs : List α, (∀ x ∈ xs, (f x).length ≤ b) → (xs.flatMap f).length ≤ xs.length * b
  | [], _ => by simp
  | x :: xs, h => by
    have h1 := h x (by simp)
    have h2 := flat_le f b xs fun y hy => h y (by simp [hy])
    rw [List.flatMap_cons, List.length_append, List.length_cons, Nat.succ_mul]
    omega
theorem few_of {cs : List Int} {F : KB.Fd} {R : KB.Rw} (sh : Shp cs F) (hl : cs.length ≤ 40) (h6 : R.length ≤ 6) (h9 : ∀ x ∈ R, x.length ≤ 9) : Few F R := by
  have hF : F.length ≤ 40 := by rw [sh.1]; exact hl
  have hg : ∀ p fl, KB.fat F p = some fl → fl.length ≤ 8 := fun p fl h => by
    rcases fat_thr sh p with ⟨_, fl', e, e2⟩ | ⟨_, e⟩
    · rw [h] at e; cases e; exact e2
    · rw [h] at e; cases e
  refine ⟨by omega, fun p fl h => Nat.le_trans (hg p fl h) (by decide), by omega, fun x hx => Nat.le_trans (h9 x hx) (by decide), ?_⟩
  have h1 : (KB.q0 F 0 R).length ≤ R.length * 9 := by
    have := flat_le (fun x : List (Option Int) × Nat => KB.onw F [(x.2 : Int)] 0 x.1) 9 (R.zipIdx 0) fun x hx => by
      obtain ⟨y, m⟩ := x
      have hm := (List.mem_zipIdx_iff_getElem?.mp hx)
      exact Nat.le_trans KB.onw_len (h9 _ (List.mem_of_getElem? hm))
    rw [List.length_zipIdx] at this
    exact this
  have h2 : KB.togo F [] ≤ F.length * 8 := by
    unfold KB.togo
    have := sum_le ((F.zipIdx).map fun x => if ((x.2 : Nat) : Int) ∈ ([] : List (Int × List Int)).map (·.1) then 0 else KB.wgt x.1) 8 fun y hy => by
      obtain ⟨⟨x, m⟩, hx, rfl⟩ := List.mem_map.mp hy
      simp only [List.map_nil, List.not_mem_nil, ↓reduceIte]
      have hm := (List.mem_zipIdx_iff_getElem?.mp hx)
      cases x with
      | none => exact Nat.zero_le _
      | some fl =>
        have : KB.fat F (m : Int) = some fl := by rw [fat_nat, hm]; rfl
        exact hg _ fl this
    rw [List.length_map, List.length_zipIdx] at this
    exact this
  unfold KB.total
  omega
theorem cut_ints (ns : List Int) : ∃ cs : List Int, cutV (ns.map V.int) (some 2) (some 42) = cs.map V.int ∧ cs.length ≤ 40 := by
  refine ⟨(ns.drop (HT.sIx (ns.map V.int).length 0 (some 2))).take (HT.sIx (ns.map V.int).length (ns.map V.int).length (some 42) - HT.sIx (ns.map V.int).length 0 (some 2)), ?_, ?_⟩
  · unfold cutV
    rw [← List.map_drop, ← List.map_take]
  · rw [List.length_take, List.length_drop]
    have h1 := HT.sIx_nat (ns.map V.int).length 0 2
    have h2 := HT.sIx_nat (ns.map V.int).length (ns.map V.int).length 42
    rw [show ((2 : Nat) : Int) = 2 from rfl] at h1
    rw [show ((42 : Nat) : Int) = 42 from rfl] at h2
    rw [h1, h2]
    omega
theorem rd_of {H : Hp} : ∀ {R : KB.Rw} {ys : List V}, ys.length = R.length → (∀ (i : Nat) y, ys[i]? = some y → ∃ l r, y = .ref l ∧ R[i]? = some r ∧ H l = some (.lst (r.map oV))) → ∃ hs, ys = hs.map V.ref ∧ RD H hs R
  | [], [], _, _ => ⟨[], rfl, trivial⟩
  | [], _ :: _, h, _ => by simp at h
  | _ :: _, [], h, _ => by simp at h
  | r :: R, y :: ys, hl, h => by
    obtain ⟨l, r', rfl, e1, e2⟩ := h 0 y rfl
    have : r = r' := by simpa using e1
    subst this
    obtain ⟨hs, rfl, rd⟩ := rd_of (R := R) (ys := ys) (by simpa using hl) fun i y hy => by
      obtain ⟨l, r, e, e1, e2⟩ := h (i + 1) y (by simpa using hy)
      exact ⟨l, r, e, by simpa using e1, e2⟩
    exact ⟨l :: hs, rfl, e2, rd⟩
theorem RD.at {H : Hp} : ∀ {as : List Addr} {R : KB.Rw} {i : Nat} {a : Addr}, RD H as R → as[i]? = some a → ∃ r, R[i]? = some r ∧ H a = some (.lst (r.map oV))
  | [], _, _, _, _, e => by simp at e
  | _ :: _, [], _, _, h, _ => h.elim
  | _ :: _, r :: _, 0, _, ⟨h1, _⟩, e => by cases e; exact ⟨r, rfl, h1⟩
  | _ :: _, _ :: _, i + 1, _, ⟨_, h3⟩, e => RD.at (i := i) h3 e
theorem RD.same {H H' : Hp} {as : List Addr} {R : KB.Rw} (h : RD H as R) (s : Same H H') : RD H' as R := h.keep fun a _ o e => s a o e
section
variable {K : PySem.W.Frag} {C_Cell C_Heap C_Full : Addr} {H : Hp} {Q : VK} {E : XK} {n : St → Hp → Prop} {bk ct : St → Hp → Prop}
theorem cell_at_rd {hp : Addr} {pl : Option Int} {F : KB.Fd} (T : TxC K C_Cell C_Heap) (q : HV C_Cell C_Heap H hp F ∧ (pl.bind (KB.fat F) = none → Q .non H) ∧ (∀ fl p fa b u t l, pl.bind (KB.fat F) = some fl → CellO C_Cell H p fa b u t l (fl.map oV) → Q (.ref p) H)) : rd_cell_at K ⟨n, Q, bk, ct⟩ [some (.ref hp), some (oV pl)] H := cell_at_rd0 T q.1 q.2.1 q.2.2
theorem onward_rd {hp a wt : Addr} {F : KB.Fd} {ps : List (Option Int)} {w : List Int} (q : HV C_Cell C_Heap H hp F ∧ SqL K H a (ps.map oV) ∧ SqT K H wt (w.map V.int) ∧ w ≠ [] ∧ w.length ≤ 100000 ∧ ps.length ≤ 1000 ∧
    ∀ l ts H', H l = none → Same H H' → H' l = some (.lst (ts.map V.ref)) → QAt H' ts (KB.onw F w 0 ps) → Q (.ref l) H') : rd_onward K (S_cellv C_Cell C_Heap) ⟨n, Q, bk, ct⟩ [some (.ref hp), some (.ref a), some (.ref wt)] H := by
  obtain ⟨h1, h2, h3, h4, h5, h6, h7⟩ := q
  exact onward_rd0 h1 h2 h3 h4 h5 h6 (fun s => seqT s h3) h7
theorem reached_rd {hp ra : Addr} {F : KB.Fd} {rs : List Addr} {R : KB.Rw} {v2 v3 v4 v5 v6 v7 v8 : Option V} (T : TxC K C_Cell C_Heap) (q : HV C_Cell C_Heap H hp F ∧ SqL K H ra (rs.map V.ref) ∧ RwAt K H rs R ∧ Few F R ∧
    ∀ l ts q qs H', KB.Bfs F R q q.length qs → H l = none → Same H H' → H' l = some (.lst (ts.map V.ref)) → QAt H' ts qs → Q (.ref l) H') : rd_reached K (S_onward K C_Cell C_Heap) ⟨n, Q, bk, ct⟩ [some (.ref hp), some (.ref ra), v2, v3, v4, v5, v6, v7, v8] H := reached_rd0 T q.1 q.2.1 q.2.2.1 q.2.2.2.1 q.2.2.2.2
theorem _law_mixed_rd {c a b : Int} {x : Option V} (q : 0 ≤ a ∧ a ≤ 1000 ∧ 0 ≤ b ∧ b ≤ 1000 ∧ Q (.int (mixF c a b)) H) : rd__law_mixed ⟨n, Q, bk, ct⟩ [some (.int c), some (.int a), some (.int b), x] H := _law_mixed_rd0 q.1 q.2.1 q.2.2.1 q.2.2.2.1 q.2.2.2.2
theorem _law_slot_rd {d total : Int} (q : 0 ≤ total ∧ ∀ x : Option Int, Q (oV x) H) : rd__law_slot ⟨n, Q, bk, ct⟩ [some (.int d), some (.int total)] H := _law_slot_rd0 q.1 q.2
theorem _law_rows_rd {f s total : Int} {x3 x4 x5 x6 : Option V} (q : 0 ≤ total ∧ ∀ ra rs R H', H ra = none → Same H H' → H' ra = some (.lst (rs.map V.ref)) → RD H' rs R → 1 ≤ R.length → R.length ≤ 6 → (∀ x ∈ R, x.length ≤ 9) → Q (.ref ra) H') :
    rd__law_rows K S_mix S_slot ⟨n, Q, bk, ct⟩ [some (.int f), some (.int s), some (.int total), x3, x4, x5, x6] H := _law_rows_rd0 q.1 q.2
theorem _law_heap_rd {a : Addr} {cs : List Int} {x1 x2 x3 : Option V} (T : TxC K C_Cell C_Heap) (q : SqL K H a (cs.map V.int) ∧ cs.length ≤ 40 ∧ ∀ hp ca used born gs H', H hp = none → H ca = none → Same H H' → HJ C_Cell C_Heap H' hp ca used born gs (cs.map cL) → (∀ (i : Nat) g, gs[i]? = some (some g) → H g.2 = none) → Q (.ref hp) H') :
    rd__law_heap K C_Heap (S_Heap_init C_Heap) (S_Heap_back C_Cell C_Heap) (S_Heap_make K C_Cell C_Heap C_Full) S_left S_many ⟨n, Q, bk, ct⟩ [some (.ref a), x1, x2, x3] H := _law_heap_rd0 T q.1 q.2.1 q.2.2
theorem _law_links_rd {hp la : Addr} {cs : List Int} {H0 : Hp} {ca : Addr} {used born : Int} {gs : List (Option (Addr × Addr))} {x2 x3 x4 x5 x6 x7 x8 x9 : Option V} (T : TxC K C_Cell C_Heap) (q : SqL K H0 la (cs.map V.int) ∧ cs.length ≤ 40 ∧ Same H0 H ∧ HJ C_Cell C_Heap H hp ca used born gs (cs.map cL) ∧ (∀ (i : Nat) g, gs[i]? = some (some g) → H0 g.2 = none) ∧
    ∀ d kvs F H', H0 d = none → Same H0 H' → H' d = some (.dK kvs) → HJ C_Cell C_Heap H' hp ca used born gs F → Shp cs F → DS H' ca gs F kvs (thr cs) → Q (.ref d) H') :
    rd__law_links K S_left (S_link K) S_many S_mix ⟨n, Q, bk, ct⟩ [some (.ref hp), some (.ref la), x2, x3, x4, x5, x6, x7, x8, x9] H := by
  obtain ⟨h1, h2, h3, h4, h5, h6⟩ := q
  exact _law_links_rd0 T h1 h2 h3 h4 h5 h6
end
theorem bfs_nodup {F : KB.Fd} {R : KB.Rw} {q l : List (Int × List Int)} {k : Nat} (b : KB.Bfs F R q k l) : (l.map (·.1)).Nodup := by
  induction b with
  | start => exact List.nodup_nil
  | old _ _ _ ih => exact ih
  | @new q k l p w fl b hq hp hf ih =>
    rw [List.map_append]
    exact List.nodup_append.mpr ⟨ih, List.pairwise_singleton _ _, fun x hx y hy e => by
      rw [List.map_singleton, List.mem_singleton] at hy
      subst hy; subst e
      exact hp hx⟩
theorem val_mem : ∀ {kvs : List (Key × V)} {ks : List Int}, kvs.map (·.1) = ks.map Sum.inl → ∀ p, (valV kvs (Sum.inl p)).isSome = decide (p ∈ ks)
  | [], [], _, p => by simp [valV]
  | [], _ :: _, e, _ => by simp at e
  | _ :: _, [], e, _ => by simp at e
  | kv :: kvs, k :: ks, e, p => by
    obtain ⟨e1, e2⟩ := List.cons.inj (show kv.1 :: kvs.map (·.1) = Sum.inl k :: ks.map Sum.inl from e)
    by_cases h : k = p
    · subst h
      rw [valV_pos e1]
      simp
    · rw [valV_neg (by rw [e1]; exact fun z => h (Sum.inl.inj z)), val_mem e2 p]
      have : ¬ p = k := fun z => h z.symm
      simp [this]
theorem DS.keys {H : Hp} {ca : Addr} {gs : List (Option (Addr × Addr))} {F : KB.Fd} : ∀ {ks : List (Key × V)} {ps : List Int}, DS H ca gs F ks ps → ks.map (·.1) = ps.map Sum.inl
  | [], [], _ => rfl
  | [], _ :: _, h => h.elim
  | _ :: _, [], h => h.elim
  | _ :: _, _ :: _, ⟨⟨l, fl, e, _⟩, h3⟩ => by rw [List.map_cons, List.map_cons, DS.keys h3, e]
theorem DS.has {H : Hp} {ca : Addr} {gs : List (Option (Addr × Addr))} {F : KB.Fd} {kvs : List (Key × V)} {cs : List Int} (ds : DS H ca gs F kvs (thr cs)) (sh : Shp cs F) (x : Option Int) : hasV kvs (oV x) = some (x.bind (KB.fat F)).isSome := by
  cases x with
  | none => rfl
  | some p =>
    show some (valV kvs (Sum.inl p)).isSome = _
    rw [val_mem ds.keys p]
    rcases fat_thr sh p with ⟨hm, fl, e, _⟩ | ⟨hn, e⟩
    · rw [show (some p).bind (KB.fat F) = some fl from e]; simp [hm]
    · rw [show (some p).bind (KB.fat F) = none from e]; simp [hn]
abbrev Qk := List ((Int × List Int) × List Int)
abbrev kLt (a b : List Int) : Prop := HT.lexLt a b = true
def onk1 (F : KB.Fd) (w : List Int) (mk : Nat → List Int) (x : Option Int × Nat) : Option ((Int × List Int) × List Int) := (KB.onw1 F w x).map fun y => (y, mk x.2)
def onk (F : KB.Fd) (w : List Int) (mk : Nat → List Int) (n : Nat) (ps : List (Option Int)) : Qk := (ps.zipIdx n).filterMap (onk1 F w mk)
theorem onk_fst (F : KB.Fd) (w : List Int) (mk : Nat → List Int) (n : Nat) (ps : List (Option Int)) : (onk F w mk n ps).map (·.1) = KB.onw F w n ps := by
  unfold onk KB.onw
  rw [List.map_filterMap]
  congr 1
  funext x
  unfold onk1
  cases KB.onw1 F w x <;> rfl
theorem mem_onk {F : KB.Fd} {w : List Int} {mk : Nat → List Int} {ps : List (Option Int)} {z : (Int × List Int) × List Int} (h : z ∈ onk F w mk 0 ps) : ∃ k : Nat, ps[k]? = some (some z.1.1) ∧ z.1.2 = w ++ [(k : Int)] ∧ z.2 = mk k ∧ (KB.fat F z.1.1).isSome = true := by
  obtain ⟨⟨x, m⟩, hm, e⟩ := List.mem_filterMap.mp h
  have hk2 := List.mem_zipIdx_iff_getElem?.mp hm
  unfold onk1 at e
  obtain ⟨y, hy, rfl⟩ := Option.map_eq_some_iff.mp e
  unfold KB.onw1 at hy
  cases x with
  | none => cases hy
  | some q =>
    simp only at hy
    split at hy
    · rename_i hs
      cases hy
      exact ⟨m, hk2, rfl, rfl, hs⟩
    · cases hy
theorem onk_mem {F : KB.Fd} {w : List Int} {mk : Nat → List Int} {ps : List (Option Int)} {k : Nat} {q : Int} (h : ps[k]? = some (some q)) (hf : (KB.fat F q).isSome = true) : ((q, w ++ [(k : Int)]), mk k) ∈ onk F w mk 0 ps := by
  refine List.mem_filterMap.mpr ⟨(some q, k), List.mem_zipIdx_iff_getElem?.mpr h, ?_⟩
  unfold onk1 KB.onw1
  simp only [hf, ↓reduceIte]
  rfl
theorem onk_rise {F : KB.Fd} {w : List Int} {mk : Nat → List Int} (hmk : ∀ i j, i < j → kLt (mk i) (mk j)) (ps : List (Option Int)) (n : Nat) : ((onk F w mk n ps).map (·.2)).Pairwise kLt := by
  induction ps generalizing n with
  | nil => exact List.Pairwise.nil
  | cons x ps ih =>
    unfold onk
    rw [List.zipIdx_cons, List.filterMap_cons]
    cases e : onk1 F w mk (x, n) with
    | none => exact ih (n + 1)
    | some y =>
      have ey : y.2 = mk n := by
        unfold onk1 at e
        obtain ⟨_, _, rfl⟩ := Option.map_eq_some_iff.mp e
        rfl
      refine List.pairwise_cons.mpr ⟨fun κ hκ => ?_, ih (n + 1)⟩
      obtain ⟨z, hz, rfl⟩ := List.mem_map.mp hκ
      obtain ⟨⟨x', m⟩, hm, e2⟩ := List.mem_filterMap.mp hz
      have hk1 := (List.mem_zipIdx_iff_le_and_getElem?_sub.mp hm).1
      unfold onk1 at e2
      obtain ⟨_, _, rfl⟩ := Option.map_eq_some_iff.mp e2
      show kLt y.2 (mk m)
      rw [ey]
      exact hmk n m (by simp only at hk1; omega)
def q0k (F : KB.Fd) (n : Nat) (R : KB.Rw) : Qk := (R.zipIdx n).flatMap fun x => onk F [(x.2 : Int)] (fun s => [-1, (x.2 : Int), (s : Int)]) 0 x.1
theorem q0k_fst (F : KB.Fd) (R : KB.Rw) (n : Nat) : (q0k F n R).map (·.1) = KB.q0 F n R := by
  unfold q0k KB.q0
  rw [List.map_flatMap]
  congr 1
  funext x
  exact onk_fst _ _ _ _ _
theorem kLt3 {a b c a' b' c' : Int} : kLt [a, b, c] [a', b', c'] ↔ a < a' ∨ (a = a' ∧ (b < b' ∨ (b = b' ∧ c < c'))) := by
  unfold kLt
  simp only [HT.lexLt]
  by_cases h1 : a = a'
  · by_cases h2 : b = b'
    · by_cases h3 : c = c'
      · simp [h1, h2, h3]
      · simp [h1, h2, h3]
    · simp [h1, h2]
  · simp [h1]
theorem q0k_rise (F : KB.Fd) : ∀ (R : KB.Rw) (n : Nat), ((q0k F n R).map (·.2)).Pairwise kLt
  | [], _ => List.Pairwise.nil
  | row :: R, n => by
    have e : q0k F n (row :: R) = onk F [(n : Int)] (fun s => [-1, (n : Int), (s : Int)]) 0 row ++ q0k F (n + 1) R := by
      unfold q0k
      rw [List.zipIdx_cons, List.flatMap_cons]
    rw [e, List.map_append]
    refine List.pairwise_append.mpr ⟨onk_rise (fun i j h => kLt3.mpr (.inr ⟨rfl, .inr ⟨rfl, by omega⟩⟩)) row 0, q0k_rise F R (n + 1), fun a ha b hb => ?_⟩
    obtain ⟨x, hx, rfl⟩ := List.mem_map.mp ha
    obtain ⟨y, hy, rfl⟩ := List.mem_map.mp hb
    obtain ⟨k, _, _, e1, _⟩ := mem_onk hx
    obtain ⟨⟨r, m⟩, hm, hy⟩ := List.mem_flatMap.mp hy
    obtain ⟨k', _, _, e2, _⟩ := mem_onk hy
    have hk1 := (List.mem_zipIdx_iff_le_and_getElem?_sub.mp hm).1
    rw [e1, e2]
    exact kLt3.mpr (.inr ⟨rfl, .inl (by simp only at hk1; omega)⟩)
def KeyAt (F : KB.Fd) (R : KB.Rw) (l : List (Int × List Int)) (n : Nat) (x : Int × List Int) (κ : List Int) : Prop :=
  (∃ (r s : Nat) (row : List (Option Int)), x.2 = [(r : Int), (s : Int)] ∧ κ = [-1, (r : Int), (s : Int)] ∧ R[r]? = some row ∧ row[s]? = some (some x.1)) ∨
  (∃ (m f : Nat) (y : Int × List Int) (fl : List (Option Int)), m < n ∧ l[m]? = some y ∧ x.2 = y.2 ++ [(f : Int)] ∧ KB.fat F y.1 = some fl ∧ fl[f]? = some (some x.1) ∧ κ = [(m : Int), (f : Int), 0])
theorem KeyAt.up {F : KB.Fd} {R : KB.Rw} {l : List (Int × List Int)} {n n' : Nat} {x : Int × List Int} {κ : List Int} (h : KeyAt F R l n x κ) (e : n ≤ n') (z : Int × List Int) : KeyAt F R (l ++ [z]) n' x κ := by
  rcases h with h | ⟨m, f, y, fl, h1, h2, h3⟩
  · exact .inl h
  · exact .inr ⟨m, f, y, fl, by omega, by rw [List.getElem?_append_left (List.getElem?_eq_some_iff.mp h2).1]; exact h2, h3⟩
theorem KeyAt.lt {F : KB.Fd} {R : KB.Rw} {l : List (Int × List Int)} {n f : Nat} {x : Int × List Int} {κ : List Int} (h : KeyAt F R l n x κ) : kLt κ [(n : Int), (f : Int), 0] := by
  rcases h with ⟨r, s, row, _, rfl, _⟩ | ⟨m, g, y, fl, h1, _, _, _, _, rfl⟩
  · exact kLt3.mpr (.inl (by omega))
  · exact kLt3.mpr (.inl (by omega))
structure Ord (F : KB.Fd) (R : KB.Rw) (q : List (Int × List Int)) (k : Nat) (l : List (Int × List Int)) (qk lk : Qk) : Prop where
  eq : qk.map (·.1) = q
  el : lk.map (·.1) = l
  up : (qk.map (·.2)).Pairwise kLt
  ka : ∀ z ∈ qk, KeyAt F R l l.length z.1 z.2
  la : ∀ (i : Nat) z, lk[i]? = some z → KeyAt F R l i z.1 z.2
  sb : lk.Sublist (qk.take k)
  lst : ∀ (j : Nat) z, j < k → qk[j]? = some z → ∃ y ∈ lk, y.1.1 = z.1.1 ∧ (y.2 = z.2 ∨ kLt y.2 z.2)
  rw : ∀ (r s : Nat) row p, R[r]? = some row → row[s]? = some (some p) → (KB.fat F p).isSome = true → ∃ z ∈ qk, z.1.1 = p ∧ z.2 = [-1, (r : Int), (s : Int)]
  fd : ∀ (i f : Nat) x fl p, l[i]? = some x → KB.fat F x.1 = some fl → fl[f]? = some (some p) → (KB.fat F p).isSome = true → ∃ z ∈ qk, z.1.1 = p ∧ z.2 = [(i : Int), (f : Int), 0]
theorem bfs_ord {F : KB.Fd} {R : KB.Rw} {q l : List (Int × List Int)} {k : Nat} (b : KB.Bfs F R q k l) : ∃ qk lk, Ord F R q k l qk lk := by
  induction b with
  | start =>
    refine ⟨q0k F 0 R, [], q0k_fst F R 0, rfl, q0k_rise F R 0, fun z hz => ?_, fun i z h => by simp at h, List.nil_sublist _, fun j z h => absurd h (Nat.not_lt_zero _), fun r s row p h1 h2 h3 => ?_, fun i f x fl p h => by simp at h⟩
    · obtain ⟨⟨row, n⟩, hm, hz⟩ := List.mem_flatMap.mp hz
      obtain ⟨s, h1, h2, h3, _⟩ := mem_onk hz
      exact .inl ⟨n, s, row, h2, h3, List.mem_zipIdx_iff_getElem?.mp hm, h1⟩
    · exact ⟨_, List.mem_flatMap.mpr ⟨(row, r), List.mem_zipIdx_iff_getElem?.mpr h1, onk_mem h2 h3⟩, rfl, rfl⟩
  | @old q k l p w b hq hp ih =>
    obtain ⟨qk, lk, o⟩ := ih
    obtain ⟨z, hz, ez⟩ : ∃ z, qk[k]? = some z ∧ z.1 = (p, w) := by
      rw [← o.eq, List.getElem?_map] at hq
      exact Option.map_eq_some_iff.mp hq
    refine ⟨qk, lk, o.eq, o.el, o.up, o.ka, o.la, o.sb.trans (List.take_sublist_take_left (Nat.le_succ k)), fun j y hj hy => ?_, o.rw, o.fd⟩
    by_cases e : j = k
    · subst e
      rw [hz] at hy
      cases hy
      rw [← o.el, List.map_map] at hp
      obtain ⟨y, hy, ey⟩ := List.mem_map.mp hp
      refine ⟨y, hy, by rw [ez]; exact ey, .inr ?_⟩
      obtain ⟨i, hi, e2⟩ := List.getElem_of_mem (o.sb.subset hy)
      have hij : i < j := by rw [List.length_take] at hi; omega
      have hjl : j < qk.length := (List.getElem?_eq_some_iff.mp hz).1
      have := List.pairwise_iff_getElem.mp o.up i j (by rw [List.length_map]; omega) (by rw [List.length_map]; omega) hij
      rw [List.getElem_map, List.getElem_map, (List.getElem?_eq_some_iff.mp hz).2] at this
      rw [List.getElem_take] at e2
      rw [e2] at this
      exact this
    · exact o.lst j y (by omega) hy
  | @new q k l p w fl b hq hp hf ih =>
    obtain ⟨qk, lk, o⟩ := ih
    obtain ⟨z, hz, ez⟩ : ∃ z, qk[k]? = some z ∧ z.1 = (p, w) := by
      rw [← o.eq, List.getElem?_map] at hq
      exact Option.map_eq_some_iff.mp hq
    have hkl : k < qk.length := (List.getElem?_eq_some_iff.mp hz).1
    have hll : lk.length = l.length := by rw [← o.el, List.length_map]
    have zm := List.mem_of_getElem? hz
    refine ⟨qk ++ onk F w (fun f => [(l.length : Int), (f : Int), 0]) 0 fl, lk ++ [z], ?_, ?_, ?_, fun y hy => ?_, fun i y hy => ?_, ?_, fun j y hj hy => ?_, fun r s row p' h1 h2 h3 => ?_, fun i f x fl' p' h1 h2 h3 h4 => ?_⟩
    · rw [List.map_append, o.eq, onk_fst]
    · rw [List.map_append, o.el, List.map_singleton, ez]
    · rw [List.map_append]
      refine List.pairwise_append.mpr ⟨o.up, onk_rise (fun i j h => kLt3.mpr (.inr ⟨rfl, .inl (by omega)⟩)) fl 0, fun a ha c hc => ?_⟩
      obtain ⟨x, hx, rfl⟩ := List.mem_map.mp ha
      obtain ⟨y, hy, rfl⟩ := List.mem_map.mp hc
      obtain ⟨f, _, _, e2, _⟩ := mem_onk hy
      rw [e2]
      exact (o.ka x hx).lt
    · rcases List.mem_append.mp hy with hy | hy
      · exact (o.ka y hy).up (by rw [List.length_append]; omega) _
      · obtain ⟨f, h1, h2, h3, _⟩ := mem_onk hy
        exact .inr ⟨l.length, f, (p, w), fl, by rw [List.length_append]; simp, by simp, h2, hf, h1, h3⟩
    · by_cases e : i < lk.length
      · rw [List.getElem?_append_left e] at hy
        exact (o.la i y hy).up (Nat.le_refl _) _
      · have ei : i = lk.length := by
          have := (List.getElem?_eq_some_iff.mp hy).1
          rw [List.length_append, List.length_singleton] at this
          omega
        rw [ei, List.getElem?_append_right (Nat.le_refl _), Nat.sub_self] at hy
        cases hy
        rw [ei, hll]
        exact (o.ka z zm).up (Nat.le_refl _) _
    · rw [List.take_append_of_le_length (by omega), List.take_succ, hz]
      exact o.sb.append (List.Sublist.refl _)
    · by_cases e : j = k
      · subst e
        rw [List.getElem?_append_left hkl, hz] at hy
        cases hy
        exact ⟨z, by simp, rfl, .inl rfl⟩
      · rw [List.getElem?_append_left (by omega)] at hy
        obtain ⟨x, hx, h1, h2⟩ := o.lst j y (by omega) hy
        exact ⟨x, by simp [hx], h1, h2⟩
    · obtain ⟨x, hx, h4⟩ := o.rw r s row p' h1 h2 h3
      exact ⟨x, by simp [hx], h4⟩
    · by_cases e : i < l.length
      · rw [List.getElem?_append_left e] at h1
        obtain ⟨x', hx, h5⟩ := o.fd i f x fl' p' h1 h2 h3 h4
        exact ⟨x', by simp [hx], h5⟩
      · have ei : i = l.length := by
          have := (List.getElem?_eq_some_iff.mp h1).1
          rw [List.length_append, List.length_singleton] at this
          omega
        rw [ei, List.getElem?_append_right (Nat.le_refl _), Nat.sub_self] at h1
        cases h1
        rw [hf] at h2
        cases h2
        exact ⟨_, List.mem_append.mpr (.inr (onk_mem h3 h4)), rfl, by rw [ei]⟩
theorem le_self : ∀ xs : List Int, HT.lexLe xs xs = true
  | [] => rfl
  | x :: xs => by rw [HT.lexLe_cons, if_pos rfl]; exact le_self xs
theorem le_of_lt : ∀ {xs ys : List Int}, kLt xs ys → HT.lexLe xs ys = true
  | [], [], h => by cases h
  | [], _ :: _, _ => rfl
  | _ :: _, [], h => by cases h
  | x :: xs, y :: ys, h => by
    unfold kLt at h
    rw [HT.lexLt_cons] at h
    rw [HT.lexLe_cons]
    by_cases e : x = y
    · rw [if_pos e] at h ⊢
      exact le_of_lt h
    · rw [if_neg e] at h ⊢
      have := of_decide_eq_true h
      exact decide_eq_true (by omega)
theorem nle_of_lt : ∀ {xs ys : List Int}, kLt ys xs → HT.lexLe xs ys = false
  | [], [], h => by cases h
  | [], _ :: _, h => by cases h
  | _ :: _, [], _ => rfl
  | x :: xs, y :: ys, h => by
    unfold kLt at h
    rw [HT.lexLt_cons] at h
    rw [HT.lexLe_cons]
    by_cases e : x = y
    · rw [if_pos e.symm] at h
      rw [if_pos e]
      exact nle_of_lt h
    · rw [if_neg (fun z => e z.symm)] at h
      rw [if_neg e]
      have := of_decide_eq_true h
      exact decide_eq_false (by omega)
structure Keys (F : KB.Fd) (R : KB.Rw) (l : List (Int × List Int)) (ks : List (List Int)) : Prop where
  ln : ks.length = l.length
  up : ks.Pairwise kLt
  ka : ∀ (i : Nat) x κ, l[i]? = some x → ks[i]? = some κ → KeyAt F R l i x κ
  rw : ∀ (r s : Nat) row p, R[r]? = some row → row[s]? = some (some p) → (KB.fat F p).isSome = true → ∃ i : Nat, ∃ x κ, l[i]? = some x ∧ x.1 = p ∧ ks[i]? = some κ ∧ HT.lexLe κ [-1, (r : Int), (s : Int)] = true
  fd : ∀ (i f : Nat) x fl p, l[i]? = some x → KB.fat F x.1 = some fl → fl[f]? = some (some p) → (KB.fat F p).isSome = true → ∃ j : Nat, ∃ y κ, l[j]? = some y ∧ y.1 = p ∧ ks[j]? = some κ ∧ HT.lexLe κ [(i : Int), (f : Int), 0] = true
theorem bfs_keys {F : KB.Fd} {R : KB.Rw} {q l : List (Int × List Int)} (b : KB.Bfs F R q q.length l) : ∃ ks, Keys F R l ks := by
  obtain ⟨qk, lk, o⟩ := bfs_ord b
  have hql : qk.length = q.length := by rw [← o.eq, List.length_map]
  have sub : lk.Sublist qk := by
    have := o.sb
    rwa [List.take_of_length_le (by omega)] at this
  have done : ∀ z ∈ qk, ∀ κ, z.2 = κ → ∃ i : Nat, ∃ x κ', l[i]? = some x ∧ x.1 = z.1.1 ∧ (lk.map (·.2))[i]? = some κ' ∧ HT.lexLe κ' κ = true := fun z hz κ e => by
    obtain ⟨j, hj, ej⟩ := List.getElem_of_mem hz
    obtain ⟨y, hy, h1, h2⟩ := o.lst j z (by omega) (by rw [List.getElem?_eq_getElem hj, ej])
    obtain ⟨i, hi, ei⟩ := List.getElem_of_mem hy
    have hi2 : lk[i]? = some y := by rw [List.getElem?_eq_getElem hi, ei]
    refine ⟨i, y.1, y.2, by rw [← o.el, List.getElem?_map, hi2]; rfl, h1, by rw [List.getElem?_map, hi2]; rfl, ?_⟩
    rcases h2 with h2 | h2
    · rw [h2, e]; exact le_self κ
    · rw [← e]; exact le_of_lt h2
  refine ⟨lk.map (·.2), by rw [List.length_map, ← o.el, List.length_map], o.up.sublist (sub.map _), fun i x κ hx hκ => ?_, fun r s row p h1 h2 h3 => ?_, fun i f x fl p h1 h2 h3 h4 => ?_⟩
  · rw [List.getElem?_map] at hκ
    obtain ⟨z, hz, rfl⟩ := Option.map_eq_some_iff.mp hκ
    rw [← o.el, List.getElem?_map, hz] at hx
    cases hx
    exact o.la i z hz
  · obtain ⟨z, hz, e1, e2⟩ := o.rw r s row p h1 h2 h3
    obtain ⟨i, x, κ, g1, g2, g3, g4⟩ := done z hz _ e2
    exact ⟨i, x, κ, g1, by rw [g2, e1], g3, g4⟩
  · obtain ⟨z, hz, e1, e2⟩ := o.fd i f x fl p h1 h2 h3 h4
    obtain ⟨i, x, κ, g1, g2, g3, g4⟩ := done z hz _ e2
    exact ⟨i, x, κ, g1, by rw [g2, e1], g3, g4⟩
theorem Keys.len {F : KB.Fd} {R : KB.Rw} {l : List (Int × List Int)} {ks : List (List Int)} (o : Keys F R l ks) (h2 : ∀ x ∈ l, 2 ≤ x.2.length) : ∀ (j i : Nat) x y, i ≤ j → l[i]? = some x → l[j]? = some y → x.2.length ≤ y.2.length := by
  intro j
  induction j using Nat.strongRecOn with
  | ind j ih =>
    intro i x y hij hx hy
    by_cases e : i = j
    · subst e
      rw [hx] at hy; cases hy; exact Nat.le_refl _
    · have hi := (List.getElem?_eq_some_iff.mp hx).1
      have hj := (List.getElem?_eq_some_iff.mp hy).1
      have hl := o.ln
      have kx : ks[i]? = some ks[i] := List.getElem?_eq_getElem (by omega)
      have ky : ks[j]? = some ks[j] := List.getElem?_eq_getElem (by omega)
      have lt := List.pairwise_iff_getElem.mp o.up i j (by omega) (by omega) (by omega)
      have a := o.ka i x _ hx kx
      have b := o.ka j y _ hy ky
      rcases a with ⟨r, s, row, e1, _⟩ | ⟨m, f, z, fl, h1, h3, h4, _, _, e1⟩
      · rw [e1]
        exact h2 y (List.mem_of_getElem? hy)
      · rcases b with ⟨r, s, row, _, e2, _⟩ | ⟨m', f', z', fl', h1', h3', h4', _, _, e2⟩
        · rw [e1, e2] at lt
          have := kLt3.mp lt
          omega
        · rw [e1, e2] at lt
          have := kLt3.mp lt
          have := ih m' h1' m z z' (by omega) h3 h3'
          rw [h4, h4', List.length_append, List.length_append]
          simpa using this
def wK (w : List Int) : List Key := w.map Sum.inl
theorem wK_tup (w : List Int) : (wK w).map kV = w.map V.int := by unfold wK; rw [List.map_map]; rfl
theorem wK_inj {w w' : List Int} (h : wK w = wK w') : w = w' := by
  unfold wK at h
  exact (List.map_inj_right (f := (Sum.inl : Int → Key)) (fun a b e => Sum.inl.inj e)).mp h
def nmF : Nat → List (Int × List Int) → List (List Key × V)
  | _, [] => []
  | n, x :: l => (wK x.2, .int n) :: nmF (n + 1) l
theorem nmF_app (x : Int × List Int) : ∀ (l : List (Int × List Int)) (n : Nat), nmF n (l ++ [x]) = nmF n l ++ [(wK x.2, .int ((n + l.length : Nat) : Int))]
  | [], n => rfl
  | y :: l, n => by
    show (wK y.2, V.int n) :: nmF (n + 1) (l ++ [x]) = (wK y.2, V.int n) :: (nmF (n + 1) l ++ _)
    rw [nmF_app x l (n + 1), List.length_cons, show n + 1 + l.length = n + (l.length + 1) from by omega]
theorem nmF_len : ∀ (l : List (Int × List Int)) (n : Nat), (nmF n l).length = l.length
  | [], _ => rfl
  | _ :: l, n => by show (nmF (n + 1) l).length + 1 = _; rw [nmF_len l (n + 1)]; rfl
theorem nmF_none : ∀ {l : List (Int × List Int)} {n : Nat} {w : List Int}, w ∉ l.map (·.2) → valV (nmF n l) (wK w) = none
  | [], _, _, _ => rfl
  | y :: l, n, w, h => by
    show valV ((wK y.2, V.int n) :: nmF (n + 1) l) (wK w) = none
    rw [valV_neg (fun z => h (by simp [wK_inj z]))]
    exact nmF_none fun z => h (by rw [List.map_cons]; exact List.mem_cons_of_mem _ z)
theorem nmF_val : ∀ {l : List (Int × List Int)} {n i : Nat} {x : Int × List Int}, (l.map (·.2)).Nodup → l[i]? = some x → valV (nmF n l) (wK x.2) = some (.int ((n + i : Nat) : Int))
  | [], _, _, _, _, h => by simp at h
  | y :: l, n, 0, x, _, h => by
    cases h
    show valV ((wK y.2, V.int n) :: nmF (n + 1) l) (wK y.2) = _
    rw [valV_pos rfl]; rfl
  | y :: l, n, i + 1, x, nd, h => by
    have h : l[i]? = some x := by simpa using h
    have nd := List.nodup_cons.mp nd
    show valV ((wK y.2, V.int n) :: nmF (n + 1) l) (wK x.2) = _
    rw [valV_neg (fun z => nd.1 (by show y.2 ∈ _; rw [wK_inj z]; exact List.mem_map.mpr ⟨x, List.mem_of_getElem? h, rfl⟩)), nmF_val nd.2 h, show n + 1 + i = n + (i + 1) from by omega]
def kyK (l : List (Int × List Int)) (tk : List Addr) : List (Key × V) := List.zipWith (fun x t => (Sum.inl x.1, .ref t)) l tk
theorem kyK_keys : ∀ {l : List (Int × List Int)} {tk : List Addr}, tk.length = l.length → (kyK l tk).map (·.1) = (l.map (·.1)).map Sum.inl
  | [], [], _ => rfl
  | [], _ :: _, h => by simp at h
  | _ :: _, [], h => by simp at h
  | x :: l, t :: tk, h => by
    show Sum.inl x.1 :: (kyK l tk).map (·.1) = _
    rw [kyK_keys (by simpa using h)]; rfl
theorem kyK_val : ∀ {l : List (Int × List Int)} {tk : List Addr} {i : Nat} {x : Int × List Int} {t : Addr}, (l.map (·.1)).Nodup → l[i]? = some x → tk[i]? = some t → valV (kyK l tk) (Sum.inl x.1) = some (.ref t)
  | [], _, _, _, _, _, h, _ => by simp at h
  | _ :: _, [], _, _, _, _, _, h => by simp at h
  | y :: l, s :: tk, 0, x, t, _, h, g => by
    cases h
    cases g
    show valV ((Sum.inl y.1, V.ref s) :: kyK l tk) (Sum.inl y.1) = _
    rw [valV_pos rfl]
  | y :: l, s :: tk, i + 1, x, t, nd, h, g => by
    have h : l[i]? = some x := by simpa using h
    have g : tk[i]? = some t := by simpa using g
    have nd := List.nodup_cons.mp nd
    show valV ((Sum.inl y.1, V.ref s) :: kyK l tk) (Sum.inl x.1) = _
    rw [valV_neg (fun z => nd.1 (by show y.1 ∈ _; rw [show y.1 = x.1 from Sum.inl.inj z]; exact List.mem_map.mpr ⟨x, List.mem_of_getElem? h, rfl⟩))]
    exact kyK_val nd.2 h g
theorem kyK_app {l : List (Int × List Int)} {tk : List Addr} (h : tk.length = l.length) (x : Int × List Int) (t : Addr) : kyK (l ++ [x]) (tk ++ [t]) = kyK l tk ++ [(Sum.inl x.1, .ref t)] := by
  unfold kyK
  rw [List.zipWith_append (by rw [h])]
  rfl
theorem cut_last (w : List Int) (f : Int) : cutV ((w ++ [f]).map V.int) none (some (-1)) = w.map V.int ∧ ¬ (HT.sIx ((w ++ [f]).map V.int).length 0 none = 0 ∧ HT.sIx ((w ++ [f]).map V.int).length ((w ++ [f]).map V.int).length (some (-1)) = ((w ++ [f]).map V.int).length) := by
  have hl : ((w ++ [f]).map V.int).length = w.length + 1 := by rw [List.length_map, List.length_append, List.length_singleton]
  have h1 : HT.sIx ((w ++ [f]).map V.int).length ((w ++ [f]).map V.int).length (some (-1)) = w.length := by
    rw [hl]
    simp only [HT.sIx]
    rw [if_pos (by decide)]
    omega
  refine ⟨?_, fun z => ?_⟩
  · unfold cutV
    rw [h1, HT.sIx_none, List.drop_zero, Nat.sub_zero, List.map_append, List.take_left' (by rw [List.length_map])]
  · rw [h1, hl] at z
    omega
def S_key (K : PySem.W.Frag) : Sp := fun vs H Q E => ∃ wa dn, vs = [.ref wa, .ref dn] ∧ ∃ (w κ : List Int) (kvn : List (List Key × V)), H wa = some (.tup (w.map V.int)) ∧ H dn = some (.dT kvn) ∧ (∀ x ∈ w, 0 ≤ x) ∧ w.length ≤ 100000 ∧
  ((∃ r s, w = [r, s] ∧ κ = [-1, r, s]) ∨ ∃ w' f m, w = w' ++ [f] ∧ 2 ≤ w'.length ∧ valV kvn (wK w') = some (.int m) ∧ κ = [m, f, 0]) ∧ ∀ t H', H t = none → Same H H' → H' t = some (.tup (κ.map V.int)) → Q (.ref t) H'
section
variable {K : PySem.W.Frag} {C_Cell C_Heap C_Full : Addr} {H : Hp} {Q : VK} {E : XK} {n : St → Hp → Prop} {bk ct : St → Hp → Prop}
theorem _law_key_rd {wa dn : Addr} {v2 : Option V} (q : ∃ (w κ : List Int) (kvn : List (List Key × V)), H wa = some (.tup (w.map V.int)) ∧ H dn = some (.dT kvn) ∧ (∀ x ∈ w, 0 ≤ x) ∧ w.length ≤ 100000 ∧
    ((∃ r s, w = [r, s] ∧ κ = [-1, r, s]) ∨ ∃ w' f m, w = w' ++ [f] ∧ 2 ≤ w'.length ∧ valV kvn (wK w') = some (.int m) ∧ κ = [m, f, 0]) ∧ ∀ t H', H t = none → Same H H' → H' t = some (.tup (κ.map V.int)) → Q (.ref t) H') :
    rd__law_key K S_whole ⟨n, Q, bk, ct⟩ [some (.ref wa), some (.ref dn), v2] H := by
  obtain ⟨w, κ, kvn, hw, hdn, h0, hl, hk, h⟩ := q
  have hw2 : 2 ≤ w.length := by
    rcases hk with ⟨r, s, rfl, _⟩ | ⟨w', f, m, rfl, h2, _⟩
    · exact Nat.le_refl _
    · rw [List.length_append]; omega
  unfold rd__law_key
  walk_at "ev"
  refine i_isiT_tuple hw ?_
  walk_at "ev"
  refine ⟨wa, _, rfl, .inr (SqT.of hw), ?_⟩
  rw [List.length_map]
  walk_at "ev"
  refine ifd (fun z => absurd z (by omega)) (fun _ => ?_)
  walk_at "ev"
  refine ⟨wa, rfl, ⟨_, SqT.of hw⟩, forT (w.map V.int) (fun _ σ Hx => Hx = H ∧ ∃ y2, σ = [some (.ref wa), some (.ref dn), y2]) ⟨rfl, _, rfl⟩ (fun i σ Hx _ ⟨e, _⟩ => by rw [e]; exact SqT.of hw) ?_ ?_⟩
  · rintro i x σ Hx hx ⟨rfl, y2, rfl⟩
    rw [List.getElem?_map] at hx
    obtain ⟨x', hx', rfl⟩ := Option.map_eq_some_iff.mp hx
    have := h0 x' (List.mem_of_getElem? hx')
    walk_at "ev"
    refine ⟨x', rfl, ?_⟩
    walk_at "ev"
    refine ifd (fun z => absurd z (by omega)) (fun _ => ?_)
    walk_at "ev"
    exact ⟨rfl, _, rfl⟩
  · rintro σ Hx ⟨rfl, y2, rfl⟩
    walk_at "ev"
    refine ⟨wa, _, rfl, .inr (SqT.of hw), ?_⟩
    rw [List.length_map]
    walk_at "ev"
    refine ifd (fun e => ?_) (fun e => ?_)
    · rcases hk with ⟨r, s, rfl, rfl⟩ | ⟨w', f, m, rfl, h2, _⟩
      · walk_at "ev"
        refine ⟨wa, _, 0, .int r, rfl, rfl, SqT.of hw, atI_int (by decide) rfl, ?_⟩
        walk_at "ev"
        refine ⟨wa, _, 1, .int s, rfl, rfl, SqT.of hw, atI_int (by decide) rfl, ?_⟩
        walk_at "ev"
        refine ⟨by simp [sizeLine_eq], fun t ht => ?_⟩
        exact h t _ ht (same_upd ht) upd_same
      · rw [List.length_append, List.length_singleton] at e
        omega
    · rcases hk with ⟨r, s, rfl, rfl⟩ | ⟨w', f, m, rfl, h2, hv, rfl⟩
      · exact absurd rfl e
      · walk_at "ev"
        obtain ⟨c1, c2⟩ := cut_last w' f
        refine ⟨wa, _, rfl, SqT.of hw, c2, fun p hp => ?_⟩
        rw [c1]
        have s1 := same_upd (o := .tup (w'.map V.int)) hp
        have op : upd Hx p (.tup (w'.map V.int)) p = some (.tup ((wK w').map kV)) := by rw [upd_same, wK_tup]
        generalize upd Hx p (.tup (w'.map V.int)) = H1 at s1 op ⊢
        walk_at "ev"
        refine ⟨dn, _, rfl, .inr ⟨kvn, _, p, .inl (s1 _ _ hdn), rfl, op, rfl⟩, ?_⟩
        rw [hv, show (!(some (V.int m)).isSome) = false from rfl]
        walk_at "ev"
        refine ⟨wa, _, rfl, SqT.of (s1 _ _ hw), c2, fun p2 hp2 => ?_⟩
        rw [c1]
        have s2 := s1.trans (same_upd (o := .tup (w'.map V.int)) hp2)
        have op2 : upd H1 p2 (.tup (w'.map V.int)) p2 = some (.tup ((wK w').map kV)) := by rw [upd_same, wK_tup]
        generalize upd H1 p2 (.tup (w'.map V.int)) = H2 at s2 op2 ⊢
        refine ⟨dn, .int m, rfl, .inr ⟨kvn, _, p2, .inl (s2 _ _ hdn), rfl, op2, hv.symm⟩, ?_⟩
        walk_at "ev"
        refine ⟨wa, _, -1, .int f, rfl, rfl, SqT.of (s2 _ _ hw), ?_, ?_⟩
        · rw [List.map_append]
          exact atI_last _ _
        walk_at "ev"
        refine ⟨by simp [sizeLine_eq], fun t ht => ?_⟩
        exact h t _ (s2.free ht) (s2.trans (same_upd ht)) upd_same
end
def S_atk (K : PySem.W.Frag) : Sp := fun vs H Q E => ∃ t lf ra d, vs = [.ref t, .ref lf, .ref ra, .ref d] ∧ ∃ κ x i F R l ts rs kvs ca gs cs, H t = some (.tup (κ.map V.int)) ∧ KeyAt F R l i x κ ∧ H lf = some (.lst (ts.map V.ref)) ∧ QAt H ts l ∧ H ra = some (.lst (rs.map V.ref)) ∧ RD H rs R ∧ Rd H d (.dK kvs) ∧ DS H ca gs F kvs (thr cs) ∧ Shp cs F ∧ Q (.int x.1) H
def S_told (K : PySem.W.Frag) : Sp := fun vs H Q E => ∃ dk p t, vs = [.ref dk, .int p, .ref t] ∧ ∃ kvk t' κ κ', H dk = some (.dK kvk) ∧ valV kvk (Sum.inl p) = some (.ref t') ∧ H t' = some (.tup (κ.map V.int)) ∧ H t = some (.tup (κ'.map V.int)) ∧ HT.lexLe κ κ' = true ∧ Q (.bl true) H
section
variable {K : PySem.W.Frag} {C_Cell C_Heap C_Full : Addr} {H : Hp} {Q : VK} {E : XK} {n : St → Hp → Prop} {bk ct : St → Hp → Prop}
theorem _law_at_key_rd {t lf ra d : Addr} {v4 : Option V} (q : ∃ κ x i F R l ts rs kvs ca gs cs, H t = some (.tup (κ.map V.int)) ∧ KeyAt F R l i x κ ∧ H lf = some (.lst (ts.map V.ref)) ∧ QAt H ts l ∧ H ra = some (.lst (rs.map V.ref)) ∧ RD H rs R ∧ Rd H d (.dK kvs) ∧ DS H ca gs F kvs (thr cs) ∧ Shp cs F ∧ Q (.int x.1) H) :
    rd__law_at_key K ⟨n, Q, bk, ct⟩ [some (.ref t), some (.ref lf), some (.ref ra), some (.ref d), v4] H := by
  obtain ⟨κ, x, i, F, R, l, ts, rs, kvs, ca, gs, cs, ht, ka, hlf, qa, hra, rr, rd, ds, sh, h⟩ := q
  have hrl := rr.len
  unfold rd__law_at_key
  walk_at "ev"
  rcases ka with ⟨r, s, row, _, rfl, hr, hs⟩ | ⟨m, f, y, fl, _, hm, _, hf, hff, rfl⟩
  · have i0 : atI (([-1, (r : Int), (s : Int)] : List Int).map V.int) 0 = some (.int (-1)) := atI_int (by decide) rfl
    have i1 : atI (([-1, (r : Int), (s : Int)] : List Int).map V.int) 1 = some (.int r) := atI_int (by decide) rfl
    have i2 : atI (([-1, (r : Int), (s : Int)] : List Int).map V.int) 2 = some (.int s) := atI_int (by decide) rfl
    obtain ⟨a, ha, hrow⟩ : ∃ a, rs[r]? = some a ∧ H a = some (.lst (row.map oV)) := by
      have hi := (List.getElem?_eq_some_iff.mp hr).1
      have e : rs[r]? = some rs[r] := List.getElem?_eq_getElem (by omega)
      obtain ⟨row', e1, e2⟩ := rr.at e
      rw [hr] at e1; cases e1
      exact ⟨_, e, e2⟩
    have hrlt := (List.getElem?_eq_some_iff.mp hr).1
    have hslt := (List.getElem?_eq_some_iff.mp hs).1
    have ir : atI (rs.map V.ref) (r : Int) = some (.ref a) := atI_nat (by rw [List.getElem?_map, ha]; rfl)
    refine ⟨t, _, 0, _, rfl, rfl, SqT.of ht, i0, ?_⟩
    walk_at "ev"
    refine ifd (fun _ => ?_) (fun z => absurd rfl z)
    walk_at "ev"
    refine ⟨t, _, 1, _, rfl, rfl, SqT.of ht, i1, ?_⟩
    walk_at "ev"
    refine i_lenL (SqL.of hra) ?_
    rw [List.length_map]
    walk_at "ev"
    refine ifd (fun _ => ?_) (fun z => absurd (show ((r : Nat) : Int) < (rs.length : Nat) by omega) z)
    walk_at "ev"
    refine ⟨t, _, 2, _, rfl, rfl, SqT.of ht, i2, ?_⟩
    walk_at "ev"
    refine ⟨t, _, 1, _, rfl, rfl, SqT.of ht, i1, ?_⟩
    refine i_ixL (SqL.of hra) ir ?_
    walk_at "ev"
    refine i_lenL (SqL.of hrow) ?_
    rw [List.length_map]
    walk_at "ev"
    refine ifd (fun _ => ?_) (fun z => absurd (show ((s : Nat) : Int) < (row.length : Nat) by omega) z)
    walk_at "ev"
    refine ⟨t, _, 1, _, rfl, rfl, SqT.of ht, i1, ?_⟩
    refine i_ixL (SqL.of hra) ir ?_
    walk_at "ev"
    refine ⟨t, _, 2, _, rfl, rfl, SqT.of ht, i2, ?_⟩
    refine i_ixL (SqL.of hrow) (atI_nat (v := .int x.1) (by rw [List.getElem?_map, hs]; rfl)) ?_
    exact h
  · have i0 : atI (([(m : Int), (f : Int), 0] : List Int).map V.int) 0 = some (.int m) := atI_int (by decide) rfl
    have i1 : atI (([(m : Int), (f : Int), 0] : List Int).map V.int) 1 = some (.int f) := atI_int (by decide) rfl
    obtain ⟨tm, wa, et, tt, tw⟩ := qa.at hm
    obtain ⟨ll, fl', e1, e2, e3⟩ : ∃ ll fl', valV kvs (Sum.inl y.1) = some (.ref ll) ∧ KB.fat F y.1 = some fl' ∧ H ll = some (.lst (fl'.map oV)) := by
      rcases fat_thr sh y.1 with ⟨hm, _⟩ | ⟨_, e⟩
      · exact ds.yes hm
      · rw [hf] at e; cases e
    rw [hf] at e2
    cases e2
    have hflt := (List.getElem?_eq_some_iff.mp hff).1
    refine ⟨t, _, 0, _, rfl, rfl, SqT.of ht, i0, ?_⟩
    walk_at "ev"
    refine ifd (fun z => absurd z (by omega)) (fun _ => ?_)
    walk_at "ev"
    refine ⟨t, _, 0, _, rfl, rfl, SqT.of ht, i0, ?_⟩
    refine i_ixL (SqL.of hlf) (atI_nat (v := .ref tm) (by rw [List.getElem?_map, et]; rfl)) ?_
    walk_at "ev"
    refine ⟨tm, _, 0, _, rfl, rfl, SqT.of tt, atI_int (by decide) rfl, ?_⟩
    refine ⟨d, .ref ll, rfl, .inl ⟨kvs, Sum.inl y.1, rd, rfl, e1.symm⟩, ?_⟩
    walk_at "ev"
    refine ⟨t, _, 1, _, rfl, rfl, SqT.of ht, i1, ?_⟩
    walk_at "ev"
    refine i_lenL (SqL.of e3) ?_
    rw [List.length_map]
    walk_at "ev"
    refine ifd (fun _ => ?_) (fun z => absurd (show ((f : Nat) : Int) < (fl.length : Nat) by omega) z)
    walk_at "ev"
    refine ⟨t, _, 1, _, rfl, rfl, SqT.of ht, i1, ?_⟩
    refine i_ixL (SqL.of e3) (atI_nat (v := .int x.1) (by rw [List.getElem?_map, hff]; rfl)) ?_
    exact h
theorem _law_told_by_rd {dk t : Addr} {p : Int} (q : ∃ kvk t' κ κ', H dk = some (.dK kvk) ∧ valV kvk (Sum.inl p) = some (.ref t') ∧ H t' = some (.tup (κ.map V.int)) ∧ H t = some (.tup (κ'.map V.int)) ∧ HT.lexLe κ κ' = true ∧ Q (.bl true) H) :
    rd__law_told_by K ⟨n, Q, bk, ct⟩ [some (.ref dk), some (.int p), some (.ref t)] H := by
  obtain ⟨kvk, t', κ, κ', hdk, hv, ht', ht, hle, h⟩ := q
  unfold rd__law_told_by
  walk_at "ev"
  refine ⟨dk, kvk, true, rfl, .inl hdk, by show some (valV kvk (Sum.inl p)).isSome = _; rw [hv]; rfl, ?_⟩
  walk_at "ev"
  refine iteT ?_
  walk_at "ev"
  refine ⟨dk, .ref t', rfl, .inl ⟨kvk, Sum.inl p, .inl hdk, rfl, hv.symm⟩, ?_⟩
  walk_at "ev"
  refine ⟨t', t, κ, κ', rfl, rfl, SqT.of ht', SqT.of ht, ?_⟩
  rw [hle]
  exact h
end
theorem take_val {α : Type} {l : List α} {i j : Nat} (h : j < i) : (l.take i)[j]? = l[j]? := by
  rw [List.getElem?_take, if_pos h]
theorem ways_nd {F : KB.Fd} {R : KB.Rw} {q l : List (Int × List Int)} {k : Nat} (b : KB.Bfs F R q k l) : (l.map (·.2)).Nodup := by
  have nd := bfs_nodup b
  have gd := b.good.2
  refine List.pairwise_iff_getElem.mpr fun i j hi hj hij e => ?_
  rw [List.length_map] at hi hj
  have h := List.pairwise_iff_getElem.mp nd i j (by rw [List.length_map]; exact hi) (by rw [List.length_map]; exact hj) hij
  rw [List.getElem_map, List.getElem_map] at h e
  have f1 := (gd _ (List.getElem_mem hi)).fol
  have f2 := (gd _ (List.getElem_mem hj)).fol
  rw [e, f2] at f1
  exact h (Option.some.inj f1).symm
structure Hd (K : PySem.W.Frag) (H : Hp) (lf ra d : Addr) (F : KB.Fd) (R : KB.Rw) (l : List (Int × List Int)) (ts rs : List Addr) (kvs : List (Key × V)) (ca : Addr) (gs : List (Option (Addr × Addr))) (cs : List Int) : Prop where
  olf : H lf = some (.lst (ts.map V.ref))
  qa : QAt H ts l
  ora : H ra = some (.lst (rs.map V.ref))
  rr : RD H rs R
  rd : Rd H d (.dK kvs)
  ds : DS H ca gs F kvs (thr cs)
  sh : Shp cs F
theorem Hd.same {K : PySem.W.Frag} {H H' : Hp} {lf ra d : Addr} {F : KB.Fd} {R : KB.Rw} {l : List (Int × List Int)} {ts rs : List Addr} {kvs : List (Key × V)} {ca : Addr} {gs : List (Option (Addr × Addr))} {cs : List Int} (h : Hd K H lf ra d F R l ts rs kvs ca gs cs) (s : Same H H') : Hd K H' lf ra d F R l ts rs kvs ca gs cs :=
  ⟨s _ _ h.olf, h.qa.same s, s _ _ h.ora, h.rr.same s, Rd.same s h.rd, h.ds.mv (fun _ _ => rfl) fun l xs _ _ _ e => s _ _ e, h.sh⟩
def S_keys (K : PySem.W.Frag) : Sp := fun vs H Q E => ∃ lf ra d, vs = [.ref lf, .ref ra, .ref d] ∧ ∃ F R l ts rs kvs ca gs cs q ks, Hd K H lf ra d F R l ts rs kvs ca gs cs ∧ KB.Bfs F R q q.length l ∧ Keys F R l ks ∧ l.length ≤ 90000 ∧ (∀ x ∈ l, x.2.length ≤ 100000) ∧
  ∀ dk tk H', Same H H' → H' dk = some (.dK (kyK l tk)) → tk.length = l.length → (∀ (j : Nat) t κ, tk[j]? = some t → ks[j]? = some κ → H' t = some (.tup (κ.map V.int))) → Q (.ref dk) H'
section
variable {K : PySem.W.Frag} {C_Cell C_Heap C_Full : Addr} {H : Hp} {Q : VK} {E : XK} {n : St → Hp → Prop} {bk ct : St → Hp → Prop}
theorem _law_keys_rd {lf ra d : Addr} {v3 v4 v5 v6 v7 v8 : Option V} (q : ∃ F R l ts rs kvs ca gs cs q ks, Hd K H lf ra d F R l ts rs kvs ca gs cs ∧ KB.Bfs F R q q.length l ∧ Keys F R l ks ∧ l.length ≤ 90000 ∧ (∀ x ∈ l, x.2.length ≤ 100000) ∧
    ∀ dk tk H', Same H H' → H' dk = some (.dK (kyK l tk)) → tk.length = l.length → (∀ (j : Nat) t κ, tk[j]? = some t → ks[j]? = some κ → H' t = some (.tup (κ.map V.int))) → Q (.ref dk) H') :
    rd__law_keys K (S_atk K) (S_key K) S_whole ⟨n, Q, bk, ct⟩ [some (.ref lf), some (.ref ra), some (.ref d), v3, v4, v5, v6, v7, v8] H := by
  obtain ⟨F, R, l, ts, rs, kvs, ca, gs, cs, q, ks, hd, b, ky, hl, hw, h⟩ := q
  have nd1 := bfs_nodup b
  have nd2 := ways_nd b
  have gd := b.good.2
  have hql := hd.qa.len
  have hkl := ky.ln
  have h2 : ∀ x ∈ l, 2 ≤ x.2.length := fun x hx => by
    obtain ⟨r, s, fs, row, e, _⟩ := (gd x hx).ex
    rw [e]; simp
  unfold rd__law_keys
  walk_at "ev"
  intro dk hdk
  walk_at "ev"
  intro dn hdn
  walk_at "ev"
  refine ⟨by simp [sizeLine_eq], fun la hla => ?_⟩
  have s1 := same_upd (o := .dK []) hdk
  have s2 := s1.trans (same_upd (o := .dT []) hdn)
  have s3 := s2.trans (same_upd (o := .tup [.int (-2), .int 0, .int 0]) hla)
  have ndn : H dn = none := s1.free hdn
  have odk : upd (upd (upd H dk (.dK [])) dn (.dT [])) la (.tup [.int (-2), .int 0, .int 0]) dk = some (.dK []) := same_upd hla _ _ (same_upd hdn _ _ upd_same)
  have odn : upd (upd (upd H dk (.dK [])) dn (.dT [])) la (.tup [.int (-2), .int 0, .int 0]) dn = some (.dT []) := same_upd hla _ _ upd_same
  have ola : upd (upd (upd H dk (.dK [])) dn (.dT [])) la (.tup [.int (-2), .int 0, .int 0]) la = some (.tup (([-2, 0, 0] : List Int).map V.int)) := upd_same
  generalize upd (upd (upd H dk (.dK [])) dn (.dT [])) la (.tup [.int (-2), .int 0, .int 0]) = H1 at s3 odk odn ola ⊢
  walk_at "ev"
  refine ⟨lf, rfl, ⟨_, SqL.of (s3 _ _ hd.olf)⟩, forE (ts.map V.ref) (fun i σ Hx => Same H Hx ∧ ∃ tk la κl y6 y7 y8, σ = [some (.ref lf), some (.ref ra), some (.ref d), some (.ref dk), some (.ref dn), some (.ref la), y6, y7, y8] ∧ tk.length = i ∧ Hx dk = some (.dK (kyK (l.take i) tk)) ∧ Hx dn = some (.dT (nmF 0 (l.take i))) ∧ (∀ (j : Nat) t κ, tk[j]? = some t → ks[j]? = some κ → Hx t = some (.tup (κ.map V.int))) ∧ Hx la = some (.tup (κl.map V.int)) ∧ ∀ κ, ks[i]? = some κ → kLt κl κ)
    ⟨s3, [], la, [-2, 0, 0], _, _, _, rfl, rfl, odk, odn, (fun j t κ e => by simp at e), ola, fun κ e => ?_⟩ (fun i σ Hx _ ⟨sm, _⟩ => SqL.of (sm _ _ hd.olf)) ?_ ?_⟩
  · have hi : 0 < l.length := by have := (List.getElem?_eq_some_iff.mp e).1; omega
    rcases ky.ka 0 _ κ (List.getElem?_eq_getElem hi) e with ⟨r, s, row, _, rfl, _⟩ | ⟨m, f, y, fl, _, _, _, _, _, rfl⟩
    · exact kLt3.mpr (.inl (by omega))
    · exact kLt3.mpr (.inl (by omega))
  · rintro i x te σ Hx hx ⟨sm, tk, la', κl, y6, y7, y8, rfl, htk, odk', odn', okt, ola', lt⟩ hte
    rw [List.getElem?_map] at hx
    obtain ⟨t, ht, rfl⟩ := Option.map_eq_some_iff.mp hx
    have hil : i < l.length := by rw [← hql]; exact (List.getElem?_eq_some_iff.mp ht).1
    have hli : l[i]? = some l[i] := List.getElem?_eq_getElem hil
    have hki : ks[i]? = some ks[i] := List.getElem?_eq_getElem (by omega)
    have ka := ky.ka i _ _ hli hki
    have hlt := lt _ hki
    have xm := List.getElem_mem hil
    generalize ek : ks[i] = κ at hki ka hlt
    generalize el : l[i] = x at hli ka xm
    obtain ⟨p, w⟩ := x
    have s4 := same_upd (o := .tup [.int i, .ref t]) hte
    have sm4 := sm.trans s4
    have hd4 := hd.same sm4
    obtain ⟨t', wa, et, tt, tw⟩ := hd4.qa.at hli
    rw [ht] at et
    cases et
    simp only at tt tw
    have odk4 := s4 _ _ odk'
    have odn4 := s4 _ _ odn'
    have ola4 := s4 _ _ ola'
    have okt4 : ∀ (j : Nat) t1 κ, tk[j]? = some t1 → ks[j]? = some κ → upd Hx te (.tup [.int i, .ref t]) t1 = some (.tup (κ.map V.int)) := fun j t1 κ e1 e2 => s4 _ _ (okt j t1 κ e1 e2)
    have pn : p ∉ (l.take i).map (·.1) := fun hm => by
      obtain ⟨y, hy, e⟩ := List.mem_map.mp hm
      obtain ⟨k, hk, ek⟩ := List.getElem_of_mem hy
      have hki : k < i := by rw [List.length_take] at hk; omega
      have := List.pairwise_iff_getElem.mp nd1 k i (by rw [List.length_map]; omega) (by rw [List.length_map]; omega) hki
      rw [List.getElem_map, List.getElem_map, el] at this
      rw [List.getElem_take] at ek
      rw [ek] at this
      exact this e
    have wn : w ∉ (l.take i).map (·.2) := fun hm => by
      obtain ⟨y, hy, e⟩ := List.mem_map.mp hm
      obtain ⟨k, hk, ek⟩ := List.getElem_of_mem hy
      have hki : k < i := by rw [List.length_take] at hk; omega
      have := List.pairwise_iff_getElem.mp nd2 k i (by rw [List.length_map]; omega) (by rw [List.length_map]; omega) hki
      rw [List.getElem_map, List.getElem_map, el] at this
      rw [List.getElem_take] at ek
      rw [ek] at this
      exact this e
    have htl : tk.length = (l.take i).length := by rw [List.length_take]; omega
    have hno : valV (kyK (l.take i) tk) (Sum.inl p) = none := by
      have e := val_mem (kyK_keys htl) p
      cases e2 : valV (kyK (l.take i) tk) (Sum.inl p) with
      | none => rfl
      | some v =>
        rw [e2, decide_eq_false pn] at e
        cases e
    have hth : (KB.fat F p).isSome = true := (gd _ xm).there
    have hwp : ∀ y ∈ w, 0 ≤ y := by
      obtain ⟨r, s, fs, row, e, h1, h2', _, _, h5, _⟩ := (gd _ xm).ex
      simp only at e
      intro y hy
      rw [e] at hy
      rcases List.mem_cons.mp hy with z | z
      · rw [z]; exact h1
      · rcases List.mem_cons.mp z with z | z
        · rw [z]; exact h2'
        · exact h5 y z
    refine ⟨te, _, rfl, SqT.of upd_same, rfl, .int i, _, rfl, ?_⟩
    generalize upd Hx te (.tup [.int i, .ref t]) = H4 at s4 sm4 hd4 tt tw odk4 odn4 ola4 okt4 ⊢
    walk_at "ev"
    refine ⟨.ref t, _, rfl, ?_⟩
    walk_at "ev"
    refine ⟨rfl, ?_⟩
    walk_at "ev"
    refine i_isiT_tuple tt ?_
    walk_at "ev"
    refine ⟨t, _, rfl, .inr (SqT.of tt), ?_⟩
    walk_at "ev"
    refine ifnd (fun z => absurd rfl z) (fun _ => ?_)
    walk_at "ev"
    refine ⟨t, _, 0, .int p, rfl, rfl, SqT.of tt, atI_int (by decide) rfl, ?_⟩
    walk_at "ev"
    refine ⟨p, rfl, ?_⟩
    walk_at "ev"
    refine ⟨t, _, 0, .int p, rfl, rfl, SqT.of tt, atI_int (by decide) rfl, ?_⟩
    walk_at "ev"
    refine ⟨d, kvs, true, rfl, hd4.rd, ?_, ?_⟩
    · have := hd4.ds.has hd4.sh (some p)
      rw [show (some p).bind (KB.fat F) = KB.fat F p from rfl, hth] at this
      exact this
    walk_at "ev"
    refine iteF ?_
    walk_at "ev"
    refine ⟨t, _, 0, .int p, rfl, rfl, SqT.of tt, atI_int (by decide) rfl, ?_⟩
    walk_at "ev"
    refine ⟨dk, _, false, rfl, .inl odk4, by show some (valV _ _).isSome = _; rw [hno]; rfl, ?_⟩
    walk_at "ev"
    refine iteF ?_
    walk_at "ev"
    refine ⟨t, _, 1, .ref wa, rfl, rfl, SqT.of tt, atI_int (by decide) rfl, ?_⟩
    walk_at "ev"
    refine ⟨wa, dn, rfl, w, κ, _, tw, odn4, hwp, hw _ xm, ?_, fun tq H5 ntq s5 otq => ?_⟩
    · rcases ka with ⟨r, s, row, e1, e2, _⟩ | ⟨m, f, y, fl, h1, h2', h3, _, _, e2⟩
      · exact .inl ⟨r, s, e1, e2⟩
      · refine .inr ⟨y.2, f, m, h3, h2 y (List.mem_of_getElem? h2'), ?_, e2⟩
        have := nmF_val (n := 0) (l := l.take i) (i := m) (x := y) ?_ (by rw [take_val h1]; exact h2')
        · rw [Nat.zero_add] at this; exact this
        · rw [List.map_take]; exact nd2.sublist (List.take_sublist _ _)
    have hd5 := hd4.same s5
    walk_at "ev"
    refine ⟨tq, la', κ, κl, rfl, rfl, SqT.of otq, SqT.of (s5 _ _ ola4), ?_⟩
    rw [nle_of_lt hlt]
    walk_at "ev"
    refine ⟨tq, lf, ra, d, rfl, κ, (p, w), i, F, R, l, ts, rs, kvs, ca, gs, cs, otq, ka, hd5.olf, hd5.qa, hd5.ora, hd5.rr, hd5.rd, hd5.ds, hd5.sh, ?_⟩
    walk_at "ev"
    refine ⟨t, _, 0, .int p, rfl, rfl, SqT.of (s5 _ _ tt), atI_int (by decide) rfl, ?_⟩
    show rNe (.int p) (.int p) H5 _
    walk_at "ev"
    refine ifnd (fun z => absurd rfl z) (fun _ => ?_)
    walk_at "ev"
    have tt5 := s5 _ _ tt
    have odk5 := s5 _ _ odk4
    have odn5 := s5 _ _ odn4
    have tw5 : H5 wa = some (.tup ((wK w).map kV)) := by rw [wK_tup]; exact s5 _ _ tw
    have hlk : (kyK (l.take i) tk).length < sizeLine := by
      have := congrArg List.length (kyK_keys htl)
      rw [List.length_map, List.length_map, List.length_map, List.length_take] at this
      exact Nat.lt_of_le_of_lt (show _ ≤ 1000000 by omega) (show 1000000 < sizeLine by decide)
    have hln : (nmF 0 (l.take i)).length < sizeLine := by
      rw [nmF_len, List.length_take]
      exact Nat.lt_of_le_of_lt (show _ ≤ 1000000 by omega) (show 1000000 < sizeLine by decide)
    have hnn : valV (nmF 0 (l.take i)) (wK w) = none := nmF_none wn
    have etk : kyK (l.take i ++ [(p, w)]) (tk ++ [tq]) = kyK (l.take (i + 1)) (tk ++ [tq]) := by rw [take_snoc hli]
    have ezn : nmF 0 (l.take i) ++ [(wK w, V.int ((i : Nat) : Int))] = nmF 0 (l.take (i + 1)) := by
      rw [take_snoc hli, nmF_app, List.length_take, Nat.min_eq_left (by omega), Nat.zero_add]
    have nkn : dn ≠ dk := ne_of odn5 odk5 (fun z => by cases z)
    have ntd : t ≠ dk := ne_of tt5 odk5 (fun z => by cases z)
    have nwd : wa ≠ dk := ne_of tw5 odk5 (fun z => by cases z)
    have keep : ∀ {b : Addr} {ys : List V} {o1 o2 : HO}, H5 b = some (.tup ys) → upd (upd H5 dk o1) dn o2 b = some (.tup ys) := fun e => by
      rw [upd_ne (ne_of e odn5 (fun z => by cases z)), upd_ne (ne_of e odk5 (fun z => by cases z))]; exact e
    have okt5 : ∀ (j : Nat) t1 κ1, (tk ++ [tq])[j]? = some t1 → ks[j]? = some κ1 → H5 t1 = some (.tup (κ1.map V.int)) := fun j t1 κ1 e1 e2 => by
      by_cases hj : j < tk.length
      · rw [List.getElem?_append_left hj] at e1
        exact s5 _ _ (okt4 j t1 κ1 e1 e2)
      · have ej : j = i := by
          have := (List.getElem?_eq_some_iff.mp e1).1
          rw [List.length_append, List.length_singleton] at this
          omega
        subst ej
        rw [hki] at e2
        cases e2
        rw [List.getElem?_append_right (by omega), show j - tk.length = 0 from by omega] at e1
        cases e1
        exact otq
    have nlt : ∀ κ', ks[i + 1]? = some κ' → kLt κ κ' := fun κ' e => by
      obtain ⟨h1, h2⟩ := List.getElem?_eq_some_iff.mp e
      obtain ⟨h3, h4⟩ := List.getElem?_eq_some_iff.mp hki
      have := List.pairwise_iff_getElem.mp ky.up i (i + 1) h3 h1 (Nat.lt_succ_self i)
      rw [h2, h4] at this
      exact this
    refine ifd (fun hi0 => ?_) (fun hi0 => ?_)
    · have hi1 : i - 1 < l.length := by omega
      have hl1 : l[i - 1]? = some l[i - 1] := List.getElem?_eq_getElem hi1
      obtain ⟨tp, wp, ep, tpp, twp⟩ := hd5.qa.at hl1
      have hlen := ky.len h2 i (i - 1) _ _ (Nat.sub_le _ _) hl1 hli
      simp only at hlen
      walk_at "ev"
      refine ⟨t, _, 1, .ref wa, rfl, rfl, SqT.of tt5, atI_int (by decide) rfl, ?_⟩
      refine ⟨wa, _, rfl, .inr (SqT.of tw5), ?_⟩
      walk_at "ev"
      refine i_ixL (SqL.of hd5.olf) (v := .ref tp) ?_ ?_
      · rw [show ((i : Nat) : Int) - 1 = ((i - 1 : Nat) : Int) from by omega]
        exact atI_nat (by rw [List.getElem?_map, ep]; rfl)
      walk_at "ev"
      refine ⟨tp, _, 1, .ref wp, rfl, rfl, SqT.of tpp, atI_int (by decide) rfl, ?_⟩
      refine ⟨wp, _, rfl, .inr (SqT.of twp), ?_⟩
      walk_at "ev"
      refine ifd (fun z => absurd z ?_) (fun _ => ?_)
      · rw [List.length_map, List.length_map]
        unfold wK
        rw [List.length_map]
        omega
      walk_at "ev"
      refine ⟨t, _, 0, .int p, rfl, rfl, SqT.of tt5, atI_int (by decide) rfl, ?_⟩
      refine ⟨dk, _, rfl, DPut.k (k := Sum.inl p) odk5 hlk, ?_⟩
      rw [putK_new _ hno, ← kyK_app htl (p, w) tq, etk]
      walk_at "ev"
      refine ⟨t, _, 1, .ref wa, rfl, rfl, SqT.of ((upd_ne ntd).trans tt5), atI_int (by decide) rfl, ?_⟩
      refine ⟨dn, _, rfl, DPut.t (k := wK w) ((upd_ne nkn).trans odn5) ((upd_ne nwd).trans tw5) hln, ?_⟩
      rw [putK_new _ hnn, ezn]
      exact ⟨same_own (same_own (sm4.trans s5) hdk) ndn, tk ++ [tq], tq, κ, _, _, _, rfl, by rw [List.length_append, htk]; rfl, (upd_ne nkn.symm).trans upd_same, upd_same, fun j t1 κ1 e1 e2 => keep (okt5 j t1 κ1 e1 e2), keep otq, nlt⟩
    · walk_at "ev"
      refine ⟨t, _, 0, .int p, rfl, rfl, SqT.of tt5, atI_int (by decide) rfl, ?_⟩
      refine ⟨dk, _, rfl, DPut.k (k := Sum.inl p) odk5 hlk, ?_⟩
      rw [putK_new _ hno, ← kyK_app htl (p, w) tq, etk]
      walk_at "ev"
      refine ⟨t, _, 1, .ref wa, rfl, rfl, SqT.of ((upd_ne ntd).trans tt5), atI_int (by decide) rfl, ?_⟩
      refine ⟨dn, _, rfl, DPut.t (k := wK w) ((upd_ne nkn).trans odn5) ((upd_ne nwd).trans tw5) hln, ?_⟩
      rw [putK_new _ hnn, ezn]
      exact ⟨same_own (same_own (sm4.trans s5) hdk) ndn, tk ++ [tq], tq, κ, _, _, _, rfl, by rw [List.length_append, htk]; rfl, (upd_ne nkn.symm).trans upd_same, upd_same, fun j t1 κ1 e1 e2 => keep (okt5 j t1 κ1 e1 e2), keep otq, nlt⟩
  · rintro σ Hx ⟨sm, tk, la', κl, y6, y7, y8, rfl, htk, odk', odn', okt, ola', lt⟩
    rw [List.length_map, hql] at htk odk'
    rw [List.take_length] at odk'
    walk_at "ev"
    exact h dk tk Hx sm odk' htk okt
end
def S_least (K : PySem.W.Frag) : Sp := fun vs H Q E => ∃ lf dk ra d, vs = [.ref lf, .ref dk, .ref ra, .ref d] ∧ ∃ F R l ts rs kvs ca gs cs ks tk, Hd K H lf ra d F R l ts rs kvs ca gs cs ∧ Keys F R l ks ∧ (l.map (·.1)).Nodup ∧ (∀ x ∈ l, (KB.fat F x.1).isSome = true) ∧ H dk = some (.dK (kyK l tk)) ∧ tk.length = l.length ∧ (∀ (j : Nat) t κ, tk[j]? = some t → ks[j]? = some κ → H t = some (.tup (κ.map V.int))) ∧ R.length ≤ 6 ∧ (∀ x ∈ R, x.length ≤ 9) ∧ ∀ H', Q (.bl true) H'
section
variable {K : PySem.W.Frag} {C_Cell C_Heap C_Full : Addr} {H : Hp} {Q : VK} {E : XK} {n : St → Hp → Prop} {bk ct : St → Hp → Prop}
theorem _law_least_rd {lf dk ra d : Addr} {v4 v5 v6 v7 v8 v9 : Option V} (q : ∃ F R l ts rs kvs ca gs cs ks tk, Hd K H lf ra d F R l ts rs kvs ca gs cs ∧ Keys F R l ks ∧ (l.map (·.1)).Nodup ∧ (∀ x ∈ l, (KB.fat F x.1).isSome = true) ∧ H dk = some (.dK (kyK l tk)) ∧ tk.length = l.length ∧ (∀ (j : Nat) t κ, tk[j]? = some t → ks[j]? = some κ → H t = some (.tup (κ.map V.int))) ∧ R.length ≤ 6 ∧ (∀ x ∈ R, x.length ≤ 9) ∧ ∀ H', Q (.bl true) H') :
    rd__law_least K (S_told K) ⟨n, Q, bk, ct⟩ [some (.ref lf), some (.ref dk), some (.ref ra), some (.ref d), v4, v5, v6, v7, v8, v9] H := by
  obtain ⟨F, R, l, ts, rs, kvs, ca, gs, cs, ks, tk, hd, ky, nd, gd, odk, htk, okt, h6, h9, h⟩ := q
  have hrl := hd.rr.len
  have hql := hd.qa.len
  have hkl := ky.ln
  have key : ∀ {i : Nat} {x : Int × List Int} {κ : List Int} {Hx : Hp}, Same H Hx → l[i]? = some x → ks[i]? = some κ → ∃ t', valV (kyK l tk) (Sum.inl x.1) = some (.ref t') ∧ Hx t' = some (.tup (κ.map V.int)) := fun {i x κ Hx} sm hx hκ => by
    have hi := (List.getElem?_eq_some_iff.mp hx).1
    have ht : tk[i]? = some tk[i] := List.getElem?_eq_getElem (by omega)
    exact ⟨tk[i], kyK_val nd hx ht, sm _ _ (okt i _ _ ht hκ)⟩
  unfold rd__law_least
  walk_at "ev"
  refine i_lenL (SqL.of hd.ora) ?_
  rw [List.length_map]
  walk_at "ev"
  refine ⟨_, rfl, by omega, by omega, forR (fun _ σ Hx => Same H Hx ∧ ∃ y4 y5 y6, σ = [some (.ref lf), some (.ref dk), some (.ref ra), some (.ref d), y4, y5, y6, v7, v8, v9]) ⟨Same.refl _, _, _, _, rfl⟩ ?_ ?_⟩
  · rintro r σ Hx hr ⟨sm, y4, y5, y6, rfl⟩
    have hr : r < rs.length := by omega
    have er : rs[r]? = some rs[r] := List.getElem?_eq_getElem hr
    obtain ⟨row, eR, hrow⟩ := hd.rr.at er
    have h9r := h9 row (List.mem_of_getElem? eR)
    have hz : (0 : Int) + ((r : Nat) : Int) = ((r : Nat) : Int) := by omega
    have ir : atI (rs.map V.ref) ((0 : Int) + ((r : Nat) : Int)) = some (.ref rs[r]) := by rw [hz]; exact atI_nat (by rw [List.getElem?_map, er]; rfl)
    walk_at "ev"
    refine i_ixL (SqL.of (sm _ _ hd.ora)) ir ?_
    walk_at "ev"
    refine i_lenL (SqL.of (sm _ _ hrow)) ?_
    rw [List.length_map]
    walk_at "ev"
    refine ⟨_, rfl, by omega, by omega, forR (fun _ σ Hy => Same H Hy ∧ ∃ y5 y6, σ = [some (.ref lf), some (.ref dk), some (.ref ra), some (.ref d), some (.int (0 + (r : Nat))), y5, y6, v7, v8, v9]) ⟨sm, _, _, rfl⟩ ?_ ?_⟩
    · rintro s σ Hy hs ⟨sm2, z5, z6, rfl⟩
      have hs : s < row.length := by omega
      have es : row[s]? = some row[s] := List.getElem?_eq_getElem hs
      have hz2 : (0 : Int) + ((s : Nat) : Int) = ((s : Nat) : Int) := by omega
      have is : atI (row.map oV) ((0 : Int) + ((s : Nat) : Int)) = some (oV row[s]) := by rw [hz2]; exact atI_nat (by rw [List.getElem?_map, es]; rfl)
      have hd2 := hd.same sm2
      walk_at "ev"
      refine i_ixL (SqL.of hd2.ora) ir ?_
      walk_at "ev"
      refine i_ixL (SqL.of (sm2 _ _ hrow)) is ?_
      generalize row[s] = x at es ⊢
      walk_at "ev"
      refine ⟨d, kvs, _, rfl, hd2.rd, hd2.ds.has hd2.sh x, ?_⟩
      cases hf : (x.bind (KB.fat F)).isSome with
      | false =>
        walk_at "ev"
        refine iteF ?_
        walk_at "ev"
        exact ⟨sm2, _, _, rfl⟩
      | true =>
        cases x with
        | none => cases hf
        | some p =>
          obtain ⟨i, x', κ, g1, g2, g3, g4⟩ := ky.rw r s row p eR es hf
          walk_at "ev"
          refine iteT ?_
          walk_at "ev"
          refine ⟨by simp [sizeLine_eq], fun tt htt => ?_⟩
          have s3 := same_upd (o := .tup [.int (-1), .int (0 + (r : Nat)), .int (0 + (s : Nat))]) htt
          obtain ⟨t', k1, k2⟩ := key (sm2.trans s3) g1 g3
          rw [g2] at k1
          walk_at "ev"
          refine ⟨dk, p, tt, rfl, _, t', κ, [-1, (r : Int), (s : Int)], s3 _ _ (sm2 _ _ odk), k1, k2, ?_, g4, ?_⟩
          · rw [upd_same, hz, hz2]; rfl
          walk_at "ev"
          exact ⟨sm2.trans s3, _, _, rfl⟩
    · rintro σ Hy ⟨sm2, z5, z6, rfl⟩
      exact ⟨sm2, _, _, _, rfl⟩
  · rintro σ Hx ⟨sm, y4, y5, y6, rfl⟩
    walk_at "ev"
    refine ⟨lf, rfl, ⟨_, SqL.of (sm _ _ hd.olf)⟩, forE (ts.map V.ref) (fun _ σ Hy => Same H Hy ∧ ∃ y6 y7 y8 y9, σ = [some (.ref lf), some (.ref dk), some (.ref ra), some (.ref d), y4, y5, y6, y7, y8, y9]) ⟨sm, _, _, _, _, rfl⟩ (fun i σ Hy _ ⟨sm, _⟩ => SqL.of (sm _ _ hd.olf)) ?_ ?_⟩
    · rintro i x te σ Hy hx ⟨sm2, z6, z7, z8, z9, rfl⟩ hte
      rw [List.getElem?_map] at hx
      obtain ⟨t, ht, rfl⟩ := Option.map_eq_some_iff.mp hx
      have hil : i < l.length := by rw [← hql]; exact (List.getElem?_eq_some_iff.mp ht).1
      have hli : l[i]? = some l[i] := List.getElem?_eq_getElem hil
      have s4 := same_upd (o := .tup [.int i, .ref t]) hte
      have sm4 := sm2.trans s4
      have hd4 := hd.same sm4
      have gdi := gd _ (List.getElem_mem hil)
      generalize l[i] = x at hli gdi
      obtain ⟨t', wa, et, tt, tw⟩ := hd4.qa.at hli
      rw [ht] at et
      cases et
      obtain ⟨ll, fl, e1, e2, e3⟩ : ∃ ll fl, valV kvs (Sum.inl x.1) = some (.ref ll) ∧ KB.fat F x.1 = some fl ∧ upd Hy te (.tup [.int i, .ref t]) ll = some (.lst (fl.map oV)) := by
        rcases fat_thr hd4.sh x.1 with ⟨hm, _⟩ | ⟨_, e⟩
        · exact hd4.ds.yes hm
        · rw [e] at gdi; cases gdi
      refine ⟨te, _, rfl, SqT.of upd_same, rfl, .int i, _, rfl, ?_⟩
      generalize upd Hy te (.tup [.int i, .ref t]) = H4 at s4 sm4 hd4 tt tw e3 ⊢
      walk_at "ev"
      refine ⟨.ref t, _, rfl, ?_⟩
      walk_at "ev"
      refine ⟨rfl, ?_⟩
      walk_at "ev"
      refine ⟨t, _, 0, .int x.1, rfl, rfl, SqT.of tt, atI_int (by decide) rfl, ?_⟩
      refine ⟨d, .ref ll, rfl, .inl ⟨kvs, Sum.inl x.1, hd4.rd, rfl, e1.symm⟩, ?_⟩
      walk_at "ev"
      refine ⟨ll, rfl, ⟨_, SqL.of e3⟩, forE (fl.map oV) (fun _ σ Hz => Same H4 Hz ∧ ∃ y6 y9, σ = [some (.ref lf), some (.ref dk), some (.ref ra), some (.ref d), y4, y5, y6, some (.int i), some (.ref t), y9]) ⟨Same.refl _, _, _, rfl⟩ (fun i σ Hz _ ⟨sm, _⟩ => SqL.of (sm _ _ e3)) ?_ ?_⟩
      · rintro f y tf σ Hz hy ⟨sm5, w6, w9, rfl⟩ htf
        rw [List.getElem?_map] at hy
        obtain ⟨x2, hx2, rfl⟩ := Option.map_eq_some_iff.mp hy
        have s6 := same_upd (o := .tup [.int f, oV x2]) htf
        have sm6 := (sm4.trans sm5).trans s6
        have hd6 := hd.same sm6
        refine ⟨tf, _, rfl, SqT.of upd_same, rfl, .int f, _, rfl, ?_⟩
        generalize upd Hz tf (.tup [.int f, oV x2]) = H6 at s6 sm6 hd6 ⊢
        walk_at "ev"
        refine ⟨oV x2, _, rfl, ?_⟩
        walk_at "ev"
        refine ⟨rfl, ?_⟩
        walk_at "ev"
        refine ⟨d, kvs, _, rfl, hd6.rd, hd6.ds.has hd6.sh x2, ?_⟩
        cases hf : (x2.bind (KB.fat F)).isSome with
        | false =>
          walk_at "ev"
          refine iteF ?_
          walk_at "ev"
          exact ⟨sm5.trans s6, _, _, rfl⟩
        | true =>
          cases x2 with
          | none => cases hf
          | some p =>
            obtain ⟨i', x', κ, g1, g2, g3, g4⟩ := ky.fd i f x fl p hli e2 hx2 hf
            walk_at "ev"
            refine iteT ?_
            walk_at "ev"
            refine ⟨by simp [sizeLine_eq], fun tt' htt => ?_⟩
            have s7 := same_upd (o := .tup [.int i, .int f, .int 0]) htt
            obtain ⟨t', k1, k2⟩ := key (sm6.trans s7) g1 g3
            rw [g2] at k1
            walk_at "ev"
            refine ⟨dk, p, tt', rfl, _, t', κ, [(i : Int), (f : Int), 0], s7 _ _ (sm6 _ _ odk), k1, k2, upd_same, g4, ?_⟩
            walk_at "ev"
            exact ⟨(sm5.trans s6).trans s7, _, _, rfl⟩
      · rintro σ Hz ⟨sm5, w6, w9, rfl⟩
        exact ⟨sm4.trans sm5, _, _, _, _, rfl⟩
    · rintro σ Hy ⟨sm2, z6, z7, z8, z9, rfl⟩
      walk_at "ev"
      exact h _
end
theorem bfs_sub {F : KB.Fd} {R : KB.Rw} {q l : List (Int × List Int)} {k : Nat} (b : KB.Bfs F R q k l) : ∀ x ∈ l, x ∈ q := fun x hx => by
  obtain ⟨qk, lk, o⟩ := bfs_ord b
  rw [← o.el] at hx
  obtain ⟨z, hz, rfl⟩ := List.mem_map.mp hx
  rw [← o.eq]
  exact List.mem_map.mpr ⟨z, List.mem_of_mem_take (o.sb.subset hz), rfl⟩
section
variable {K : PySem.W.Frag} {C_Cell C_Heap C_Full : Addr} {H : Hp} {Q : VK} {E : XK} {n : St → Hp → Prop} {bk ct : St → Hp → Prop}
theorem law_rd {a : Addr} {v1 v2 v3 v4 v5 v6 : Option V} (q : ∃ ns : List Int, SqL K H a (ns.map V.int) ∧ ns.length ≤ 63 ∧ ∀ H', Q (.bl true) H') :
    rd_law K (S_at K) (S_heap K C_Cell C_Heap) (S_keys K) (S_least K) (S_links K C_Cell C_Heap) S_rows (S_reached K C_Cell C_Heap) ⟨n, Q, bk, ct⟩ [some (.ref a), v1, v2, v3, v4, v5, v6] H := by
  obtain ⟨ns, hS, hlen, h⟩ := q
  unfold rd_law
  walk_at "ev"
  refine ⟨a, _, rfl, hS, fun la hla => ?_⟩
  obtain ⟨cs, ec, hcl⟩ := cut_ints ns
  rw [ec]
  have s1 := same_upd (o := .lst (cs.map V.int)) hla
  have c1 : upd H la (.lst (cs.map V.int)) la = some (.lst (cs.map V.int)) := upd_same
  generalize upd H la (.lst (cs.map V.int)) = H1 at s1 c1 ⊢
  walk_at "ev"
  refine ⟨la, cs, rfl, SqL.of c1, hcl, fun hp ca used born gs H2 nhp nca s2 j2 fr => ?_⟩
  walk_at "ev"
  refine ⟨hp, la, cs, H1, ca, used, born, gs, rfl, SqL.of c1, hcl, s2, j2, fr, fun d kvs F H3 nd s3 hd j3 sh ds => ?_⟩
  walk_at "ev"
  refine ⟨a, 0, rfl, ns, (s1.trans s3).seq hS, by decide, fun z0 => ?_⟩
  walk_at "ev"
  refine ⟨a, 1, rfl, ns, (s1.trans s3).seq hS, by decide, fun z1 => ?_⟩
  walk_at "ev"
  refine i_lenL (SqL.of (s3 _ _ c1)) ?_
  walk_at "ev"
  refine ⟨z0, z1, _, rfl, by omega, fun ra rs R H4 nra s4 hra rd h1 h6 h9 => ?_⟩
  walk_at "ev"
  have hrl := rd.len
  refine i_lcg ?_
  walk_at "ev"
  refine ⟨ra, rfl, ⟨_, SqL.of hra⟩, lc_newL (SqL.of hra) (by rw [List.length_map]; omega) (fun i y Hx => ∃ l r, y = .ref l ∧ R[i]? = some r ∧ Hx l = some (.lst (r.map oV))) (fun i y Ha Hb ⟨l, r, e1, e2, e3⟩ sm => ⟨l, r, e1, e2, sm _ _ e3⟩) (fun x Ha q hq => hq) (fun i x Ha hx sa q hq => ?_) fun ys H5 s5 hyl hy ha hha => ?_⟩
  · rw [List.getElem?_map] at hx
    obtain ⟨r, hr, rfl⟩ := Option.map_eq_some_iff.mp hx
    obtain ⟨row, er, hrow⟩ := rd.at hr
    walk_at "caps"
    walk_at "ev"
    refine i_listL (SqL.of (sa _ _ hrow)) fun l hl => ?_
    exact hq _ _ (same_upd hl) ⟨l, row, rfl, er, upd_same⟩
  rw [List.length_map, hrl] at hyl
  obtain ⟨hs, rfl, rd5⟩ := rd_of hyl hy
  have s6 := s5.trans (same_upd (o := .lst (hs.map V.ref)) hha)
  have c6 : upd H5 ha (.lst (hs.map V.ref)) ha = some (.lst (hs.map V.ref)) := upd_same
  have rd6 := rd5.same (same_upd (o := .lst (hs.map V.ref)) hha)
  generalize upd H5 ha (.lst (hs.map V.ref)) = H6 at s6 c6 rd6 ⊢
  have few := few_of (R := R) sh hcl h6 h9
  walk_at "ev"
  refine ⟨hp, ha, F, hs, R, rfl, j3.hv.same (s4.trans s6), SqL.of c6, rd6.rw, few, fun lf ts q qs H7 b nlf s7 hlf qa => ?_⟩
  have s47 := s4.trans (s6.trans s7)
  have hqs := Bfs_few b
  have hqb := b.bound
  have hft := few.t
  have hwy := Bfs_ways b
  obtain ⟨ks, ky⟩ := bfs_keys b
  walk_at "ev"
  refine i_isiL_list hlf ?_
  walk_at "ev"
  have hh : Hd K H7 lf ra d F R qs ts rs kvs ca gs cs := ⟨hlf, qa, (s6.trans s7) _ _ hra, rd.same (s6.trans s7), .inl (s47 _ _ hd), ds.mv (fun _ _ => rfl) fun l xs _ _ _ h => s47 _ _ h, sh⟩
  refine ⟨lf, ra, d, rfl, F, R, qs, ts, rs, kvs, ca, gs, cs, q, ks, hh, b, ky, by omega, fun x hx => ?_, fun dk tk H8 s8 odk htk okt => ?_⟩
  · have := hwy x (bfs_sub b x hx)
    omega
  walk_at "ev"
  exact ⟨lf, dk, ra, d, rfl, F, R, qs, ts, rs, kvs, ca, gs, cs, ks, tk, hh.same s8, ky, bfs_nodup b, fun x hx => (b.good.2 x hx).there, odk, htk, okt, h6, h9, h⟩
end

def top (i : Nat) : Stmt := PySem.Challenge.pw_greywalk_k09_ways_in_order.main.body.getD i (.Pass ⟨0, 0, 0, 0⟩)
abbrev s_Cell___init__ : Stmt := inClass (top 5) 0
abbrev s_Cell_units : Stmt := inClass (top 5) 1
abbrev s_Heap___init__ : Stmt := inClass (top 6) 0
abbrev s_Heap_make : Stmt := inClass (top 6) 1
abbrev s_Heap_lay : Stmt := inClass (top 6) 2
abbrev s_Heap_back : Stmt := inClass (top 6) 3
abbrev s_Heap_free : Stmt := inClass (top 6) 4
abbrev s_cell_at : Stmt := top 7
abbrev s_reached : Stmt := top 9
abbrev s_onward : Stmt := top 10
abbrev s__law_cell_at : Stmt := top 12
abbrev s__law_whole : Stmt := top 13
abbrev s__law_mixed : Stmt := top 14
abbrev s__law_many : Stmt := top 15
abbrev s__law_left : Stmt := top 16
abbrev s__law_heap : Stmt := top 17
abbrev s__law_link : Stmt := top 18
abbrev s__law_links : Stmt := top 19
abbrev s__law_slot : Stmt := top 20
abbrev s__law_rows : Stmt := top 21
abbrev s__law_key : Stmt := top 22
abbrev s__law_at_key : Stmt := top 23
abbrev s__law_keys : Stmt := top 24
abbrev s__law_told_by : Stmt := top 25
abbrev s__law_least : Stmt := top 26
abbrev s_law : Stmt := top 27
structure Txt (K : PySem.W.Frag) (mg : Str → Option Value) (C_Cell C_Heap C_Full f_Cell___init__ f_Cell_units f_Heap___init__ f_Heap_make f_Heap_lay f_Heap_back f_Heap_free f_cell_at f_reached f_onward f__law_cell_at f__law_whole f__law_mixed f__law_many f__law_left f__law_heap f__law_link f__law_links f__law_slot f__law_rows f__law_key f__law_at_key f__law_keys f__law_told_by f__law_least : Addr) : Prop where
  cl_Cell : Cls K C_Cell
  m_Cell : mg "Cell" = some (.ref C_Cell)
  mk_Cell : Mk K C_Cell f_Cell___init__
  n_Cell_birth : NoAttr K C_Cell "birth"
  n_Cell_bulk : NoAttr K C_Cell "bulk"
  n_Cell_tone : NoAttr K C_Cell "tone"
  n_Cell_load : NoAttr K C_Cell "load"
  n_Cell_fields : NoAttr K C_Cell "fields"
  eq_Cell : G.EqD K C_Cell
  cl_Heap : Cls K C_Heap
  m_Heap : mg "Heap" = some (.ref C_Heap)
  mk_Heap : Mk K C_Heap f_Heap___init__
  n_Heap_room : NoAttr K C_Heap "room"
  n_Heap_cells : NoAttr K C_Heap "cells"
  n_Heap_used : NoAttr K C_Heap "used"
  n_Heap_born : NoAttr K C_Heap "born"
  m_Full : mg "Full" = some (.ref C_Full)
  x_Full : G.ExcK K C_Full
  me_Cell___init__ : Meth K C_Cell "__init__" f_Cell___init__
  me_Cell_units : Meth K C_Cell "units" f_Cell_units
  me_Heap___init__ : Meth K C_Heap "__init__" f_Heap___init__
  me_Heap_make : Meth K C_Heap "make" f_Heap_make
  me_Heap_lay : Meth K C_Heap "lay" f_Heap_lay
  me_Heap_back : Meth K C_Heap "back" f_Heap_back
  me_Heap_free : Meth K C_Heap "free" f_Heap_free
  m_cell_at : mg "cell_at" = some (.ref f_cell_at)
  m_reached : mg "reached" = some (.ref f_reached)
  m_onward : mg "onward" = some (.ref f_onward)
  m__law_cell_at : mg "_law_cell_at" = some (.ref f__law_cell_at)
  m__law_whole : mg "_law_whole" = some (.ref f__law_whole)
  m__law_mixed : mg "_law_mixed" = some (.ref f__law_mixed)
  m__law_many : mg "_law_many" = some (.ref f__law_many)
  m__law_left : mg "_law_left" = some (.ref f__law_left)
  m__law_heap : mg "_law_heap" = some (.ref f__law_heap)
  m__law_link : mg "_law_link" = some (.ref f__law_link)
  m__law_links : mg "_law_links" = some (.ref f__law_links)
  m__law_slot : mg "_law_slot" = some (.ref f__law_slot)
  m__law_rows : mg "_law_rows" = some (.ref f__law_rows)
  m__law_key : mg "_law_key" = some (.ref f__law_key)
  m__law_at_key : mg "_law_at_key" = some (.ref f__law_at_key)
  m__law_keys : mg "_law_keys" = some (.ref f__law_keys)
  m__law_told_by : mg "_law_told_by" = some (.ref f__law_told_by)
  m__law_least : mg "_law_least" = some (.ref f__law_least)
  z_bool : mg "bool" = none
  z_enumerate : mg "enumerate" = none
  z_int : mg "int" = none
  z_isinstance : mg "isinstance" = none
  z_len : mg "len" = none
  z_list : mg "list" = none
  z_max : mg "max" = none
  z_range : mg "range" = none
  z_tuple : mg "tuple" = none
theorem sc_Cell___init__ : FnScope ["self", "birth", "many", "bulk", "tone"] ["self", "birth", "many", "bulk", "tone"] (defScope s_Cell___init__) := ⟨rfl, rfl, rfl, by decide +kernel, rfl, by decide +kernel, by decide +kernel⟩
theorem sc_Cell_units : FnScope ["self"] ["self"] (defScope s_Cell_units) := ⟨rfl, rfl, rfl, by decide +kernel, rfl, by decide +kernel, by decide +kernel⟩
theorem sc_Heap___init__ : FnScope ["self", "room"] ["self", "room"] (defScope s_Heap___init__) := ⟨rfl, rfl, rfl, by decide +kernel, rfl, by decide +kernel, by decide +kernel⟩
theorem sc_Heap_make : FnScope ["self", "many", "bulk", "tone", "cell"] ["self", "many", "bulk", "tone"] (defScope s_Heap_make) := ⟨rfl, rfl, rfl, by decide +kernel, rfl, by decide +kernel, by decide +kernel⟩
theorem sc_Heap_lay : FnScope ["self", "cell", "place"] ["self", "cell"] (defScope s_Heap_lay) := ⟨rfl, rfl, rfl, by decide +kernel, rfl, by decide +kernel, by decide +kernel⟩
theorem sc_Heap_back : FnScope ["self", "place", "cell"] ["self", "place"] (defScope s_Heap_back) := ⟨rfl, rfl, rfl, by decide +kernel, rfl, by decide +kernel, by decide +kernel⟩
theorem sc_Heap_free : FnScope ["self"] ["self"] (defScope s_Heap_free) := ⟨rfl, rfl, rfl, by decide +kernel, rfl, by decide +kernel, by decide +kernel⟩
theorem sc_cell_at : FnScope ["heap", "place"] ["heap", "place"] (defScope s_cell_at) := ⟨rfl, rfl, rfl, by decide +kernel, rfl, by decide +kernel, by decide +kernel⟩
theorem sc_reached : FnScope ["heap", "rows", "queue", "number", "row", "listed", "taken", "place", "way"] ["heap", "rows"] (defScope s_reached) := ⟨rfl, rfl, rfl, by decide +kernel, rfl, by decide +kernel, by decide +kernel⟩
theorem sc_onward : FnScope ["heap", "places", "way"] ["heap", "places", "way"] (defScope s_onward) := ⟨rfl, rfl, rfl, by decide +kernel, rfl, by decide +kernel, by decide +kernel⟩
theorem sc__law_cell_at : FnScope ["_law_script", "_law_k"] ["_law_script", "_law_k"] (defScope s__law_cell_at) := ⟨rfl, rfl, rfl, by decide +kernel, rfl, by decide +kernel, by decide +kernel⟩
theorem sc__law_whole : FnScope ["_law_found"] ["_law_found"] (defScope s__law_whole) := ⟨rfl, rfl, rfl, by decide +kernel, rfl, by decide +kernel, by decide +kernel⟩
theorem sc__law_mixed : FnScope ["_law_cell", "_law_one", "_law_two", "_law_drawn"] ["_law_cell", "_law_one", "_law_two"] (defScope s__law_mixed) := ⟨rfl, rfl, rfl, by decide +kernel, rfl, by decide +kernel, by decide +kernel⟩
theorem sc__law_many : FnScope ["_law_cell"] ["_law_cell"] (defScope s__law_many) := ⟨rfl, rfl, rfl, by decide +kernel, rfl, by decide +kernel, by decide +kernel⟩
theorem sc__law_left : FnScope ["_law_cell"] ["_law_cell"] (defScope s__law_left) := ⟨rfl, rfl, rfl, by decide +kernel, rfl, by decide +kernel, by decide +kernel⟩
theorem sc__law_heap : FnScope ["_law_cells", "_law_heap_here", "_law_cell", "_law_place"] ["_law_cells"] (defScope s__law_heap) := ⟨rfl, rfl, rfl, by decide +kernel, rfl, by decide +kernel, by decide +kernel⟩
theorem sc__law_link : FnScope ["_law_drawn", "_law_rank", "_law_spot", "_law_there", "_law_total", "_law_pick"] ["_law_drawn", "_law_rank", "_law_spot", "_law_there", "_law_total"] (defScope s__law_link) := ⟨rfl, rfl, rfl, by decide +kernel, rfl, by decide +kernel, by decide +kernel⟩
theorem sc__law_links : FnScope ["_law_heap_here", "_law_cells", "_law_links_here", "_law_place", "_law_there", "_law_rank", "_law_inner", "_law_spot", "_law_drawn", "_law_other"] ["_law_heap_here", "_law_cells"] (defScope s__law_links) := ⟨rfl, rfl, rfl, by decide +kernel, rfl, by decide +kernel, by decide +kernel⟩
theorem sc__law_slot : FnScope ["_law_drawn", "_law_total"] ["_law_drawn", "_law_total"] (defScope s__law_slot) := ⟨rfl, rfl, rfl, by decide +kernel, rfl, by decide +kernel, by decide +kernel⟩
theorem sc__law_rows : FnScope ["_law_first", "_law_second", "_law_total", "_law_rows_here", "_law_row", "_law_slots", "_law_slot_here"] ["_law_first", "_law_second", "_law_total"] (defScope s__law_rows) := ⟨rfl, rfl, rfl, by decide +kernel, rfl, by decide +kernel, by decide +kernel⟩
theorem sc__law_key : FnScope ["_law_way", "_law_numbers", "_law_part"] ["_law_way", "_law_numbers"] (defScope s__law_key) := ⟨rfl, rfl, rfl, by decide +kernel, rfl, by decide +kernel, by decide +kernel⟩
theorem sc__law_at_key : FnScope ["_law_key_here", "_law_found", "_law_rows_here", "_law_links_here", "_law_entries"] ["_law_key_here", "_law_found", "_law_rows_here", "_law_links_here"] (defScope s__law_at_key) := ⟨rfl, rfl, rfl, by decide +kernel, rfl, by decide +kernel, by decide +kernel⟩
theorem sc__law_keys : FnScope ["_law_found", "_law_rows_here", "_law_links_here", "_law_keys_here", "_law_numbers", "_law_last", "_law_number", "_law_pair", "_law_key_here"] ["_law_found", "_law_rows_here", "_law_links_here"] (defScope s__law_keys) := ⟨rfl, rfl, rfl, by decide +kernel, rfl, by decide +kernel, by decide +kernel⟩
theorem sc__law_told_by : FnScope ["_law_keys_here", "_law_place", "_law_key_here"] ["_law_keys_here", "_law_place", "_law_key_here"] (defScope s__law_told_by) := ⟨rfl, rfl, rfl, by decide +kernel, rfl, by decide +kernel, by decide +kernel⟩
theorem sc__law_least : FnScope ["_law_found", "_law_keys_here", "_law_rows_here", "_law_links_here", "_law_row", "_law_slot_here", "_law_place", "_law_number", "_law_pair", "_law_spot"] ["_law_found", "_law_keys_here", "_law_rows_here", "_law_links_here"] (defScope s__law_least) := ⟨rfl, rfl, rfl, by decide +kernel, rfl, by decide +kernel, by decide +kernel⟩
theorem sc_law : FnScope ["_law_script", "_law_cells", "_law_heap_here", "_law_links_here", "_law_rows_here", "_law_found", "_law_keys_here"] ["_law_script"] (defScope s_law) := ⟨rfl, rfl, rfl, by decide +kernel, rfl, by decide +kernel, by decide +kernel⟩
section
variable {P : Program} {w : World} {K : PySem.W.Frag} {mg : Str → Option Value} {base : Heap} {C_Cell C_Heap C_Full f_Cell___init__ f_Cell_units f_Heap___init__ f_Heap_make f_Heap_lay f_Heap_back f_Heap_free f_cell_at f_reached f_onward f__law_cell_at f__law_whole f__law_mixed f__law_many f__law_left f__law_heap f__law_link f__law_links f__law_slot f__law_rows f__law_key f__law_at_key f__law_keys f__law_told_by f__law_least : Addr} (T : Txt K mg C_Cell C_Heap C_Full f_Cell___init__ f_Cell_units f_Heap___init__ f_Heap_make f_Heap_lay f_Heap_back f_Heap_free f_cell_at f_reached f_onward f__law_cell_at f__law_whole f__law_mixed f__law_many f__law_left f__law_heap f__law_link f__law_links f__law_slot f__law_rows f__law_key f__law_at_key f__law_keys f__law_told_by f__law_least)
include T
theorem ok_Cell___init__ {fd : FuncData} (F : Fun K "__init__" "Cell.__init__" s_Cell___init__ f_Cell___init__ fd) : FnOk P w K mg base (G.CXe P w) 1 f_Cell___init__ fd ["self", "birth", "many", "bulk", "tone"] (S_Cell_init C_Cell) := by
  have sc := sc_Cell___init__
  have tx : TxC K C_Cell C_Heap := ⟨T.cl_Cell, T.n_Cell_birth, T.n_Cell_bulk, T.n_Cell_tone, T.n_Cell_load, T.n_Cell_fields, T.cl_Heap, T.n_Heap_room, T.n_Heap_cells, T.n_Heap_used, T.n_Heap_born, T.eq_Cell⟩
  refine G.fok F sc (fun vs H Q E h => ?_) (fun cdv A outer s H vs Q E hr h => ?_)
  · obtain ⟨z0, z1, z2, z3, z4, rfl, q⟩ := h; rfl
  · refine ⟨rd_Cell___init__ K, (pss_cons (ps_fld (pv 0) (pv 1) rfl)
      (pss_cons (ps_fld (pv 0) (pv 3) rfl)
      (pss_cons (ps_fld (pv 0) (pv 4) rfl)
      (pss_cons (ps_fld (pv 0) (pe_int) rfl)
      (pss_one (ps_fld (pv 0) (pe_op op_rep (pe_lst (pa_cons (pe_non) pa_nil)) (pv 2)) rfl)))))), ?_⟩
    obtain ⟨z0, z1, z2, z3, z4, rfl, q⟩ := h
    exact Cell___init___rd tx q
theorem ok_Cell_units {fd : FuncData} (F : Fun K "units" "Cell.units" s_Cell_units f_Cell_units fd) : FnOk P w K mg base (G.CXe P w) 1 f_Cell_units fd ["self"] (S_Cell_units C_Cell) := by
  have sc := sc_Cell_units
  have tx : TxC K C_Cell C_Heap := ⟨T.cl_Cell, T.n_Cell_birth, T.n_Cell_bulk, T.n_Cell_tone, T.n_Cell_load, T.n_Cell_fields, T.cl_Heap, T.n_Heap_room, T.n_Heap_cells, T.n_Heap_used, T.n_Heap_born, T.eq_Cell⟩
  refine G.fok F sc (fun vs H Q E h => ?_) (fun cdv A outer s H vs Q E hr h => ?_)
  · obtain ⟨z0, rfl, q⟩ := h; rfl
  · refine ⟨rd_Cell_units K, (pss_one (ps_ret (pe_op op_add (pe_op op_add (pe_int) (pe_callB G.call_lenL (by rfl) T.z_len G.boot_len (pa_cons (pe_fld (pv 0) rfl) pa_nil))) (pe_fld (pv 0) rfl)))), ?_⟩
    obtain ⟨z0, rfl, q⟩ := h
    exact Cell_units_rd tx q
theorem ok_Heap___init__ {fd : FuncData} (F : Fun K "__init__" "Heap.__init__" s_Heap___init__ f_Heap___init__ fd) : FnOk P w K mg base (G.CXe P w) 1 f_Heap___init__ fd ["self", "room"] (S_Heap_init C_Heap) := by
  have sc := sc_Heap___init__
  have tx : TxC K C_Cell C_Heap := ⟨T.cl_Cell, T.n_Cell_birth, T.n_Cell_bulk, T.n_Cell_tone, T.n_Cell_load, T.n_Cell_fields, T.cl_Heap, T.n_Heap_room, T.n_Heap_cells, T.n_Heap_used, T.n_Heap_born, T.eq_Cell⟩
  refine G.fok F sc (fun vs H Q E h => ?_) (fun cdv A outer s H vs Q E hr h => ?_)
  · obtain ⟨z0, z1, rfl, q⟩ := h; rfl
  · refine ⟨rd_Heap___init__ K, (pss_cons (ps_fld (pv 0) (pv 1) rfl)
      (pss_cons (ps_fld (pv 0) (pe_lst pa_nil) rfl)
      (pss_cons (ps_fld (pv 0) (pe_int) rfl)
      (pss_one (ps_fld (pv 0) (pe_int) rfl))))), ?_⟩
    obtain ⟨z0, z1, rfl, q⟩ := h
    exact Heap___init___rd tx q
theorem ok_Heap_make {fd : FuncData} (F : G.FunD K "make" "Heap.make" s_Heap_make f_Heap_make fd) {fd_Cell___init__ : FuncData} (G_Cell___init__ : FnOk P w K mg base (G.CXe P w) 1 f_Cell___init__ fd_Cell___init__ ["self", "birth", "many", "bulk", "tone"] (S_Cell_init C_Cell)) (b_Cell___init__ : Binds K fd_Cell___init__ ["self", "birth", "many", "bulk", "tone"] []) (k_Cell___init__ : PySem.W.keepIn K (.ref f_Cell___init__) = true) {fd_Cell_units : FuncData} (G_Cell_units : FnOk P w K mg base (G.CXe P w) 1 f_Cell_units fd_Cell_units ["self"] (S_Cell_units C_Cell)) (b_Cell_units : Binds K fd_Cell_units ["self"] []) (k_Cell_units : PySem.W.keepIn K (.ref f_Cell_units) = true) {fd_Heap_free : FuncData} (G_Heap_free : FnOk P w K mg base (G.CXe P w) 1 f_Heap_free fd_Heap_free ["self"] (S_Heap_free C_Heap)) (b_Heap_free : Binds K fd_Heap_free ["self"] []) (k_Heap_free : PySem.W.keepIn K (.ref f_Heap_free) = true) {fd_Heap_lay : FuncData} (G_Heap_lay : FnOk P w K mg base (G.CXe P w) 1 f_Heap_lay fd_Heap_lay ["self", "cell"] (S_Heap_lay K C_Heap)) (b_Heap_lay : Binds K fd_Heap_lay ["self", "cell"] []) (k_Heap_lay : PySem.W.keepIn K (.ref f_Heap_lay) = true) : FnOk P w K mg base (G.CXe P w) 3 f_Heap_make fd ["self", "many", "bulk", "tone"] (S_Heap_make K C_Cell C_Heap C_Full) := by
  have sc := sc_Heap_make
  have tx : TxC K C_Cell C_Heap := ⟨T.cl_Cell, T.n_Cell_birth, T.n_Cell_bulk, T.n_Cell_tone, T.n_Cell_load, T.n_Cell_fields, T.cl_Heap, T.n_Heap_room, T.n_Heap_cells, T.n_Heap_used, T.n_Heap_born, T.eq_Cell⟩
  refine G.fokDX F sc (fun vs H Q E h => ?_) (fun cdv A outer s H vs Q E hr h => ?_)
  · obtain ⟨z0, z1, z2, z3, rfl, q⟩ := h; rfl
  · refine ⟨rd_Heap_make K C_Cell C_Full C_Heap (S_Cell_init C_Cell) (S_Cell_units C_Cell) (S_Heap_free C_Heap) (S_Heap_lay K C_Heap) E, (pss_cons (ps_set (i := 4) sc.nd rfl (Or.inl rfl) (pe_make T.mk_Cell G_Cell___init__ (hr.mono (by decide)) rfl T.m_Cell b_Cell___init__ .nil G.passE0 (pa_cons (pe_op op_add (pe_fld (pv 0) rfl) (pe_int)) (pa_cons (pv 1) (pa_cons (pv 2) (pa_cons (pv 3) pa_nil))))))
      (pss_cons (ps_if (pt_cmpR op_gt (pe_meth0 (pv 4) T.cl_Cell T.me_Cell_units G_Cell_units (hr.mono (by decide)) b_Cell_units .nil G.passE0) (pe_meth0 (pv 0) T.cl_Heap T.me_Heap_free G_Heap_free (hr.mono (by decide)) b_Heap_free .nil G.passE0) (nomark _)) (pss_one (G.ps_raise rfl rfl T.m_Full T.x_Full (pa_cons (pe_str) pa_nil) (fun _ _ _ _ _ _ _ I hx hE => G.raiseL I hx hE))) pss_nil)
      (pss_cons (ps_fld (pv 0) (pe_fld (pv 4) rfl) rfl)
      (pss_cons (ps_fld (pv 0) (pe_op op_add (pe_fld (pv 0) rfl) (pe_meth0 (pv 4) T.cl_Cell T.me_Cell_units G_Cell_units (hr.mono (by decide)) b_Cell_units .nil G.passE0)) rfl)
      (pss_one (ps_ret (pe_meth (pv 0) T.cl_Heap T.me_Heap_lay G_Heap_lay (hr.mono (by decide)) b_Heap_lay .nil G.passE0 (pa_cons (pv 4) pa_nil)))))))), ?_⟩
    obtain ⟨z0, z1, z2, z3, rfl, q⟩ := h
    exact Heap_make_rd tx q
theorem ok_Heap_lay {fd : FuncData} (F : Fun K "lay" "Heap.lay" s_Heap_lay f_Heap_lay fd) : FnOk P w K mg base (G.CXe P w) 1 f_Heap_lay fd ["self", "cell"] (S_Heap_lay K C_Heap) := by
  have sc := sc_Heap_lay
  have tx : TxC K C_Cell C_Heap := ⟨T.cl_Cell, T.n_Cell_birth, T.n_Cell_bulk, T.n_Cell_tone, T.n_Cell_load, T.n_Cell_fields, T.cl_Heap, T.n_Heap_room, T.n_Heap_cells, T.n_Heap_used, T.n_Heap_born, T.eq_Cell⟩
  refine G.fok F sc (fun vs H Q E h => ?_) (fun cdv A outer s H vs Q E hr h => ?_)
  · obtain ⟨z0, z1, rfl, q⟩ := h; rfl
  · refine ⟨rd_Heap_lay K, (pss_cons (ps_if (pt_cmpR (G.op_notInN (hu_of hr)) (pe_non) (pe_fld (pv 0) rfl) (by with_unfolding_all rfl)) (pss_cons (ps_expr (pe_bm PySem.F.plainAttrs_list PySem.F.slot_list_append PySem.F.type_list_append mt_append (pe_fld (pv 0) rfl) (pa_cons (pv 1) pa_nil)))
      (pss_one (ps_ret (pe_op op_sub (pe_callB G.call_lenL (by rfl) T.z_len G.boot_len (pa_cons (pe_fld (pv 0) rfl) pa_nil)) (pe_int))))) pss_nil)
      (pss_cons (ps_set (i := 2) sc.nd rfl (Or.inl rfl) (pe_bm PySem.F.plainAttrs_list PySem.F.slot_list_index PySem.F.type_list_index (G.mt_indexN (hu_of hr)) (pe_fld (pv 0) rfl) (pa_cons (pe_non) pa_nil)))
      (pss_cons (ps_asg (pv 1) (pg_sub (pe_fld (pv 0) rfl) (pv 2) set_list))
      (pss_one (ps_ret (pv 2)))))), ?_⟩
    obtain ⟨z0, z1, rfl, q⟩ := h
    exact Heap_lay_rd tx q
theorem ok_Heap_back {fd : FuncData} (F : Fun K "back" "Heap.back" s_Heap_back f_Heap_back fd) {fd_Cell_units : FuncData} (G_Cell_units : FnOk P w K mg base (G.CXe P w) 1 f_Cell_units fd_Cell_units ["self"] (S_Cell_units C_Cell)) (b_Cell_units : Binds K fd_Cell_units ["self"] []) (k_Cell_units : PySem.W.keepIn K (.ref f_Cell_units) = true) : FnOk P w K mg base (G.CXe P w) 2 f_Heap_back fd ["self", "place"] (S_Heap_back C_Cell C_Heap) := by
  have sc := sc_Heap_back
  have tx : TxC K C_Cell C_Heap := ⟨T.cl_Cell, T.n_Cell_birth, T.n_Cell_bulk, T.n_Cell_tone, T.n_Cell_load, T.n_Cell_fields, T.cl_Heap, T.n_Heap_room, T.n_Heap_cells, T.n_Heap_used, T.n_Heap_born, T.eq_Cell⟩
  refine G.fok F sc (fun vs H Q E h => ?_) (fun cdv A outer s H vs Q E hr h => ?_)
  · obtain ⟨z0, z1, rfl, q⟩ := h; rfl
  · refine ⟨rd_Heap_back K C_Cell (S_Cell_units C_Cell), (pss_cons (ps_set (i := 2) sc.nd rfl (Or.inl rfl) (pe_ix ix_list (pe_fld (pv 0) rfl) (pv 1) (fun _ _ => rfl)))
      (pss_cons (ps_fld (pv 0) (pe_op op_sub (pe_fld (pv 0) rfl) (pe_meth0 (pv 2) T.cl_Cell T.me_Cell_units G_Cell_units (hr.mono (by decide)) b_Cell_units .nil G.passE0)) rfl)
      (pss_cons (ps_asg (pe_non) (pg_sub (pe_fld (pv 0) rfl) (pv 1) set_list))
      (pss_one (ps_ret (pe_fld (pv 2) rfl)))))), ?_⟩
    obtain ⟨z0, z1, rfl, q⟩ := h
    exact Heap_back_rd tx q
theorem ok_Heap_free {fd : FuncData} (F : Fun K "free" "Heap.free" s_Heap_free f_Heap_free fd) : FnOk P w K mg base (G.CXe P w) 1 f_Heap_free fd ["self"] (S_Heap_free C_Heap) := by
  have sc := sc_Heap_free
  have tx : TxC K C_Cell C_Heap := ⟨T.cl_Cell, T.n_Cell_birth, T.n_Cell_bulk, T.n_Cell_tone, T.n_Cell_load, T.n_Cell_fields, T.cl_Heap, T.n_Heap_room, T.n_Heap_cells, T.n_Heap_used, T.n_Heap_born, T.eq_Cell⟩
  refine G.fok F sc (fun vs H Q E h => ?_) (fun cdv A outer s H vs Q E hr h => ?_)
  · obtain ⟨z0, rfl, q⟩ := h; rfl
  · refine ⟨rd_Heap_free K, (pss_one (ps_ret (pe_op op_sub (pe_fld (pv 0) rfl) (pe_fld (pv 0) rfl)))), ?_⟩
    obtain ⟨z0, rfl, q⟩ := h
    exact Heap_free_rd tx q
theorem ok_cell_at {fd : FuncData} (F : Fun K "cell_at" "cell_at" s_cell_at f_cell_at fd) : FnOk P w K mg base (G.CXe P w) 1 f_cell_at fd ["heap", "place"] (S_cellv C_Cell C_Heap) := by
  have sc := sc_cell_at
  have tx : TxC K C_Cell C_Heap := ⟨T.cl_Cell, T.n_Cell_birth, T.n_Cell_bulk, T.n_Cell_tone, T.n_Cell_load, T.n_Cell_fields, T.cl_Heap, T.n_Heap_room, T.n_Heap_cells, T.n_Heap_used, T.n_Heap_born, T.eq_Cell⟩
  refine G.fok F sc (fun vs H Q E h => ?_) (fun cdv A outer s H vs Q E hr h => ?_)
  · obtain ⟨z0, z1, z2, rfl, q⟩ := h; rfl
  · refine ⟨rd_cell_at K, (pss_cons (ps_if (PW.pt (pw_or (pt_cmpR G.op_isN_ (pv 1) (pe_non) (nomark _)) (pw_or (pt_cmpR op_lt (pv 1) (pe_int) (nomark _)) (pw_or1 (pt_cmpR op_ge (pv 1) (pe_callB G.call_lenL (by rfl) T.z_len G.boot_len (pa_cons (pe_fld (pv 0) rfl) pa_nil)) (nomark _)))))) (pss_one (ps_ret (pe_non))) pss_nil)
      (pss_one (ps_ret (pe_ix ix_list (pe_fld (pv 0) rfl) (pv 1) (fun _ _ => rfl))))), ?_⟩
    obtain ⟨z0, z1, z2, rfl, q⟩ := h
    exact cell_at_rd tx q
theorem ok_reached {fd : FuncData} (F : Fun K "reached" "reached" s_reached f_reached fd) {fd_onward : FuncData} (G_onward : FnOk P w K mg base (G.CXe P w) 2 f_onward fd_onward ["heap", "places", "way"] (S_onward K C_Cell C_Heap)) (b_onward : Binds K fd_onward ["heap", "places", "way"] []) (k_onward : PySem.W.keepIn K (.ref f_onward) = true) : FnOk P w K mg base (G.CXe P w) 3 f_reached fd ["heap", "rows"] (S_reached K C_Cell C_Heap) := by
  have sc := sc_reached
  have tx : TxC K C_Cell C_Heap := ⟨T.cl_Cell, T.n_Cell_birth, T.n_Cell_bulk, T.n_Cell_tone, T.n_Cell_load, T.n_Cell_fields, T.cl_Heap, T.n_Heap_room, T.n_Heap_cells, T.n_Heap_used, T.n_Heap_born, T.eq_Cell⟩
  refine G.fok F sc (fun vs H Q E h => ?_) (fun cdv A outer s H vs Q E hr h => ?_)
  · obtain ⟨z0, z1, z2, z3, z4, rfl, q⟩ := h; rfl
  · refine ⟨rd_reached K (S_onward K C_Cell C_Heap), (pss_cons (ps_set (i := 2) sc.nd rfl (Or.inl rfl) (pe_lst pa_nil))
      (pss_cons (ps_for PassesOwn.never rfl (G.pi_enum rfl T.z_enumerate (pa_cons (pv 1) pa_nil)) (pg_tup rfl (pgs_cons (pg_name (i := 3) sc.nd rfl (Or.inl rfl)) (pgs_cons (pg_name (i := 4) sc.nd rfl (Or.inl rfl)) pgs_nil)))
      (pss_one (ps_expr (pe_bm PySem.F.plainAttrs_list PySem.F.slot_list_extend PySem.F.type_list_extend mt_extend (pv 2) (pa_cons (pe_call G_onward (hr.mono (by decide)) rfl T.m_onward k_onward b_onward .nil G.passE0 (pa_cons (pv 0) (pa_cons (pv 4) (pa_cons (pe_tup (pa_cons (pv 3) pa_nil)) pa_nil)))) pa_nil)))))
      (pss_cons (ps_set (i := 5) sc.nd rfl (Or.inl rfl) (pe_dnewK))
      (pss_cons (ps_set (i := 6) sc.nd rfl (Or.inl rfl) (pe_int))
      (pss_cons (ps_while PassesOwn.never (pt_cmpR op_lt (pv 6) (pe_callB G.call_lenL (by rfl) T.z_len G.boot_len (pa_cons (pv 2) pa_nil)) (nomark _)) (pss_cons (ps_set (i := 7) sc.nd rfl (Or.inl rfl) (pe_ix ix_tup (pe_ix ix_list (pv 2) (pv 6) (fun _ _ => rfl)) (pe_int) (fun _ _ => rfl)))
      (pss_cons (ps_set (i := 8) sc.nd rfl (Or.inl rfl) (pe_ix ix_tup (pe_ix ix_list (pv 2) (pv 6) (fun _ _ => rfl)) (pe_int) (fun _ _ => rfl)))
      (pss_cons (ps_set (i := 6) sc.nd rfl (Or.inl rfl) (pe_op op_add (pv 6) (pe_int)))
      (pss_one (ps_if (pt_cmp (G.pc_dnotinN (hu_of hr) (pv 7) (pv 5))) (pss_cons (ps_dput (hu_of hr) (pv 5) (pv 7) (pv 8) rfl)
      (pss_one (ps_expr (pe_bm PySem.F.plainAttrs_list PySem.F.slot_list_extend PySem.F.type_list_extend mt_extend (pv 2) (pa_cons (pe_call G_onward (hr.mono (by decide)) rfl T.m_onward k_onward b_onward .nil G.passE0 (pa_cons (pv 0) (pa_cons (pe_fld (pe_ix ix_list (pe_fld (pv 0) rfl) (pv 7) (fun _ _ => rfl)) rfl) (pa_cons (pv 8) pa_nil)))) pa_nil))))) pss_nil))))))
      (pss_one (ps_ret (pe_callTy (G.call_listI rfl) (by rfl) T.z_list G.boot_list (pa_cons (G.pe_items (pv 5)) pa_nil))))))))), ?_⟩
    obtain ⟨z0, z1, z2, z3, z4, rfl, q⟩ := h
    exact reached_rd tx q
theorem ok_onward {fd : FuncData} (F : Fun K "onward" "onward" s_onward f_onward fd) {fd_cell_at : FuncData} (G_cell_at : FnOk P w K mg base (G.CXe P w) 1 f_cell_at fd_cell_at ["heap", "place"] (S_cellv C_Cell C_Heap)) (b_cell_at : Binds K fd_cell_at ["heap", "place"] []) (k_cell_at : PySem.W.keepIn K (.ref f_cell_at) = true) : FnOk P w K mg base (G.CXe P w) 2 f_onward fd ["heap", "places", "way"] (S_onward K C_Cell C_Heap) := by
  have sc := sc_onward
  have tx : TxC K C_Cell C_Heap := ⟨T.cl_Cell, T.n_Cell_birth, T.n_Cell_bulk, T.n_Cell_tone, T.n_Cell_load, T.n_Cell_fields, T.cl_Heap, T.n_Heap_room, T.n_Heap_cells, T.n_Heap_used, T.n_Heap_born, T.eq_Cell⟩
  refine G.fok F sc (fun vs H Q E h => ?_) (fun cdv A outer s H vs Q E hr h => ?_)
  · obtain ⟨z0, z1, z2, z3, z4, z5, rfl, q⟩ := h; rfl
  · refine ⟨rd_onward K (S_cellv C_Cell C_Heap), (pss_one (ps_ret (G.pe_lc2 (cns := ["heap", "way"]) [0, 2] (G.pi_enum rfl T.z_enumerate (pa_cons (pv 1) pa_nil)) (fun _ _ _ _ _ => (G.pf_one (pt_cmpR G.op_notN_ (pe_call G_cell_at (hr.mono (by decide)) rfl T.m_cell_at k_cell_at b_cell_at .nil G.passE0 (pa_cons (pv 2) (pa_cons (pv 1) pa_nil))) (pe_non) (nomark _)))) (fun _ _ _ _ _ => (pe_tup (pa_cons (pv 1) (pa_cons (pe_op op_catT (pv 3) (pe_tup (pa_cons (pv 0) pa_nil))) pa_nil)))) rfl rfl (by repeat (first | exact trivial | refine ⟨rfl, ?_⟩)) (by repeat (first | exact trivial | refine ⟨rfl, ?_⟩)) rfl (by decide +kernel) rfl (by decide +kernel) (by decide +kernel) rfl rfl (by decide +kernel)))), ?_⟩
    obtain ⟨z0, z1, z2, z3, z4, z5, rfl, q⟩ := h
    exact onward_rd q
theorem ok__law_cell_at {fd : FuncData} (F : Fun K "_law_cell_at" "_law_cell_at" s__law_cell_at f__law_cell_at fd) : FnOk P w K mg base (G.CXe P w) 1 f__law_cell_at fd ["_law_script", "_law_k"] (S_at K) := by
  have sc := sc__law_cell_at
  have tx : TxC K C_Cell C_Heap := ⟨T.cl_Cell, T.n_Cell_birth, T.n_Cell_bulk, T.n_Cell_tone, T.n_Cell_load, T.n_Cell_fields, T.cl_Heap, T.n_Heap_room, T.n_Heap_cells, T.n_Heap_used, T.n_Heap_born, T.eq_Cell⟩
  refine G.fok F sc (fun vs H Q E h => ?_) (fun cdv A outer s H vs Q E hr h => ?_)
  · obtain ⟨z0, z1, rfl, q⟩ := h; rfl
  · refine ⟨rd__law_cell_at K, (pss_cons (ps_if (pt_cmpR op_lt (pv 1) (pe_callB G.call_lenL (by rfl) T.z_len G.boot_len (pa_cons (pv 0) pa_nil)) (nomark _)) (pss_one (ps_ret (pe_ix ix_list (pv 0) (pv 1) (fun _ _ => rfl)))) pss_nil)
      (pss_one (ps_ret (pe_int)))), ?_⟩
    obtain ⟨z0, z1, rfl, q⟩ := h
    exact _law_cell_at_rd q
theorem ok__law_whole {fd : FuncData} (F : Fun K "_law_whole" "_law_whole" s__law_whole f__law_whole fd) : FnOk P w K mg base (G.CXe P w) 1 f__law_whole fd ["_law_found"] (S_whole) := by
  have sc := sc__law_whole
  have tx : TxC K C_Cell C_Heap := ⟨T.cl_Cell, T.n_Cell_birth, T.n_Cell_bulk, T.n_Cell_tone, T.n_Cell_load, T.n_Cell_fields, T.cl_Heap, T.n_Heap_room, T.n_Heap_cells, T.n_Heap_used, T.n_Heap_born, T.eq_Cell⟩
  refine G.fok F sc (fun vs H Q E h => ?_) (fun cdv A outer s H vs Q E hr h => ?_)
  · obtain ⟨z0, rfl, q⟩ := h; rfl
  · refine ⟨rd__law_whole, (pss_one (ps_ret ((pe_and (pe_callB G.call_isi (by rfl) T.z_isinstance G.boot_isinstance (pa_cons (pv 0) (pa_cons (pe_bltn rfl T.z_int G.boot_int rfl) pa_nil))) (pe_one (pe_not (pe_callB G.call_isi (by rfl) T.z_isinstance G.boot_isinstance (pa_cons (pv 0) (pa_cons (pe_bltn rfl T.z_bool G.boot_bool rfl) pa_nil))))))))), ?_⟩
    obtain ⟨z0, rfl, q⟩ := h
    exact _law_whole_rd q
theorem ok__law_mixed {fd : FuncData} (F : Fun K "_law_mixed" "_law_mixed" s__law_mixed f__law_mixed fd) : FnOk P w K mg base (G.CXe P w) 1 f__law_mixed fd ["_law_cell", "_law_one", "_law_two"] (S_mix) := by
  have sc := sc__law_mixed
  have tx : TxC K C_Cell C_Heap := ⟨T.cl_Cell, T.n_Cell_birth, T.n_Cell_bulk, T.n_Cell_tone, T.n_Cell_load, T.n_Cell_fields, T.cl_Heap, T.n_Heap_room, T.n_Heap_cells, T.n_Heap_used, T.n_Heap_born, T.eq_Cell⟩
  refine G.fok F sc (fun vs H Q E h => ?_) (fun cdv A outer s H vs Q E hr h => ?_)
  · obtain ⟨z0, z1, z2, rfl, q⟩ := h; rfl
  · refine ⟨rd__law_mixed, (pss_cons (ps_set (i := 3) sc.nd rfl (Or.inl rfl) (pe_op op_add (pe_op op_add (pe_op op_add (pe_op op_add (pe_op op_mod (pv 0) (pe_int)) (pe_op op_mul (pe_op op_mul (pe_int) (pv 1)) (pv 1))) (pv 1)) (pe_op op_mul (pe_op op_mul (pe_int) (pv 2)) (pv 2))) (pv 2)))
      (pss_cons (ps_set (i := 3) sc.nd rfl (Or.inl rfl) (pe_op op_mod (pe_op op_mul (pv 3) (pe_int)) (pe_int)))
      (pss_one (ps_ret (pe_op op_mod (pe_op op_mul (pv 3) (pv 3)) (pe_int)))))), ?_⟩
    obtain ⟨z0, z1, z2, rfl, q⟩ := h
    exact _law_mixed_rd q
theorem ok__law_many {fd : FuncData} (F : Fun K "_law_many" "_law_many" s__law_many f__law_many fd) : FnOk P w K mg base (G.CXe P w) 1 f__law_many fd ["_law_cell"] (S_many) := by
  have sc := sc__law_many
  have tx : TxC K C_Cell C_Heap := ⟨T.cl_Cell, T.n_Cell_birth, T.n_Cell_bulk, T.n_Cell_tone, T.n_Cell_load, T.n_Cell_fields, T.cl_Heap, T.n_Heap_room, T.n_Heap_cells, T.n_Heap_used, T.n_Heap_born, T.eq_Cell⟩
  refine G.fok F sc (fun vs H Q E h => ?_) (fun cdv A outer s H vs Q E hr h => ?_)
  · obtain ⟨z0, rfl, q⟩ := h; rfl
  · refine ⟨rd__law_many, (pss_cons (ps_if (pt_cmpR op_eq (pe_op op_mod (pe_op op_fdiv (pv 0) (pe_int)) (pe_int)) (pe_int) (nomark _)) (pss_one (ps_ret (pe_int))) pss_nil)
      (pss_one (ps_ret (pe_op op_mod (pv 0) (pe_int))))), ?_⟩
    obtain ⟨z0, rfl, q⟩ := h
    exact _law_many_rd q
theorem ok__law_left {fd : FuncData} (F : Fun K "_law_left" "_law_left" s__law_left f__law_left fd) {fd__law_mixed : FuncData} (G__law_mixed : FnOk P w K mg base (G.CXe P w) 1 f__law_mixed fd__law_mixed ["_law_cell", "_law_one", "_law_two"] (S_mix)) (b__law_mixed : Binds K fd__law_mixed ["_law_cell", "_law_one", "_law_two"] []) (k__law_mixed : PySem.W.keepIn K (.ref f__law_mixed) = true) : FnOk P w K mg base (G.CXe P w) 2 f__law_left fd ["_law_cell"] (S_left) := by
  have sc := sc__law_left
  have tx : TxC K C_Cell C_Heap := ⟨T.cl_Cell, T.n_Cell_birth, T.n_Cell_bulk, T.n_Cell_tone, T.n_Cell_load, T.n_Cell_fields, T.cl_Heap, T.n_Heap_room, T.n_Heap_cells, T.n_Heap_used, T.n_Heap_born, T.eq_Cell⟩
  refine G.fok F sc (fun vs H Q E h => ?_) (fun cdv A outer s H vs Q E hr h => ?_)
  · obtain ⟨z0, rfl, q⟩ := h; rfl
  · refine ⟨rd__law_left (S_mix), (pss_one (ps_ret (pe_cmpR op_ne (pe_op op_mod (pe_op op_fdiv (pe_call G__law_mixed (hr.mono (by decide)) rfl T.m__law_mixed k__law_mixed b__law_mixed .nil G.passE0 (pa_cons (pv 0) (pa_cons (pe_int) (pa_cons (pe_int) pa_nil)))) (pe_int)) (pe_int)) (pe_int) (nomark _)))), ?_⟩
    obtain ⟨z0, rfl, q⟩ := h
    exact _law_left_rd q
theorem ok__law_heap {fd : FuncData} (F : Fun K "_law_heap" "_law_heap" s__law_heap f__law_heap fd) {fd_Heap___init__ : FuncData} (G_Heap___init__ : FnOk P w K mg base (G.CXe P w) 1 f_Heap___init__ fd_Heap___init__ ["self", "room"] (S_Heap_init C_Heap)) (b_Heap___init__ : Binds K fd_Heap___init__ ["self", "room"] []) (k_Heap___init__ : PySem.W.keepIn K (.ref f_Heap___init__) = true) {fd_Heap_back : FuncData} (G_Heap_back : FnOk P w K mg base (G.CXe P w) 2 f_Heap_back fd_Heap_back ["self", "place"] (S_Heap_back C_Cell C_Heap)) (b_Heap_back : Binds K fd_Heap_back ["self", "place"] []) (k_Heap_back : PySem.W.keepIn K (.ref f_Heap_back) = true) {fd_Heap_make : FuncData} (G_Heap_make : FnOk P w K mg base (G.CXe P w) 3 f_Heap_make fd_Heap_make ["self", "many", "bulk", "tone"] (S_Heap_make K C_Cell C_Heap C_Full)) (b_Heap_make : Binds K fd_Heap_make ["self", "many", "bulk", "tone"] []) (k_Heap_make : PySem.W.keepIn K (.ref f_Heap_make) = true) {fd__law_left : FuncData} (G__law_left : FnOk P w K mg base (G.CXe P w) 2 f__law_left fd__law_left ["_law_cell"] (S_left)) (b__law_left : Binds K fd__law_left ["_law_cell"] []) (k__law_left : PySem.W.keepIn K (.ref f__law_left) = true) {fd__law_many : FuncData} (G__law_many : FnOk P w K mg base (G.CXe P w) 1 f__law_many fd__law_many ["_law_cell"] (S_many)) (b__law_many : Binds K fd__law_many ["_law_cell"] []) (k__law_many : PySem.W.keepIn K (.ref f__law_many) = true) : FnOk P w K mg base (G.CXe P w) 4 f__law_heap fd ["_law_cells"] (S_heap K C_Cell C_Heap) := by
  have sc := sc__law_heap
  have tx : TxC K C_Cell C_Heap := ⟨T.cl_Cell, T.n_Cell_birth, T.n_Cell_bulk, T.n_Cell_tone, T.n_Cell_load, T.n_Cell_fields, T.cl_Heap, T.n_Heap_room, T.n_Heap_cells, T.n_Heap_used, T.n_Heap_born, T.eq_Cell⟩
  refine G.fok F sc (fun vs H Q E h => ?_) (fun cdv A outer s H vs Q E hr h => ?_)
  · obtain ⟨z0, z1, rfl, q⟩ := h; rfl
  · refine ⟨rd__law_heap K C_Heap (S_Heap_init C_Heap) (S_Heap_back C_Cell C_Heap) (S_Heap_make K C_Cell C_Heap C_Full) (S_left) (S_many), (pss_cons (ps_set (i := 1) sc.nd rfl (Or.inl rfl) (pe_make T.mk_Heap G_Heap___init__ (hr.mono (by decide)) rfl T.m_Heap b_Heap___init__ .nil G.passE0 (pa_cons (pe_op op_pow (pe_int) (pe_int)) pa_nil)))
      (pss_cons (ps_for PassesOwn.never rfl (pi_list (pv 0)) (pg_name (i := 2) sc.nd rfl (Or.inl rfl))
      (pss_one (ps_expr (pe_meth (pv 1) T.cl_Heap T.me_Heap_make G_Heap_make (hr.mono (by decide)) b_Heap_make .nil G.passE0 (pa_cons (pe_call G__law_many (hr.mono (by decide)) rfl T.m__law_many k__law_many b__law_many .nil G.passE0 (pa_cons (pv 2) pa_nil)) (pa_cons (pe_op op_mod (pe_op op_mul (pv 2) (pe_int)) (pe_int)) (pa_cons (pe_op op_mod (pe_op op_fdiv (pv 2) (pe_int)) (pe_int)) pa_nil)))))))
      (pss_cons (ps_for PassesOwn.never rfl (G.pi_enum rfl T.z_enumerate (pa_cons (pv 0) pa_nil)) (pg_tup rfl (pgs_cons (pg_name (i := 3) sc.nd rfl (Or.inl rfl)) (pgs_cons (pg_name (i := 2) sc.nd rfl (Or.inl rfl)) pgs_nil)))
      (pss_one (ps_if (pt_not (pt_val (pe_call G__law_left (hr.mono (by decide)) rfl T.m__law_left k__law_left b__law_left .nil G.passE0 (pa_cons (pv 2) pa_nil)))) (pss_one (ps_expr (pe_meth (pv 1) T.cl_Heap T.me_Heap_back G_Heap_back (hr.mono (by decide)) b_Heap_back .nil G.passE0 (pa_cons (pv 3) pa_nil)))) pss_nil)))
      (pss_one (ps_ret (pv 1)))))), ?_⟩
    obtain ⟨z0, z1, rfl, q⟩ := h
    exact _law_heap_rd tx q
theorem ok__law_link {fd : FuncData} (F : Fun K "_law_link" "_law_link" s__law_link f__law_link fd) : FnOk P w K mg base (G.CXe P w) 1 f__law_link fd ["_law_drawn", "_law_rank", "_law_spot", "_law_there", "_law_total"] (S_link K) := by
  have sc := sc__law_link
  have tx : TxC K C_Cell C_Heap := ⟨T.cl_Cell, T.n_Cell_birth, T.n_Cell_bulk, T.n_Cell_tone, T.n_Cell_load, T.n_Cell_fields, T.cl_Heap, T.n_Heap_room, T.n_Heap_cells, T.n_Heap_used, T.n_Heap_born, T.eq_Cell⟩
  refine G.fok F sc (fun vs H Q E h => ?_) (fun cdv A outer s H vs Q E hr h => ?_)
  · obtain ⟨z0, z1, z2, z3, z4, rfl, q⟩ := h; rfl
  · refine ⟨rd__law_link K, (pss_cons (ps_set (i := 5) sc.nd rfl (Or.inl rfl) (pe_op op_fdiv (pv 0) (pe_int)))
      (pss_cons (ps_if (pt_cmpR op_eq (pe_op op_mod (pv 0) (pe_int)) (pe_int) (nomark _)) (pss_one (ps_ret (pe_non))) pss_nil)
      (pss_cons (ps_if (pt_cmpR op_eq (pe_op op_mod (pv 5) (pe_int)) (pe_int) (nomark _)) (pss_one (ps_ret (pe_op op_mod (pe_op op_fdiv (pv 5) (pe_int)) (pv 4)))) pss_nil)
      (pss_cons (ps_if (PW.pt (pw_or (pt_cmpR op_eq (pe_op op_mod (pv 0) (pe_int)) (pe_int) (nomark _)) (pw_or1 (PW.pt (pw_and (pt_cmpR op_eq (pv 2) (pe_int) (nomark _)) (pw_and1 (pt_cmpR op_eq (pe_op op_mod (pv 0) (pe_int)) (pe_int) (nomark _)))))))) (pss_one (ps_ret (pe_ix ix_list (pv 3) (pe_op op_mod (pe_op op_add (pv 1) (pe_int)) (pe_callB G.call_lenL (by rfl) T.z_len G.boot_len (pa_cons (pv 3) pa_nil))) (fun _ _ => rfl)))) pss_nil)
      (pss_cons (ps_if (pt_cmpR op_eq (pe_op op_mod (pv 0) (pe_int)) (pe_int) (nomark _)) (pss_one (ps_ret (pe_ix ix_list (pv 3) (pe_callB (call_max2 rfl) (by rfl) T.z_max G.boot_max (pa_cons (pe_int) (pa_cons (pe_op op_sub (pv 1) (pe_op op_mod (pv 5) (pe_int))) pa_nil))) (fun _ _ => rfl)))) pss_nil)
      (pss_one (ps_ret (pe_ix ix_list (pv 3) (pe_op op_mod (pv 5) (pe_callB G.call_lenL (by rfl) T.z_len G.boot_len (pa_cons (pv 3) pa_nil))) (fun _ _ => rfl))))))))), ?_⟩
    obtain ⟨z0, z1, z2, z3, z4, rfl, q⟩ := h
    exact _law_link_rd q
theorem ok__law_links {fd : FuncData} (F : Fun K "_law_links" "_law_links" s__law_links f__law_links fd) {fd__law_left : FuncData} (G__law_left : FnOk P w K mg base (G.CXe P w) 2 f__law_left fd__law_left ["_law_cell"] (S_left)) (b__law_left : Binds K fd__law_left ["_law_cell"] []) (k__law_left : PySem.W.keepIn K (.ref f__law_left) = true) {fd__law_link : FuncData} (G__law_link : FnOk P w K mg base (G.CXe P w) 1 f__law_link fd__law_link ["_law_drawn", "_law_rank", "_law_spot", "_law_there", "_law_total"] (S_link K)) (b__law_link : Binds K fd__law_link ["_law_drawn", "_law_rank", "_law_spot", "_law_there", "_law_total"] []) (k__law_link : PySem.W.keepIn K (.ref f__law_link) = true) {fd__law_many : FuncData} (G__law_many : FnOk P w K mg base (G.CXe P w) 1 f__law_many fd__law_many ["_law_cell"] (S_many)) (b__law_many : Binds K fd__law_many ["_law_cell"] []) (k__law_many : PySem.W.keepIn K (.ref f__law_many) = true) {fd__law_mixed : FuncData} (G__law_mixed : FnOk P w K mg base (G.CXe P w) 1 f__law_mixed fd__law_mixed ["_law_cell", "_law_one", "_law_two"] (S_mix)) (b__law_mixed : Binds K fd__law_mixed ["_law_cell", "_law_one", "_law_two"] []) (k__law_mixed : PySem.W.keepIn K (.ref f__law_mixed) = true) : FnOk P w K mg base (G.CXe P w) 3 f__law_links fd ["_law_heap_here", "_law_cells"] (S_links K C_Cell C_Heap) := by
  have sc := sc__law_links
  have tx : TxC K C_Cell C_Heap := ⟨T.cl_Cell, T.n_Cell_birth, T.n_Cell_bulk, T.n_Cell_tone, T.n_Cell_load, T.n_Cell_fields, T.cl_Heap, T.n_Heap_room, T.n_Heap_cells, T.n_Heap_used, T.n_Heap_born, T.eq_Cell⟩
  refine G.fok F sc (fun vs H Q E h => ?_) (fun cdv A outer s H vs Q E hr h => ?_)
  · obtain ⟨z0, z1, z2, z3, z4, z5, z6, z7, rfl, q⟩ := h; rfl
  · refine ⟨rd__law_links K (S_left) (S_link K) (S_many) (S_mix), (pss_cons (ps_set (i := 2) sc.nd rfl (Or.inl rfl) (pe_dnewK))
      (pss_cons (G.ps_lcset (iz := 4) (cns := ["_law_cells"]) [1] (pi_range1 rfl T.z_range (pa_cons (pe_callB G.call_lenL (by rfl) T.z_len G.boot_len (pa_cons (pv 1) pa_nil)) pa_nil)) (fun _ _ _ _ _ => (G.pf_one (pt_val (pe_call G__law_left (hr.mono (by decide)) rfl T.m__law_left k__law_left b__law_left .nil G.passE0 (pa_cons (pe_ix ix_list (pv 1) (pv 0) (fun _ _ => rfl)) pa_nil))))) (fun _ _ _ _ _ => (pv 0)) rfl rfl (by repeat (first | exact trivial | refine ⟨rfl, ?_⟩)) (by repeat (first | exact trivial | refine ⟨rfl, ?_⟩)) rfl (by decide +kernel) rfl (by decide +kernel) (by decide +kernel) rfl (by decide +kernel) sc.nd rfl (Or.inl rfl) (Or.inr rfl) rfl)
      (pss_cons (ps_for PassesOwn.never rfl (G.pi_enum rfl T.z_enumerate (pa_cons (pv 4) pa_nil)) (pg_tup rfl (pgs_cons (pg_name (i := 5) sc.nd rfl (Or.inl rfl)) (pgs_cons (pg_name (i := 3) sc.nd rfl (Or.inl rfl)) pgs_nil)))
      (pss_cons (ps_dput (hu_of hr) (pv 2) (pv 3) (pe_lst pa_nil) rfl)
      (pss_cons (ps_set (i := 6) sc.nd rfl (Or.inl rfl) (pe_fld (pe_ix ix_list (pe_fld (pv 0) rfl) (pv 3) (fun _ _ => rfl)) rfl))
      (pss_one (ps_for PassesOwn.never rfl (pi_range1 rfl T.z_range (pa_cons (pe_call G__law_many (hr.mono (by decide)) rfl T.m__law_many k__law_many b__law_many .nil G.passE0 (pa_cons (pe_ix ix_list (pv 1) (pv 3) (fun _ _ => rfl)) pa_nil)) pa_nil)) (pg_name (i := 7) sc.nd rfl (Or.inl rfl))
      (pss_cons (ps_set (i := 8) sc.nd rfl (Or.inl rfl) (pe_call G__law_mixed (hr.mono (by decide)) rfl T.m__law_mixed k__law_mixed b__law_mixed .nil G.passE0 (pa_cons (pe_ix ix_list (pv 1) (pv 3) (fun _ _ => rfl)) (pa_cons (pv 7) (pa_cons (pe_int) pa_nil)))))
      (pss_cons (ps_set (i := 9) sc.nd rfl (Or.inl rfl) (pe_call G__law_link (hr.mono (by decide)) rfl T.m__law_link k__law_link b__law_link .nil G.passE0 (pa_cons (pv 8) (pa_cons (pv 5) (pa_cons (pv 7) (pa_cons (pv 4) (pa_cons (pe_callB G.call_lenL (by rfl) T.z_len G.boot_len (pa_cons (pv 1) pa_nil)) pa_nil)))))))
      (pss_cons (ps_expr (pe_bm PySem.F.plainAttrs_list PySem.F.slot_list_append PySem.F.type_list_append mt_append (pe_dget (hu_of hr) (pv 2) (pv 3) (fun _ _ => rfl)) (pa_cons (pv 9) pa_nil)))
      (pss_one (ps_asg (pv 9) (pg_sub (pv 6) (pv 7) set_list)))))))))))
      (pss_one (ps_ret (pv 2)))))), ?_⟩
    obtain ⟨z0, z1, z2, z3, z4, z5, z6, z7, rfl, q⟩ := h
    exact _law_links_rd tx q
theorem ok__law_slot {fd : FuncData} (F : Fun K "_law_slot" "_law_slot" s__law_slot f__law_slot fd) : FnOk P w K mg base (G.CXe P w) 1 f__law_slot fd ["_law_drawn", "_law_total"] (S_slot) := by
  have sc := sc__law_slot
  have tx : TxC K C_Cell C_Heap := ⟨T.cl_Cell, T.n_Cell_birth, T.n_Cell_bulk, T.n_Cell_tone, T.n_Cell_load, T.n_Cell_fields, T.cl_Heap, T.n_Heap_room, T.n_Heap_cells, T.n_Heap_used, T.n_Heap_born, T.eq_Cell⟩
  refine G.fok F sc (fun vs H Q E h => ?_) (fun cdv A outer s H vs Q E hr h => ?_)
  · obtain ⟨z0, z1, rfl, q⟩ := h; rfl
  · refine ⟨rd__law_slot, (pss_cons (ps_if (PW.pt (pw_or (pt_cmpR op_eq (pv 1) (pe_int) (nomark _)) (pw_or1 (pt_cmpR op_gt (pe_op op_mod (pv 0) (pe_int)) (pe_int) (nomark _))))) (pss_one (ps_ret (pe_non))) pss_nil)
      (pss_one (ps_ret (pe_op op_mod (pe_op op_fdiv (pv 0) (pe_int)) (pv 1))))), ?_⟩
    obtain ⟨z0, z1, rfl, q⟩ := h
    exact _law_slot_rd q
theorem ok__law_rows {fd : FuncData} (F : Fun K "_law_rows" "_law_rows" s__law_rows f__law_rows fd) {fd__law_mixed : FuncData} (G__law_mixed : FnOk P w K mg base (G.CXe P w) 1 f__law_mixed fd__law_mixed ["_law_cell", "_law_one", "_law_two"] (S_mix)) (b__law_mixed : Binds K fd__law_mixed ["_law_cell", "_law_one", "_law_two"] []) (k__law_mixed : PySem.W.keepIn K (.ref f__law_mixed) = true) {fd__law_slot : FuncData} (G__law_slot : FnOk P w K mg base (G.CXe P w) 1 f__law_slot fd__law_slot ["_law_drawn", "_law_total"] (S_slot)) (b__law_slot : Binds K fd__law_slot ["_law_drawn", "_law_total"] []) (k__law_slot : PySem.W.keepIn K (.ref f__law_slot) = true) : FnOk P w K mg base (G.CXe P w) 2 f__law_rows fd ["_law_first", "_law_second", "_law_total"] (S_rows) := by
  have sc := sc__law_rows
  have tx : TxC K C_Cell C_Heap := ⟨T.cl_Cell, T.n_Cell_birth, T.n_Cell_bulk, T.n_Cell_tone, T.n_Cell_load, T.n_Cell_fields, T.cl_Heap, T.n_Heap_room, T.n_Heap_cells, T.n_Heap_used, T.n_Heap_born, T.eq_Cell⟩
  refine G.fok F sc (fun vs H Q E h => ?_) (fun cdv A outer s H vs Q E hr h => ?_)
  · obtain ⟨z0, z1, z2, rfl, q⟩ := h; rfl
  · refine ⟨rd__law_rows K (S_mix) (S_slot), (pss_cons (ps_set (i := 3) sc.nd rfl (Or.inl rfl) (pe_lst pa_nil))
      (pss_cons (ps_for PassesOwn.never rfl (pi_range1 rfl T.z_range (pa_cons (pe_op op_add (pe_int) (pe_op op_mod (pv 0) (pe_int))) pa_nil)) (pg_name (i := 4) sc.nd rfl (Or.inl rfl))
      (pss_cons (ps_set (i := 5) sc.nd rfl (Or.inl rfl) (pe_lst pa_nil))
      (pss_cons (ps_for PassesOwn.never rfl (pi_range1 rfl T.z_range (pa_cons (pe_op op_mod (pe_op op_add (pe_op op_add (pe_op op_fdiv (pv 0) (pe_int)) (pe_op op_mul (pe_op op_mul (pe_int) (pv 4)) (pv 4))) (pv 4)) (pe_int)) pa_nil)) (pg_name (i := 6) sc.nd rfl (Or.inl rfl))
      (pss_one (ps_expr (pe_bm PySem.F.plainAttrs_list PySem.F.slot_list_append PySem.F.type_list_append mt_append (pv 5) (pa_cons (pe_call G__law_slot (hr.mono (by decide)) rfl T.m__law_slot k__law_slot b__law_slot .nil G.passE0 (pa_cons (pe_call G__law_mixed (hr.mono (by decide)) rfl T.m__law_mixed k__law_mixed b__law_mixed .nil G.passE0 (pa_cons (pv 1) (pa_cons (pv 6) (pa_cons (pv 4) pa_nil)))) (pa_cons (pv 2) pa_nil))) pa_nil)))))
      (pss_one (ps_expr (pe_bm PySem.F.plainAttrs_list PySem.F.slot_list_append PySem.F.type_list_append mt_append (pv 3) (pa_cons (pv 5) pa_nil)))))))
      (pss_one (ps_ret (pv 3))))), ?_⟩
    obtain ⟨z0, z1, z2, rfl, q⟩ := h
    exact _law_rows_rd q
theorem ok__law_key {fd : FuncData} (F : Fun K "_law_key" "_law_key" s__law_key f__law_key fd) {fd__law_whole : FuncData} (G__law_whole : FnOk P w K mg base (G.CXe P w) 1 f__law_whole fd__law_whole ["_law_found"] (S_whole)) (b__law_whole : Binds K fd__law_whole ["_law_found"] []) (k__law_whole : PySem.W.keepIn K (.ref f__law_whole) = true) : FnOk P w K mg base (G.CXe P w) 2 f__law_key fd ["_law_way", "_law_numbers"] (S_key K) := by
  have sc := sc__law_key
  have tx : TxC K C_Cell C_Heap := ⟨T.cl_Cell, T.n_Cell_birth, T.n_Cell_bulk, T.n_Cell_tone, T.n_Cell_load, T.n_Cell_fields, T.cl_Heap, T.n_Heap_room, T.n_Heap_cells, T.n_Heap_used, T.n_Heap_born, T.eq_Cell⟩
  refine G.fok F sc (fun vs H Q E h => ?_) (fun cdv A outer s H vs Q E hr h => ?_)
  · obtain ⟨z0, z1, rfl, q⟩ := h; rfl
  · refine ⟨rd__law_key K (S_whole), (pss_cons (ps_if (PW.pt (pw_or (pt_not (pt_val (pe_callB G.call_isi (by rfl) T.z_isinstance G.boot_isinstance (pa_cons (pv 0) (pa_cons (pe_bltn rfl T.z_tuple G.boot_tuple rfl) pa_nil))))) (pw_or1 (pt_cmpR op_lt (pe_callB G.call_lenL (by rfl) T.z_len G.boot_len (pa_cons (pv 0) pa_nil)) (pe_int) (nomark _))))) (pss_one (ps_ret (pe_non))) pss_nil)
      (pss_cons (ps_for PassesOwn.never rfl (pi_tup (pv 0)) (pg_name (i := 2) sc.nd rfl (Or.inl rfl))
      (pss_one (ps_if (PW.pt (pw_or (pt_not (pt_val (pe_call G__law_whole (hr.mono (by decide)) rfl T.m__law_whole k__law_whole b__law_whole .nil G.passE0 (pa_cons (pv 2) pa_nil)))) (pw_or1 (pt_cmpR op_lt (pv 2) (pe_int) (nomark _))))) (pss_one (ps_ret (pe_non))) pss_nil)))
      (pss_cons (ps_if (pt_cmpR op_eq (pe_callB G.call_lenL (by rfl) T.z_len G.boot_len (pa_cons (pv 0) pa_nil)) (pe_int) (nomark _)) (pss_one (ps_ret (pe_tup (pa_cons (pe_un un_neg (pe_int)) (pa_cons (pe_ix ix_tup (pv 0) (pe_int) (fun _ _ => rfl)) (pa_cons (pe_ix ix_tup (pv 0) (pe_int) (fun _ _ => rfl)) pa_nil)))))) pss_nil)
      (pss_cons (ps_if (pt_cmp (pc_dnotin (hu_of hr) (pe_slice sl_tup (pv 0) po_none (po_some (pe_un un_neg (pe_int)))) (pv 1))) (pss_one (ps_ret (pe_non))) pss_nil)
      (pss_one (ps_ret (pe_tup (pa_cons (pe_dget (hu_of hr) (pv 1) (pe_slice sl_tup (pv 0) po_none (po_some (pe_un un_neg (pe_int)))) (fun _ _ => rfl)) (pa_cons (pe_ix ix_tup (pv 0) (pe_un un_neg (pe_int)) (fun _ _ => rfl)) (pa_cons (pe_int) pa_nil)))))))))), ?_⟩
    obtain ⟨z0, z1, rfl, q⟩ := h
    exact _law_key_rd q
theorem ok__law_at_key {fd : FuncData} (F : Fun K "_law_at_key" "_law_at_key" s__law_at_key f__law_at_key fd) : FnOk P w K mg base (G.CXe P w) 1 f__law_at_key fd ["_law_key_here", "_law_found", "_law_rows_here", "_law_links_here"] (S_atk K) := by
  have sc := sc__law_at_key
  have tx : TxC K C_Cell C_Heap := ⟨T.cl_Cell, T.n_Cell_birth, T.n_Cell_bulk, T.n_Cell_tone, T.n_Cell_load, T.n_Cell_fields, T.cl_Heap, T.n_Heap_room, T.n_Heap_cells, T.n_Heap_used, T.n_Heap_born, T.eq_Cell⟩
  refine G.fok F sc (fun vs H Q E h => ?_) (fun cdv A outer s H vs Q E hr h => ?_)
  · obtain ⟨z0, z1, z2, z3, rfl, q⟩ := h; rfl
  · refine ⟨rd__law_at_key K, (pss_cons (ps_if (pt_cmpR op_eq (pe_ix ix_tup (pv 0) (pe_int) (fun _ _ => rfl)) (pe_un un_neg (pe_int)) (nomark _)) (pss_cons (ps_if (PW.pt (pw_and (pt_cmpR op_lt (pe_ix ix_tup (pv 0) (pe_int) (fun _ _ => rfl)) (pe_callB G.call_lenL (by rfl) T.z_len G.boot_len (pa_cons (pv 2) pa_nil)) (nomark _)) (pw_and1 (pt_cmpR op_lt (pe_ix ix_tup (pv 0) (pe_int) (fun _ _ => rfl)) (pe_callB G.call_lenL (by rfl) T.z_len G.boot_len (pa_cons (pe_ix ix_list (pv 2) (pe_ix ix_tup (pv 0) (pe_int) (fun _ _ => rfl)) (fun _ _ => rfl)) pa_nil)) (nomark _))))) (pss_one (ps_ret (pe_ix ix_list (pe_ix ix_list (pv 2) (pe_ix ix_tup (pv 0) (pe_int) (fun _ _ => rfl)) (fun _ _ => rfl)) (pe_ix ix_tup (pv 0) (pe_int) (fun _ _ => rfl)) (fun _ _ => rfl)))) pss_nil)
      (pss_one (ps_ret (pe_non)))) pss_nil)
      (pss_cons (ps_set (i := 4) sc.nd rfl (Or.inl rfl) (pe_dget (hu_of hr) (pv 3) (pe_ix ix_tup (pe_ix ix_list (pv 1) (pe_ix ix_tup (pv 0) (pe_int) (fun _ _ => rfl)) (fun _ _ => rfl)) (pe_int) (fun _ _ => rfl)) (fun _ _ => rfl)))
      (pss_cons (ps_if (pt_cmpR op_lt (pe_ix ix_tup (pv 0) (pe_int) (fun _ _ => rfl)) (pe_callB G.call_lenL (by rfl) T.z_len G.boot_len (pa_cons (pv 4) pa_nil)) (nomark _)) (pss_one (ps_ret (pe_ix ix_list (pv 4) (pe_ix ix_tup (pv 0) (pe_int) (fun _ _ => rfl)) (fun _ _ => rfl)))) pss_nil)
      (pss_one (ps_ret (pe_non)))))), ?_⟩
    obtain ⟨z0, z1, z2, z3, rfl, q⟩ := h
    exact _law_at_key_rd q
theorem ok__law_keys {fd : FuncData} (F : Fun K "_law_keys" "_law_keys" s__law_keys f__law_keys fd) {fd__law_at_key : FuncData} (G__law_at_key : FnOk P w K mg base (G.CXe P w) 1 f__law_at_key fd__law_at_key ["_law_key_here", "_law_found", "_law_rows_here", "_law_links_here"] (S_atk K)) (b__law_at_key : Binds K fd__law_at_key ["_law_key_here", "_law_found", "_law_rows_here", "_law_links_here"] []) (k__law_at_key : PySem.W.keepIn K (.ref f__law_at_key) = true) {fd__law_key : FuncData} (G__law_key : FnOk P w K mg base (G.CXe P w) 2 f__law_key fd__law_key ["_law_way", "_law_numbers"] (S_key K)) (b__law_key : Binds K fd__law_key ["_law_way", "_law_numbers"] []) (k__law_key : PySem.W.keepIn K (.ref f__law_key) = true) {fd__law_whole : FuncData} (G__law_whole : FnOk P w K mg base (G.CXe P w) 1 f__law_whole fd__law_whole ["_law_found"] (S_whole)) (b__law_whole : Binds K fd__law_whole ["_law_found"] []) (k__law_whole : PySem.W.keepIn K (.ref f__law_whole) = true) : FnOk P w K mg base (G.CXe P w) 3 f__law_keys fd ["_law_found", "_law_rows_here", "_law_links_here"] (S_keys K) := by
  have sc := sc__law_keys
  have tx : TxC K C_Cell C_Heap := ⟨T.cl_Cell, T.n_Cell_birth, T.n_Cell_bulk, T.n_Cell_tone, T.n_Cell_load, T.n_Cell_fields, T.cl_Heap, T.n_Heap_room, T.n_Heap_cells, T.n_Heap_used, T.n_Heap_born, T.eq_Cell⟩
  refine G.fok F sc (fun vs H Q E h => ?_) (fun cdv A outer s H vs Q E hr h => ?_)
  · obtain ⟨z0, z1, z2, rfl, q⟩ := h; rfl
  · refine ⟨rd__law_keys K (S_atk K) (S_key K) (S_whole), (pss_cons (ps_set (i := 3) sc.nd rfl (Or.inl rfl) (pe_dnewK))
      (pss_cons (ps_set (i := 4) sc.nd rfl (Or.inl rfl) (pe_dnewT))
      (pss_cons (ps_set (i := 5) sc.nd rfl (Or.inl rfl) (pe_tup (pa_cons (pe_un un_neg (pe_int)) (pa_cons (pe_int) (pa_cons (pe_int) pa_nil)))))
      (pss_cons (ps_for PassesOwn.never rfl (G.pi_enum rfl T.z_enumerate (pa_cons (pv 0) pa_nil)) (pg_tup rfl (pgs_cons (pg_name (i := 6) sc.nd rfl (Or.inl rfl)) (pgs_cons (pg_name (i := 7) sc.nd rfl (Or.inl rfl)) pgs_nil)))
      (pss_cons (ps_if (PW.pt (pw_or (pt_not (pt_val (pe_callB G.call_isi (by rfl) T.z_isinstance G.boot_isinstance (pa_cons (pv 7) (pa_cons (pe_bltn rfl T.z_tuple G.boot_tuple rfl) pa_nil))))) (pw_or1 (pt_cmpR op_ne (pe_callB G.call_lenL (by rfl) T.z_len G.boot_len (pa_cons (pv 7) pa_nil)) (pe_int) (nomark _))))) (pss_one (ps_ret (pe_non))) pss_nil)
      (pss_cons (ps_if (PW.pt (pw_or (pt_not (pt_val (pe_call G__law_whole (hr.mono (by decide)) rfl T.m__law_whole k__law_whole b__law_whole .nil G.passE0 (pa_cons (pe_ix ix_tup (pv 7) (pe_int) (fun _ _ => rfl)) pa_nil)))) (pw_or (pt_cmp (G.pc_dnotinN (hu_of hr) (pe_ix ix_tup (pv 7) (pe_int) (fun _ _ => rfl)) (pv 2))) (pw_or1 (pt_cmp (G.pc_dinN (hu_of hr) (pe_ix ix_tup (pv 7) (pe_int) (fun _ _ => rfl)) (pv 3))))))) (pss_one (ps_ret (pe_non))) pss_nil)
      (pss_cons (ps_set (i := 8) sc.nd rfl (Or.inl rfl) (pe_call G__law_key (hr.mono (by decide)) rfl T.m__law_key k__law_key b__law_key .nil G.passE0 (pa_cons (pe_ix ix_tup (pv 7) (pe_int) (fun _ _ => rfl)) (pa_cons (pv 4) pa_nil))))
      (pss_cons (ps_if (PW.pt (pw_or (pt_cmpR G.op_isN_ (pv 8) (pe_non) (nomark _)) (pw_or1 (pt_cmpR (op_leT (hu_of hr)) (pv 8) (pv 5) (nomark _))))) (pss_one (ps_ret (pe_non))) pss_nil)
      (pss_cons (ps_if (pt_cmpR op_ne (pe_call G__law_at_key (hr.mono (by decide)) rfl T.m__law_at_key k__law_at_key b__law_at_key .nil G.passE0 (pa_cons (pv 8) (pa_cons (pv 0) (pa_cons (pv 1) (pa_cons (pv 2) pa_nil))))) (pe_ix ix_tup (pv 7) (pe_int) (fun _ _ => rfl)) (nomark _)) (pss_one (ps_ret (pe_non))) pss_nil)
      (pss_cons (ps_if (PW.pt (pw_and (pt_cmpR op_gt (pv 6) (pe_int) (nomark _)) (pw_and1 (pt_cmpR op_lt (pe_callB G.call_lenL (by rfl) T.z_len G.boot_len (pa_cons (pe_ix ix_tup (pv 7) (pe_int) (fun _ _ => rfl)) pa_nil)) (pe_callB G.call_lenL (by rfl) T.z_len G.boot_len (pa_cons (pe_ix ix_tup (pe_ix ix_list (pv 0) (pe_op op_sub (pv 6) (pe_int)) (fun _ _ => rfl)) (pe_int) (fun _ _ => rfl)) pa_nil)) (nomark _))))) (pss_one (ps_ret (pe_non))) pss_nil)
      (pss_cons (ps_set (i := 5) sc.nd rfl (Or.inl rfl) (pv 8))
      (pss_cons (ps_dput (hu_of hr) (pv 3) (pe_ix ix_tup (pv 7) (pe_int) (fun _ _ => rfl)) (pv 8) rfl)
      (pss_one (ps_dput (hu_of hr) (pv 4) (pe_ix ix_tup (pv 7) (pe_int) (fun _ _ => rfl)) (pv 6) rfl)))))))))))
      (pss_one (ps_ret (pv 3))))))), ?_⟩
    obtain ⟨z0, z1, z2, rfl, q⟩ := h
    exact _law_keys_rd q
theorem ok__law_told_by {fd : FuncData} (F : Fun K "_law_told_by" "_law_told_by" s__law_told_by f__law_told_by fd) : FnOk P w K mg base (G.CXe P w) 1 f__law_told_by fd ["_law_keys_here", "_law_place", "_law_key_here"] (S_told K) := by
  have sc := sc__law_told_by
  have tx : TxC K C_Cell C_Heap := ⟨T.cl_Cell, T.n_Cell_birth, T.n_Cell_bulk, T.n_Cell_tone, T.n_Cell_load, T.n_Cell_fields, T.cl_Heap, T.n_Heap_room, T.n_Heap_cells, T.n_Heap_used, T.n_Heap_born, T.eq_Cell⟩
  refine G.fok F sc (fun vs H Q E h => ?_) (fun cdv A outer s H vs Q E hr h => ?_)
  · obtain ⟨z0, z1, z2, rfl, q⟩ := h; rfl
  · refine ⟨rd__law_told_by K, (pss_one (ps_ret ((pe_and (pe_cmp (G.pc_dinN (hu_of hr) (pv 1) (pv 0))) (pe_one (pe_cmpR (op_leT (hu_of hr)) (pe_dget (hu_of hr) (pv 0) (pv 1) (fun _ _ => rfl)) (pv 2) (nomark _))))))), ?_⟩
    obtain ⟨z0, z1, z2, rfl, q⟩ := h
    exact _law_told_by_rd q
theorem ok__law_least {fd : FuncData} (F : Fun K "_law_least" "_law_least" s__law_least f__law_least fd) {fd__law_told_by : FuncData} (G__law_told_by : FnOk P w K mg base (G.CXe P w) 1 f__law_told_by fd__law_told_by ["_law_keys_here", "_law_place", "_law_key_here"] (S_told K)) (b__law_told_by : Binds K fd__law_told_by ["_law_keys_here", "_law_place", "_law_key_here"] []) (k__law_told_by : PySem.W.keepIn K (.ref f__law_told_by) = true) : FnOk P w K mg base (G.CXe P w) 2 f__law_least fd ["_law_found", "_law_keys_here", "_law_rows_here", "_law_links_here"] (S_least K) := by
  have sc := sc__law_least
  have tx : TxC K C_Cell C_Heap := ⟨T.cl_Cell, T.n_Cell_birth, T.n_Cell_bulk, T.n_Cell_tone, T.n_Cell_load, T.n_Cell_fields, T.cl_Heap, T.n_Heap_room, T.n_Heap_cells, T.n_Heap_used, T.n_Heap_born, T.eq_Cell⟩
  refine G.fok F sc (fun vs H Q E h => ?_) (fun cdv A outer s H vs Q E hr h => ?_)
  · obtain ⟨z0, z1, z2, z3, rfl, q⟩ := h; rfl
  · refine ⟨rd__law_least K (S_told K), (pss_cons (ps_for PassesOwn.never rfl (pi_range1 rfl T.z_range (pa_cons (pe_callB G.call_lenL (by rfl) T.z_len G.boot_len (pa_cons (pv 2) pa_nil)) pa_nil)) (pg_name (i := 4) sc.nd rfl (Or.inl rfl))
      (pss_one (ps_for PassesOwn.never rfl (pi_range1 rfl T.z_range (pa_cons (pe_callB G.call_lenL (by rfl) T.z_len G.boot_len (pa_cons (pe_ix ix_list (pv 2) (pv 4) (fun _ _ => rfl)) pa_nil)) pa_nil)) (pg_name (i := 5) sc.nd rfl (Or.inl rfl))
      (pss_cons (ps_set (i := 6) sc.nd rfl (Or.inl rfl) (pe_ix ix_list (pe_ix ix_list (pv 2) (pv 4) (fun _ _ => rfl)) (pv 5) (fun _ _ => rfl)))
      (pss_one (ps_if (PW.pt (pw_and (pt_cmp (G.pc_dinN (hu_of hr) (pv 6) (pv 3))) (pw_and1 (pt_not (pt_val (pe_call G__law_told_by (hr.mono (by decide)) rfl T.m__law_told_by k__law_told_by b__law_told_by .nil G.passE0 (pa_cons (pv 1) (pa_cons (pv 6) (pa_cons (pe_tup (pa_cons (pe_un un_neg (pe_int)) (pa_cons (pv 4) (pa_cons (pv 5) pa_nil)))) pa_nil))))))))) (pss_one (ps_ret (pe_bl))) pss_nil))))))
      (pss_cons (ps_for PassesOwn.never rfl (G.pi_enum rfl T.z_enumerate (pa_cons (pv 0) pa_nil)) (pg_tup rfl (pgs_cons (pg_name (i := 7) sc.nd rfl (Or.inl rfl)) (pgs_cons (pg_name (i := 8) sc.nd rfl (Or.inl rfl)) pgs_nil)))
      (pss_one (ps_for PassesOwn.never rfl (G.pi_enum rfl T.z_enumerate (pa_cons (pe_dget (hu_of hr) (pv 3) (pe_ix ix_tup (pv 8) (pe_int) (fun _ _ => rfl)) (fun _ _ => rfl)) pa_nil)) (pg_tup rfl (pgs_cons (pg_name (i := 9) sc.nd rfl (Or.inl rfl)) (pgs_cons (pg_name (i := 6) sc.nd rfl (Or.inl rfl)) pgs_nil)))
      (pss_one (ps_if (PW.pt (pw_and (pt_cmp (G.pc_dinN (hu_of hr) (pv 6) (pv 3))) (pw_and1 (pt_not (pt_val (pe_call G__law_told_by (hr.mono (by decide)) rfl T.m__law_told_by k__law_told_by b__law_told_by .nil G.passE0 (pa_cons (pv 1) (pa_cons (pv 6) (pa_cons (pe_tup (pa_cons (pv 7) (pa_cons (pv 9) (pa_cons (pe_int) pa_nil)))) pa_nil))))))))) (pss_one (ps_ret (pe_bl))) pss_nil)))))
      (pss_one (ps_ret (pe_bl))))), ?_⟩
    obtain ⟨z0, z1, z2, z3, rfl, q⟩ := h
    exact _law_least_rd q
theorem ok_law {fl : Addr} {fd : FuncData} (F : Fun K "law" "law" s_law fl fd) {fd__law_cell_at : FuncData} (G__law_cell_at : FnOk P w K mg base (G.CXe P w) 1 f__law_cell_at fd__law_cell_at ["_law_script", "_law_k"] (S_at K)) (b__law_cell_at : Binds K fd__law_cell_at ["_law_script", "_law_k"] []) (k__law_cell_at : PySem.W.keepIn K (.ref f__law_cell_at) = true) {fd__law_heap : FuncData} (G__law_heap : FnOk P w K mg base (G.CXe P w) 4 f__law_heap fd__law_heap ["_law_cells"] (S_heap K C_Cell C_Heap)) (b__law_heap : Binds K fd__law_heap ["_law_cells"] []) (k__law_heap : PySem.W.keepIn K (.ref f__law_heap) = true) {fd__law_keys : FuncData} (G__law_keys : FnOk P w K mg base (G.CXe P w) 3 f__law_keys fd__law_keys ["_law_found", "_law_rows_here", "_law_links_here"] (S_keys K)) (b__law_keys : Binds K fd__law_keys ["_law_found", "_law_rows_here", "_law_links_here"] []) (k__law_keys : PySem.W.keepIn K (.ref f__law_keys) = true) {fd__law_least : FuncData} (G__law_least : FnOk P w K mg base (G.CXe P w) 2 f__law_least fd__law_least ["_law_found", "_law_keys_here", "_law_rows_here", "_law_links_here"] (S_least K)) (b__law_least : Binds K fd__law_least ["_law_found", "_law_keys_here", "_law_rows_here", "_law_links_here"] []) (k__law_least : PySem.W.keepIn K (.ref f__law_least) = true) {fd__law_links : FuncData} (G__law_links : FnOk P w K mg base (G.CXe P w) 3 f__law_links fd__law_links ["_law_heap_here", "_law_cells"] (S_links K C_Cell C_Heap)) (b__law_links : Binds K fd__law_links ["_law_heap_here", "_law_cells"] []) (k__law_links : PySem.W.keepIn K (.ref f__law_links) = true) {fd__law_rows : FuncData} (G__law_rows : FnOk P w K mg base (G.CXe P w) 2 f__law_rows fd__law_rows ["_law_first", "_law_second", "_law_total"] (S_rows)) (b__law_rows : Binds K fd__law_rows ["_law_first", "_law_second", "_law_total"] []) (k__law_rows : PySem.W.keepIn K (.ref f__law_rows) = true) {fd_reached : FuncData} (G_reached : FnOk P w K mg base (G.CXe P w) 3 f_reached fd_reached ["heap", "rows"] (S_reached K C_Cell C_Heap)) (b_reached : Binds K fd_reached ["heap", "rows"] []) (k_reached : PySem.W.keepIn K (.ref f_reached) = true) : FnOk P w K mg base (G.CXe P w) 5 fl fd ["_law_script"] (S_law K) := by
  have sc := sc_law
  have tx : TxC K C_Cell C_Heap := ⟨T.cl_Cell, T.n_Cell_birth, T.n_Cell_bulk, T.n_Cell_tone, T.n_Cell_load, T.n_Cell_fields, T.cl_Heap, T.n_Heap_room, T.n_Heap_cells, T.n_Heap_used, T.n_Heap_born, T.eq_Cell⟩
  refine G.fok F sc (fun vs H Q E h => ?_) (fun cdv A outer s H vs Q E hr h => ?_)
  · obtain ⟨z0, rfl, q⟩ := h; rfl
  · refine ⟨rd_law K (S_at K) (S_heap K C_Cell C_Heap) (S_keys K) (S_least K) (S_links K C_Cell C_Heap) (S_rows) (S_reached K C_Cell C_Heap), (pss_cons (ps_set (i := 1) sc.nd rfl (Or.inl rfl) (pe_slice sl_list (pv 0) (po_some (pe_int)) (po_some (pe_int))))
      (pss_cons (ps_set (i := 2) sc.nd rfl (Or.inl rfl) (pe_call G__law_heap (hr.mono (by decide)) rfl T.m__law_heap k__law_heap b__law_heap .nil G.passE0 (pa_cons (pv 1) pa_nil)))
      (pss_cons (ps_set (i := 3) sc.nd rfl (Or.inl rfl) (pe_call G__law_links (hr.mono (by decide)) rfl T.m__law_links k__law_links b__law_links .nil G.passE0 (pa_cons (pv 2) (pa_cons (pv 1) pa_nil))))
      (pss_cons (ps_set (i := 4) sc.nd rfl (Or.inl rfl) (pe_call G__law_rows (hr.mono (by decide)) rfl T.m__law_rows k__law_rows b__law_rows .nil G.passE0 (pa_cons (pe_call G__law_cell_at (hr.mono (by decide)) rfl T.m__law_cell_at k__law_cell_at b__law_cell_at .nil G.passE0 (pa_cons (pv 0) (pa_cons (pe_int) pa_nil))) (pa_cons (pe_call G__law_cell_at (hr.mono (by decide)) rfl T.m__law_cell_at k__law_cell_at b__law_cell_at .nil G.passE0 (pa_cons (pv 0) (pa_cons (pe_int) pa_nil))) (pa_cons (pe_callB G.call_lenL (by rfl) T.z_len G.boot_len (pa_cons (pv 1) pa_nil)) pa_nil)))))
      (pss_cons (ps_set (i := 5) sc.nd rfl (Or.inl rfl) (pe_call G_reached (hr.mono (by decide)) rfl T.m_reached k_reached b_reached .nil G.passE0 (pa_cons (pv 2) (pa_cons (G.pe_lc (cns := []) [] (pi_list (pv 4)) (fun _ _ _ _ _ => G.pf_nil) (fun _ _ _ _ _ => (pe_callTy G.call_listL (by rfl) T.z_list G.boot_list (pa_cons (pv 0) pa_nil))) rfl rfl (by repeat (first | exact trivial | refine ⟨rfl, ?_⟩)) (by repeat (first | exact trivial | refine ⟨rfl, ?_⟩)) rfl (by decide +kernel) rfl (by decide +kernel) (by decide +kernel) rfl (by decide +kernel)) pa_nil))))
      (pss_cons (ps_if (pt_not (pt_val (pe_callB G.call_isi (by rfl) T.z_isinstance G.boot_isinstance (pa_cons (pv 5) (pa_cons (pe_bltn rfl T.z_list G.boot_list rfl) pa_nil))))) (pss_one (ps_ret (pe_bl))) pss_nil)
      (pss_cons (ps_set (i := 6) sc.nd rfl (Or.inl rfl) (pe_call G__law_keys (hr.mono (by decide)) rfl T.m__law_keys k__law_keys b__law_keys .nil G.passE0 (pa_cons (pv 5) (pa_cons (pv 4) (pa_cons (pv 3) pa_nil)))))
      (pss_one (ps_ret ((pe_and (pe_cmpR G.op_notN_ (pv 6) (pe_non) (nomark _)) (pe_one (pe_call G__law_least (hr.mono (by decide)) rfl T.m__law_least k__law_least b__law_least .nil G.passE0 (pa_cons (pv 5) (pa_cons (pv 6) (pa_cons (pv 4) (pa_cons (pv 3) pa_nil))))))))))))))))), ?_⟩
    obtain ⟨z0, rfl, q⟩ := h
    exact law_rd q
end
theorem all_mk {l : PySem.W.OpenLaw} {w : World} {K : PySem.W.Frag} {h : Heap} {mg : Str → Option Value} {fa fl C_Cell C_Heap C_Full f_Cell___init__ f_Cell_units f_Heap___init__ f_Heap_make f_Heap_lay f_Heap_back f_Heap_free f_cell_at f_reached f_onward f__law_cell_at f__law_whole f__law_mixed f__law_many f__law_left f__law_heap f__law_link f__law_links f__law_slot f__law_rows f__law_key f__law_at_key f__law_keys f__law_told_by f__law_least : Addr} (KI : K.In h) (GN : h.Ns mainGlobals mg) (hfa : mg "law" = some (.ref fa))
    {od1 an1 : Option Addr} {sl1 : Array (Option Value)} {oc1 kV1 dc1 pm1 cd1 ct1 : Value}
    {od2 an2 : Option Addr} {sl2 : Array (Option Value)} {oc2 kV2 dc2 pm2 cd2 ct2 : Value}
    {od3 an3 : Option Addr} {sl3 : Array (Option Value)} {oc3 kV3 dc3 pm3 cd3 ct3 : Value}
    {od4 an4 : Option Addr} {sl4 : Array (Option Value)} {oc4 kV4 dc4 pm4 cd4 ct4 : Value}
    {td4 : Addr} {tc4 : Value} {to4 : Option Addr} {tn4 : Nat} {ts4 : Array (Option Value)} {dv4_0 dv4_1 : Value}
    {od5 an5 : Option Addr} {sl5 : Array (Option Value)} {oc5 kV5 dc5 pm5 cd5 ct5 : Value}
    {od6 an6 : Option Addr} {sl6 : Array (Option Value)} {oc6 kV6 dc6 pm6 cd6 ct6 : Value}
    {od7 an7 : Option Addr} {sl7 : Array (Option Value)} {oc7 kV7 dc7 pm7 cd7 ct7 : Value}
    {od8 an8 : Option Addr} {sl8 : Array (Option Value)} {oc8 kV8 dc8 pm8 cd8 ct8 : Value}
    {od9 an9 : Option Addr} {sl9 : Array (Option Value)} {oc9 kV9 dc9 pm9 cd9 ct9 : Value}
    {od10 an10 : Option Addr} {sl10 : Array (Option Value)} {oc10 kV10 dc10 pm10 cd10 ct10 : Value}
    {od11 an11 : Option Addr} {sl11 : Array (Option Value)} {oc11 kV11 dc11 pm11 cd11 ct11 : Value}
    {od12 an12 : Option Addr} {sl12 : Array (Option Value)} {oc12 kV12 dc12 pm12 cd12 ct12 : Value}
    {od13 an13 : Option Addr} {sl13 : Array (Option Value)} {oc13 kV13 dc13 pm13 cd13 ct13 : Value}
    {od14 an14 : Option Addr} {sl14 : Array (Option Value)} {oc14 kV14 dc14 pm14 cd14 ct14 : Value}
    {od15 an15 : Option Addr} {sl15 : Array (Option Value)} {oc15 kV15 dc15 pm15 cd15 ct15 : Value}
    {od16 an16 : Option Addr} {sl16 : Array (Option Value)} {oc16 kV16 dc16 pm16 cd16 ct16 : Value}
    {od17 an17 : Option Addr} {sl17 : Array (Option Value)} {oc17 kV17 dc17 pm17 cd17 ct17 : Value}
    {od18 an18 : Option Addr} {sl18 : Array (Option Value)} {oc18 kV18 dc18 pm18 cd18 ct18 : Value}
    {od19 an19 : Option Addr} {sl19 : Array (Option Value)} {oc19 kV19 dc19 pm19 cd19 ct19 : Value}
    {od20 an20 : Option Addr} {sl20 : Array (Option Value)} {oc20 kV20 dc20 pm20 cd20 ct20 : Value}
    {od21 an21 : Option Addr} {sl21 : Array (Option Value)} {oc21 kV21 dc21 pm21 cd21 ct21 : Value}
    {od22 an22 : Option Addr} {sl22 : Array (Option Value)} {oc22 kV22 dc22 pm22 cd22 ct22 : Value}
    {od23 an23 : Option Addr} {sl23 : Array (Option Value)} {oc23 kV23 dc23 pm23 cd23 ct23 : Value}
    {od24 an24 : Option Addr} {sl24 : Array (Option Value)} {oc24 kV24 dc24 pm24 cd24 ct24 : Value}
    {od25 an25 : Option Addr} {sl25 : Array (Option Value)} {oc25 kV25 dc25 pm25 cd25 ct25 : Value}
    {od26 an26 : Option Addr} {sl26 : Array (Option Value)} {oc26 kV26 dc26 pm26 cd26 ct26 : Value}
    (a_Cell : PySem.W.nsIn K mainGlobals "Cell" = some (some (.ref C_Cell)))
    (a_Heap : PySem.W.nsIn K mainGlobals "Heap" = some (some (.ref C_Heap)))
    (a_Full : PySem.W.nsIn K mainGlobals "Full" = some (some (.ref C_Full)))
    (a1 : PySem.W.findIn K (.ref C_Cell) "__init__" = some (some (.ref f_Cell___init__)))
    (i1 : PySem.W.isFn K (.ref f_Cell___init__) = true)
    (l1 : K.lookup f_Cell___init__ = some ⟨oc1, od1, .func (PySem.W.fnOf "__init__" "Cell.__init__" (defArgs s_Cell___init__) (defBody s_Cell___init__) (defScope s_Cell___init__) .none kV1 dc1 pm1 an1 cd1 ct1), sl1⟩)
    (c1 : PySem.W.codeIn K cd1 "Cell.__init__" = true)
    (k1 : PySem.W.keepIn K (.ref f_Cell___init__) = true)
    (a2 : PySem.W.findIn K (.ref C_Cell) "units" = some (some (.ref f_Cell_units)))
    (i2 : PySem.W.isFn K (.ref f_Cell_units) = true)
    (l2 : K.lookup f_Cell_units = some ⟨oc2, od2, .func (PySem.W.fnOf "units" "Cell.units" (defArgs s_Cell_units) (defBody s_Cell_units) (defScope s_Cell_units) .none kV2 dc2 pm2 an2 cd2 ct2), sl2⟩)
    (c2 : PySem.W.codeIn K cd2 "Cell.units" = true)
    (k2 : PySem.W.keepIn K (.ref f_Cell_units) = true)
    (a3 : PySem.W.findIn K (.ref C_Heap) "__init__" = some (some (.ref f_Heap___init__)))
    (i3 : PySem.W.isFn K (.ref f_Heap___init__) = true)
    (l3 : K.lookup f_Heap___init__ = some ⟨oc3, od3, .func (PySem.W.fnOf "__init__" "Heap.__init__" (defArgs s_Heap___init__) (defBody s_Heap___init__) (defScope s_Heap___init__) .none kV3 dc3 pm3 an3 cd3 ct3), sl3⟩)
    (c3 : PySem.W.codeIn K cd3 "Heap.__init__" = true)
    (k3 : PySem.W.keepIn K (.ref f_Heap___init__) = true)
    (a4 : PySem.W.findIn K (.ref C_Heap) "make" = some (some (.ref f_Heap_make)))
    (i4 : PySem.W.isFn K (.ref f_Heap_make) = true)
    (l4 : K.lookup f_Heap_make = some ⟨oc4, od4, .func (PySem.W.fnOf "make" "Heap.make" (defArgs s_Heap_make) (defBody s_Heap_make) (defScope s_Heap_make) (.ref td4) kV4 dc4 pm4 an4 cd4 ct4), sl4⟩)
    (t4 : K.lookup td4 = some ⟨tc4, to4, .seq #[dv4_0, dv4_1] tn4, ts4⟩)
    (dr4_0 : RelV (.int 0) dv4_0)
    (dr4_1 : RelV (.int 0) dv4_1)
    (c4 : PySem.W.codeIn K cd4 "Heap.make" = true)
    (k4 : PySem.W.keepIn K (.ref f_Heap_make) = true)
    (a5 : PySem.W.findIn K (.ref C_Heap) "lay" = some (some (.ref f_Heap_lay)))
    (i5 : PySem.W.isFn K (.ref f_Heap_lay) = true)
    (l5 : K.lookup f_Heap_lay = some ⟨oc5, od5, .func (PySem.W.fnOf "lay" "Heap.lay" (defArgs s_Heap_lay) (defBody s_Heap_lay) (defScope s_Heap_lay) .none kV5 dc5 pm5 an5 cd5 ct5), sl5⟩)
    (c5 : PySem.W.codeIn K cd5 "Heap.lay" = true)
    (k5 : PySem.W.keepIn K (.ref f_Heap_lay) = true)
    (a6 : PySem.W.findIn K (.ref C_Heap) "back" = some (some (.ref f_Heap_back)))
    (i6 : PySem.W.isFn K (.ref f_Heap_back) = true)
    (l6 : K.lookup f_Heap_back = some ⟨oc6, od6, .func (PySem.W.fnOf "back" "Heap.back" (defArgs s_Heap_back) (defBody s_Heap_back) (defScope s_Heap_back) .none kV6 dc6 pm6 an6 cd6 ct6), sl6⟩)
    (c6 : PySem.W.codeIn K cd6 "Heap.back" = true)
    (k6 : PySem.W.keepIn K (.ref f_Heap_back) = true)
    (a7 : PySem.W.findIn K (.ref C_Heap) "free" = some (some (.ref f_Heap_free)))
    (i7 : PySem.W.isFn K (.ref f_Heap_free) = true)
    (l7 : K.lookup f_Heap_free = some ⟨oc7, od7, .func (PySem.W.fnOf "free" "Heap.free" (defArgs s_Heap_free) (defBody s_Heap_free) (defScope s_Heap_free) .none kV7 dc7 pm7 an7 cd7 ct7), sl7⟩)
    (c7 : PySem.W.codeIn K cd7 "Heap.free" = true)
    (k7 : PySem.W.keepIn K (.ref f_Heap_free) = true)
    (a8 : PySem.W.nsIn K mainGlobals "cell_at" = some (some (.ref f_cell_at)))
    (l8 : K.lookup f_cell_at = some ⟨oc8, od8, .func (PySem.W.fnOf "cell_at" "cell_at" (defArgs s_cell_at) (defBody s_cell_at) (defScope s_cell_at) .none kV8 dc8 pm8 an8 cd8 ct8), sl8⟩)
    (c8 : PySem.W.codeIn K cd8 "cell_at" = true)
    (k8 : PySem.W.keepIn K (.ref f_cell_at) = true)
    (a9 : PySem.W.nsIn K mainGlobals "reached" = some (some (.ref f_reached)))
    (l9 : K.lookup f_reached = some ⟨oc9, od9, .func (PySem.W.fnOf "reached" "reached" (defArgs s_reached) (defBody s_reached) (defScope s_reached) .none kV9 dc9 pm9 an9 cd9 ct9), sl9⟩)
    (c9 : PySem.W.codeIn K cd9 "reached" = true)
    (k9 : PySem.W.keepIn K (.ref f_reached) = true)
    (a10 : PySem.W.nsIn K mainGlobals "onward" = some (some (.ref f_onward)))
    (l10 : K.lookup f_onward = some ⟨oc10, od10, .func (PySem.W.fnOf "onward" "onward" (defArgs s_onward) (defBody s_onward) (defScope s_onward) .none kV10 dc10 pm10 an10 cd10 ct10), sl10⟩)
    (c10 : PySem.W.codeIn K cd10 "onward" = true)
    (k10 : PySem.W.keepIn K (.ref f_onward) = true)
    (a11 : PySem.W.nsIn K mainGlobals "_law_cell_at" = some (some (.ref f__law_cell_at)))
    (l11 : K.lookup f__law_cell_at = some ⟨oc11, od11, .func (PySem.W.fnOf "_law_cell_at" "_law_cell_at" (defArgs s__law_cell_at) (defBody s__law_cell_at) (defScope s__law_cell_at) .none kV11 dc11 pm11 an11 cd11 ct11), sl11⟩)
    (c11 : PySem.W.codeIn K cd11 "_law_cell_at" = true)
    (k11 : PySem.W.keepIn K (.ref f__law_cell_at) = true)
    (a12 : PySem.W.nsIn K mainGlobals "_law_whole" = some (some (.ref f__law_whole)))
    (l12 : K.lookup f__law_whole = some ⟨oc12, od12, .func (PySem.W.fnOf "_law_whole" "_law_whole" (defArgs s__law_whole) (defBody s__law_whole) (defScope s__law_whole) .none kV12 dc12 pm12 an12 cd12 ct12), sl12⟩)
    (c12 : PySem.W.codeIn K cd12 "_law_whole" = true)
    (k12 : PySem.W.keepIn K (.ref f__law_whole) = true)
    (a13 : PySem.W.nsIn K mainGlobals "_law_mixed" = some (some (.ref f__law_mixed)))
    (l13 : K.lookup f__law_mixed = some ⟨oc13, od13, .func (PySem.W.fnOf "_law_mixed" "_law_mixed" (defArgs s__law_mixed) (defBody s__law_mixed) (defScope s__law_mixed) .none kV13 dc13 pm13 an13 cd13 ct13), sl13⟩)
    (c13 : PySem.W.codeIn K cd13 "_law_mixed" = true)
    (k13 : PySem.W.keepIn K (.ref f__law_mixed) = true)
    (a14 : PySem.W.nsIn K mainGlobals "_law_many" = some (some (.ref f__law_many)))
    (l14 : K.lookup f__law_many = some ⟨oc14, od14, .func (PySem.W.fnOf "_law_many" "_law_many" (defArgs s__law_many) (defBody s__law_many) (defScope s__law_many) .none kV14 dc14 pm14 an14 cd14 ct14), sl14⟩)
    (c14 : PySem.W.codeIn K cd14 "_law_many" = true)
    (k14 : PySem.W.keepIn K (.ref f__law_many) = true)
    (a15 : PySem.W.nsIn K mainGlobals "_law_left" = some (some (.ref f__law_left)))
    (l15 : K.lookup f__law_left = some ⟨oc15, od15, .func (PySem.W.fnOf "_law_left" "_law_left" (defArgs s__law_left) (defBody s__law_left) (defScope s__law_left) .none kV15 dc15 pm15 an15 cd15 ct15), sl15⟩)
    (c15 : PySem.W.codeIn K cd15 "_law_left" = true)
    (k15 : PySem.W.keepIn K (.ref f__law_left) = true)
    (a16 : PySem.W.nsIn K mainGlobals "_law_heap" = some (some (.ref f__law_heap)))
    (l16 : K.lookup f__law_heap = some ⟨oc16, od16, .func (PySem.W.fnOf "_law_heap" "_law_heap" (defArgs s__law_heap) (defBody s__law_heap) (defScope s__law_heap) .none kV16 dc16 pm16 an16 cd16 ct16), sl16⟩)
    (c16 : PySem.W.codeIn K cd16 "_law_heap" = true)
    (k16 : PySem.W.keepIn K (.ref f__law_heap) = true)
    (a17 : PySem.W.nsIn K mainGlobals "_law_link" = some (some (.ref f__law_link)))
    (l17 : K.lookup f__law_link = some ⟨oc17, od17, .func (PySem.W.fnOf "_law_link" "_law_link" (defArgs s__law_link) (defBody s__law_link) (defScope s__law_link) .none kV17 dc17 pm17 an17 cd17 ct17), sl17⟩)
    (c17 : PySem.W.codeIn K cd17 "_law_link" = true)
    (k17 : PySem.W.keepIn K (.ref f__law_link) = true)
    (a18 : PySem.W.nsIn K mainGlobals "_law_links" = some (some (.ref f__law_links)))
    (l18 : K.lookup f__law_links = some ⟨oc18, od18, .func (PySem.W.fnOf "_law_links" "_law_links" (defArgs s__law_links) (defBody s__law_links) (defScope s__law_links) .none kV18 dc18 pm18 an18 cd18 ct18), sl18⟩)
    (c18 : PySem.W.codeIn K cd18 "_law_links" = true)
    (k18 : PySem.W.keepIn K (.ref f__law_links) = true)
    (a19 : PySem.W.nsIn K mainGlobals "_law_slot" = some (some (.ref f__law_slot)))
    (l19 : K.lookup f__law_slot = some ⟨oc19, od19, .func (PySem.W.fnOf "_law_slot" "_law_slot" (defArgs s__law_slot) (defBody s__law_slot) (defScope s__law_slot) .none kV19 dc19 pm19 an19 cd19 ct19), sl19⟩)
    (c19 : PySem.W.codeIn K cd19 "_law_slot" = true)
    (k19 : PySem.W.keepIn K (.ref f__law_slot) = true)
    (a20 : PySem.W.nsIn K mainGlobals "_law_rows" = some (some (.ref f__law_rows)))
    (l20 : K.lookup f__law_rows = some ⟨oc20, od20, .func (PySem.W.fnOf "_law_rows" "_law_rows" (defArgs s__law_rows) (defBody s__law_rows) (defScope s__law_rows) .none kV20 dc20 pm20 an20 cd20 ct20), sl20⟩)
    (c20 : PySem.W.codeIn K cd20 "_law_rows" = true)
    (k20 : PySem.W.keepIn K (.ref f__law_rows) = true)
    (a21 : PySem.W.nsIn K mainGlobals "_law_key" = some (some (.ref f__law_key)))
    (l21 : K.lookup f__law_key = some ⟨oc21, od21, .func (PySem.W.fnOf "_law_key" "_law_key" (defArgs s__law_key) (defBody s__law_key) (defScope s__law_key) .none kV21 dc21 pm21 an21 cd21 ct21), sl21⟩)
    (c21 : PySem.W.codeIn K cd21 "_law_key" = true)
    (k21 : PySem.W.keepIn K (.ref f__law_key) = true)
    (a22 : PySem.W.nsIn K mainGlobals "_law_at_key" = some (some (.ref f__law_at_key)))
    (l22 : K.lookup f__law_at_key = some ⟨oc22, od22, .func (PySem.W.fnOf "_law_at_key" "_law_at_key" (defArgs s__law_at_key) (defBody s__law_at_key) (defScope s__law_at_key) .none kV22 dc22 pm22 an22 cd22 ct22), sl22⟩)
    (c22 : PySem.W.codeIn K cd22 "_law_at_key" = true)
    (k22 : PySem.W.keepIn K (.ref f__law_at_key) = true)
    (a23 : PySem.W.nsIn K mainGlobals "_law_keys" = some (some (.ref f__law_keys)))
    (l23 : K.lookup f__law_keys = some ⟨oc23, od23, .func (PySem.W.fnOf "_law_keys" "_law_keys" (defArgs s__law_keys) (defBody s__law_keys) (defScope s__law_keys) .none kV23 dc23 pm23 an23 cd23 ct23), sl23⟩)
    (c23 : PySem.W.codeIn K cd23 "_law_keys" = true)
    (k23 : PySem.W.keepIn K (.ref f__law_keys) = true)
    (a24 : PySem.W.nsIn K mainGlobals "_law_told_by" = some (some (.ref f__law_told_by)))
    (l24 : K.lookup f__law_told_by = some ⟨oc24, od24, .func (PySem.W.fnOf "_law_told_by" "_law_told_by" (defArgs s__law_told_by) (defBody s__law_told_by) (defScope s__law_told_by) .none kV24 dc24 pm24 an24 cd24 ct24), sl24⟩)
    (c24 : PySem.W.codeIn K cd24 "_law_told_by" = true)
    (k24 : PySem.W.keepIn K (.ref f__law_told_by) = true)
    (a25 : PySem.W.nsIn K mainGlobals "_law_least" = some (some (.ref f__law_least)))
    (l25 : K.lookup f__law_least = some ⟨oc25, od25, .func (PySem.W.fnOf "_law_least" "_law_least" (defArgs s__law_least) (defBody s__law_least) (defScope s__law_least) .none kV25 dc25 pm25 an25 cd25 ct25), sl25⟩)
    (c25 : PySem.W.codeIn K cd25 "_law_least" = true)
    (k25 : PySem.W.keepIn K (.ref f__law_least) = true)
    (a26 : PySem.W.nsIn K mainGlobals "law" = some (some (.ref fl)))
    (l26 : K.lookup fl = some ⟨oc26, od26, .func (PySem.W.fnOf "law" "law" (defArgs s_law) (defBody s_law) (defScope s_law) .none kV26 dc26 pm26 an26 cd26 ct26), sl26⟩)
    (c26 : PySem.W.codeIn K cd26 "law" = true)
    (k26 : PySem.W.keepIn K (.ref fl) = true)
    (pg_Cell : PySem.W.plainGet K C_Cell Str.empty = true)
    (hd_Cell : PySem.W.hasDictIn K C_Cell = true)
    (po_Cell : PySem.W.plainOver K C_Cell = true)
    (sa_Cell : PySem.W.findIn K (.ref C_Cell) "__setattr__" = some (some (.builtin "object.__setattr__")))
    (mk_Cell : PySem.W.makesIn K C_Cell = true)
    (kc_Cell : PySem.W.keepIn K (.ref C_Cell) = true)
    (n_Cell_birth : PySem.W.findIn K (.ref C_Cell) "birth" = some none)
    (n_Cell_bulk : PySem.W.findIn K (.ref C_Cell) "bulk" = some none)
    (n_Cell_tone : PySem.W.findIn K (.ref C_Cell) "tone" = some none)
    (n_Cell_load : PySem.W.findIn K (.ref C_Cell) "load" = some none)
    (n_Cell_fields : PySem.W.findIn K (.ref C_Cell) "fields" = some none)
    (eq1_Cell : PySem.W.findIn K (.ref C_Cell) "__eq__" = some (some (.builtin "object.__eq__")))
    (eq2_Cell : PySem.W.mroIn K C_Cell (.type "object") = some true)
    (pg_Heap : PySem.W.plainGet K C_Heap Str.empty = true)
    (hd_Heap : PySem.W.hasDictIn K C_Heap = true)
    (po_Heap : PySem.W.plainOver K C_Heap = true)
    (sa_Heap : PySem.W.findIn K (.ref C_Heap) "__setattr__" = some (some (.builtin "object.__setattr__")))
    (mk_Heap : PySem.W.makesIn K C_Heap = true)
    (kc_Heap : PySem.W.keepIn K (.ref C_Heap) = true)
    (n_Heap_room : PySem.W.findIn K (.ref C_Heap) "room" = some none)
    (n_Heap_cells : PySem.W.findIn K (.ref C_Heap) "cells" = some none)
    (n_Heap_used : PySem.W.findIn K (.ref C_Heap) "used" = some none)
    (n_Heap_born : PySem.W.findIn K (.ref C_Heap) "born" = some none)
    (x_Full : PySem.W.excIn K C_Full [.type "ValueError", .type "Exception", .type "BaseException", .type "object"] "ValueError.__new__" = true)
    (z_bool : PySem.W.nsIn K mainGlobals "bool" = some none)
    (z_enumerate : PySem.W.nsIn K mainGlobals "enumerate" = some none)
    (z_int : PySem.W.nsIn K mainGlobals "int" = some none)
    (z_isinstance : PySem.W.nsIn K mainGlobals "isinstance" = some none)
    (z_len : PySem.W.nsIn K mainGlobals "len" = some none)
    (z_list : PySem.W.nsIn K mainGlobals "list" = some none)
    (z_max : PySem.W.nsIn K mainGlobals "max" = some none)
    (z_range : PySem.W.nsIn K mainGlobals "range" = some none)
    (z_tuple : PySem.W.nsIn K mainGlobals "tuple" = some none)
    : ∃ fd : FuncData, (∀ (s : Shared) (v : Value), BindsTo s fd ⟨[v], []⟩ [("_law_script", v)]) ∧ ∀ base : Heap, K.In base → base.Ns mainGlobals mg → FnOk l.prog w K mg base (G.CXe l.prog w) 5 fa fd ["_law_script"] (S_law K) := by
  have e := hfa.symm.trans (PySem.W.mg_of KI GN a26)
  cases e
  have T : Txt K mg C_Cell C_Heap C_Full f_Cell___init__ f_Cell_units f_Heap___init__ f_Heap_make f_Heap_lay f_Heap_back f_Heap_free f_cell_at f_reached f_onward f__law_cell_at f__law_whole f__law_mixed f__law_many f__law_left f__law_heap f__law_link f__law_links f__law_slot f__law_rows f__law_key f__law_at_key f__law_keys f__law_told_by f__law_least := {
    cl_Cell := ⟨pg_Cell, hd_Cell, po_Cell, sa_Cell⟩
    m_Cell := PySem.W.mg_of KI GN a_Cell
    mk_Cell := ⟨mk_Cell, a1, i1, kc_Cell⟩
    n_Cell_birth := n_Cell_birth
    n_Cell_bulk := n_Cell_bulk
    n_Cell_tone := n_Cell_tone
    n_Cell_load := n_Cell_load
    n_Cell_fields := n_Cell_fields
    eq_Cell := ⟨eq1_Cell, eq2_Cell⟩
    cl_Heap := ⟨pg_Heap, hd_Heap, po_Heap, sa_Heap⟩
    m_Heap := PySem.W.mg_of KI GN a_Heap
    mk_Heap := ⟨mk_Heap, a3, i3, kc_Heap⟩
    n_Heap_room := n_Heap_room
    n_Heap_cells := n_Heap_cells
    n_Heap_used := n_Heap_used
    n_Heap_born := n_Heap_born
    m_Full := PySem.W.mg_of KI GN a_Full
    x_Full := x_Full
    me_Cell___init__ := ⟨a1, i1, k1⟩
    me_Cell_units := ⟨a2, i2, k2⟩
    me_Heap___init__ := ⟨a3, i3, k3⟩
    me_Heap_make := ⟨a4, i4, k4⟩
    me_Heap_lay := ⟨a5, i5, k5⟩
    me_Heap_back := ⟨a6, i6, k6⟩
    me_Heap_free := ⟨a7, i7, k7⟩
    m_cell_at := PySem.W.mg_of KI GN a8
    m_reached := PySem.W.mg_of KI GN a9
    m_onward := PySem.W.mg_of KI GN a10
    m__law_cell_at := PySem.W.mg_of KI GN a11
    m__law_whole := PySem.W.mg_of KI GN a12
    m__law_mixed := PySem.W.mg_of KI GN a13
    m__law_many := PySem.W.mg_of KI GN a14
    m__law_left := PySem.W.mg_of KI GN a15
    m__law_heap := PySem.W.mg_of KI GN a16
    m__law_link := PySem.W.mg_of KI GN a17
    m__law_links := PySem.W.mg_of KI GN a18
    m__law_slot := PySem.W.mg_of KI GN a19
    m__law_rows := PySem.W.mg_of KI GN a20
    m__law_key := PySem.W.mg_of KI GN a21
    m__law_at_key := PySem.W.mg_of KI GN a22
    m__law_keys := PySem.W.mg_of KI GN a23
    m__law_told_by := PySem.W.mg_of KI GN a24
    m__law_least := PySem.W.mg_of KI GN a25
    z_bool := PySem.W.mg_none_of KI GN z_bool
    z_enumerate := PySem.W.mg_none_of KI GN z_enumerate
    z_int := PySem.W.mg_none_of KI GN z_int
    z_isinstance := PySem.W.mg_none_of KI GN z_isinstance
    z_len := PySem.W.mg_none_of KI GN z_len
    z_list := PySem.W.mg_none_of KI GN z_list
    z_max := PySem.W.mg_none_of KI GN z_max
    z_range := PySem.W.mg_none_of KI GN z_range
    z_tuple := PySem.W.mg_none_of KI GN z_tuple
  }
  have F1 := fun_mk (st := s_Cell___init__) l1 c1 k1
  have b1 := F1.binds (ps := ["self", "birth", "many", "bulk", "tone"]) fun _ _ _ _ _ _ us hl => match us, hl with | [_, _, _, _, _], _ => rfl
  have F2 := fun_mk (st := s_Cell_units) l2 c2 k2
  have b2 := F2.binds (ps := ["self"]) fun _ _ _ _ _ _ us hl => match us, hl with | [_], _ => rfl
  have F3 := fun_mk (st := s_Heap___init__) l3 c3 k3
  have b3 := F3.binds (ps := ["self", "room"]) fun _ _ _ _ _ _ us hl => match us, hl with | [_, _], _ => rfl
  have F4 := G.funD_mk (st := s_Heap_make) l4 c4 k4
  have b4 := G.bindsD (ps := ["self", "many", "bulk", "tone"]) (ds := []) l4 t4 fun us hl => match us, hl with | [_, _, _, _], _ => ⟨_, rfl, rfl⟩
  have bd4_1 := G.bindsD (ps := ["self", "many", "bulk", "tone"]) (ds := [dv4_1]) l4 t4 fun us hl => match us, hl with | [_, _, _], _ => ⟨_, rfl, rfl⟩
  have bd4_2 := G.bindsD (ps := ["self", "many", "bulk", "tone"]) (ds := [dv4_0, dv4_1]) l4 t4 fun us hl => match us, hl with | [_, _], _ => ⟨_, rfl, rfl⟩
  have F5 := fun_mk (st := s_Heap_lay) l5 c5 k5
  have b5 := F5.binds (ps := ["self", "cell"]) fun _ _ _ _ _ _ us hl => match us, hl with | [_, _], _ => rfl
  have F6 := fun_mk (st := s_Heap_back) l6 c6 k6
  have b6 := F6.binds (ps := ["self", "place"]) fun _ _ _ _ _ _ us hl => match us, hl with | [_, _], _ => rfl
  have F7 := fun_mk (st := s_Heap_free) l7 c7 k7
  have b7 := F7.binds (ps := ["self"]) fun _ _ _ _ _ _ us hl => match us, hl with | [_], _ => rfl
  have F8 := fun_mk (st := s_cell_at) l8 c8 k8
  have b8 := F8.binds (ps := ["heap", "place"]) fun _ _ _ _ _ _ us hl => match us, hl with | [_, _], _ => rfl
  have F9 := fun_mk (st := s_reached) l9 c9 k9
  have b9 := F9.binds (ps := ["heap", "rows"]) fun _ _ _ _ _ _ us hl => match us, hl with | [_, _], _ => rfl
  have F10 := fun_mk (st := s_onward) l10 c10 k10
  have b10 := F10.binds (ps := ["heap", "places", "way"]) fun _ _ _ _ _ _ us hl => match us, hl with | [_, _, _], _ => rfl
  have F11 := fun_mk (st := s__law_cell_at) l11 c11 k11
  have b11 := F11.binds (ps := ["_law_script", "_law_k"]) fun _ _ _ _ _ _ us hl => match us, hl with | [_, _], _ => rfl
  have F12 := fun_mk (st := s__law_whole) l12 c12 k12
  have b12 := F12.binds (ps := ["_law_found"]) fun _ _ _ _ _ _ us hl => match us, hl with | [_], _ => rfl
  have F13 := fun_mk (st := s__law_mixed) l13 c13 k13
  have b13 := F13.binds (ps := ["_law_cell", "_law_one", "_law_two"]) fun _ _ _ _ _ _ us hl => match us, hl with | [_, _, _], _ => rfl
  have F14 := fun_mk (st := s__law_many) l14 c14 k14
  have b14 := F14.binds (ps := ["_law_cell"]) fun _ _ _ _ _ _ us hl => match us, hl with | [_], _ => rfl
  have F15 := fun_mk (st := s__law_left) l15 c15 k15
  have b15 := F15.binds (ps := ["_law_cell"]) fun _ _ _ _ _ _ us hl => match us, hl with | [_], _ => rfl
  have F16 := fun_mk (st := s__law_heap) l16 c16 k16
  have b16 := F16.binds (ps := ["_law_cells"]) fun _ _ _ _ _ _ us hl => match us, hl with | [_], _ => rfl
  have F17 := fun_mk (st := s__law_link) l17 c17 k17
  have b17 := F17.binds (ps := ["_law_drawn", "_law_rank", "_law_spot", "_law_there", "_law_total"]) fun _ _ _ _ _ _ us hl => match us, hl with | [_, _, _, _, _], _ => rfl
  have F18 := fun_mk (st := s__law_links) l18 c18 k18
  have b18 := F18.binds (ps := ["_law_heap_here", "_law_cells"]) fun _ _ _ _ _ _ us hl => match us, hl with | [_, _], _ => rfl
  have F19 := fun_mk (st := s__law_slot) l19 c19 k19
  have b19 := F19.binds (ps := ["_law_drawn", "_law_total"]) fun _ _ _ _ _ _ us hl => match us, hl with | [_, _], _ => rfl
  have F20 := fun_mk (st := s__law_rows) l20 c20 k20
  have b20 := F20.binds (ps := ["_law_first", "_law_second", "_law_total"]) fun _ _ _ _ _ _ us hl => match us, hl with | [_, _, _], _ => rfl
  have F21 := fun_mk (st := s__law_key) l21 c21 k21
  have b21 := F21.binds (ps := ["_law_way", "_law_numbers"]) fun _ _ _ _ _ _ us hl => match us, hl with | [_, _], _ => rfl
  have F22 := fun_mk (st := s__law_at_key) l22 c22 k22
  have b22 := F22.binds (ps := ["_law_key_here", "_law_found", "_law_rows_here", "_law_links_here"]) fun _ _ _ _ _ _ us hl => match us, hl with | [_, _, _, _], _ => rfl
  have F23 := fun_mk (st := s__law_keys) l23 c23 k23
  have b23 := F23.binds (ps := ["_law_found", "_law_rows_here", "_law_links_here"]) fun _ _ _ _ _ _ us hl => match us, hl with | [_, _, _], _ => rfl
  have F24 := fun_mk (st := s__law_told_by) l24 c24 k24
  have b24 := F24.binds (ps := ["_law_keys_here", "_law_place", "_law_key_here"]) fun _ _ _ _ _ _ us hl => match us, hl with | [_, _, _], _ => rfl
  have F25 := fun_mk (st := s__law_least) l25 c25 k25
  have b25 := F25.binds (ps := ["_law_found", "_law_keys_here", "_law_rows_here", "_law_links_here"]) fun _ _ _ _ _ _ us hl => match us, hl with | [_, _, _, _], _ => rfl
  have F26 := fun_mk (st := s_law) l26 c26 k26
  refine ⟨PySem.W.fnOf "law" "law" (defArgs s_law) (defBody s_law) (defScope s_law) .none kV26 dc26 pm26 an26 cd26 ct26, fun s v => .of_eq rfl, fun base _ _ => ?_⟩
  have G1 := ok_Cell___init__ (P := l.prog) (w := w) (base := base) T F1 
  have G2 := ok_Cell_units (P := l.prog) (w := w) (base := base) T F2 
  have G3 := ok_Heap___init__ (P := l.prog) (w := w) (base := base) T F3 
  have G5 := ok_Heap_lay (P := l.prog) (w := w) (base := base) T F5 
  have G7 := ok_Heap_free (P := l.prog) (w := w) (base := base) T F7 
  have G8 := ok_cell_at (P := l.prog) (w := w) (base := base) T F8 
  have G11 := ok__law_cell_at (P := l.prog) (w := w) (base := base) T F11 
  have G12 := ok__law_whole (P := l.prog) (w := w) (base := base) T F12 
  have G13 := ok__law_mixed (P := l.prog) (w := w) (base := base) T F13 
  have G14 := ok__law_many (P := l.prog) (w := w) (base := base) T F14 
  have G17 := ok__law_link (P := l.prog) (w := w) (base := base) T F17 
  have G19 := ok__law_slot (P := l.prog) (w := w) (base := base) T F19 
  have G22 := ok__law_at_key (P := l.prog) (w := w) (base := base) T F22 
  have G24 := ok__law_told_by (P := l.prog) (w := w) (base := base) T F24 
  have G6 := ok_Heap_back (P := l.prog) (w := w) (base := base) T F6 G2 b2 k2
  have G10 := ok_onward (P := l.prog) (w := w) (base := base) T F10 G8 b8 k8
  have G15 := ok__law_left (P := l.prog) (w := w) (base := base) T F15 G13 b13 k13
  have G20 := ok__law_rows (P := l.prog) (w := w) (base := base) T F20 G13 b13 k13 G19 b19 k19
  have G21 := ok__law_key (P := l.prog) (w := w) (base := base) T F21 G12 b12 k12
  have G25 := ok__law_least (P := l.prog) (w := w) (base := base) T F25 G24 b24 k24
  have G4 := ok_Heap_make (P := l.prog) (w := w) (base := base) T F4 G1 b1 k1 G2 b2 k2 G7 b7 k7 G5 b5 k5
  have G9 := ok_reached (P := l.prog) (w := w) (base := base) T F9 G10 b10 k10
  have G18 := ok__law_links (P := l.prog) (w := w) (base := base) T F18 G15 b15 k15 G17 b17 k17 G14 b14 k14 G13 b13 k13
  have G23 := ok__law_keys (P := l.prog) (w := w) (base := base) T F23 G22 b22 k22 G21 b21 k21 G12 b12 k12
  have G16 := ok__law_heap (P := l.prog) (w := w) (base := base) T F16 G3 b3 k3 G6 b6 k6 G4 b4 k4 G15 b15 k15 G14 b14 k14
  exact ok_law T F26 G11 b11 k11 G16 b16 k16 G23 b23 k23 G25 b25 k25 G18 b18 k18 G20 b20 k20 G9 b9 k9
theorem walk {l : PySem.W.OpenLaw} {q : Program} {loose : List Str} {XP : (Str → Option Value) → Heap → Prop} {YP : World → Heap → Prop} {d : DefRec} {K : Params → PySem.W.Frag} (hn : l.most = some 63) (hdf : d.params.defaults = [])
    (hY : ∀ (w : World) (h : Heap), YP w h → (K w.params).In h)
    (F : ∀ (w : World) (mg : Str → Option Value) (fa : Addr) (h : Heap), (K w.params).In h → h.Ns mainGlobals mg → mg d.name = some (.ref fa) →
      ∃ fd : FuncData, (∀ (s : Shared) (u : Value), BindsTo s fd ⟨[u], []⟩ [("_law_script", u)]) ∧ ∀ base : Heap, (K w.params).In base → base.Ns mainGlobals mg → FnOk l.prog w (K w.params) mg base (G.CXe l.prog w) 5 fa fd ["_law_script"] (S_law (K w.params))) :
    PySem.W.WalkO q loose XP YP l.row.toRowW d [] (fun f vs => PySem.call f vs) :=
  L2.walk_of (n := 63) (k := 5) (x := "_law_script") (CX := fun w => G.CXe l.prog w) (sp := fun w => S_law (K w.params)) hn (by decide) hdf ⟨rfl, by decide, by decide⟩ hY F (fun _ _ a ns hl _ hS => ⟨a, rfl, ns, hS, hl, fun _ => rfl⟩) fun _ _ _ _ _ z => by
    obtain ⟨_, _, _, _, _, _, _, _, _, _, _, _, z⟩ := z
    exact z
end K09
open PySem PySem.W PyProof.Rows
set_option maxRecDepth 100000 in
set_option maxHeartbeats 0 in
theorem PySem.Challenge.cw_greywalk_k09_ways_in_order_holds : PySem.Challenge.rw_greywalk_k09_ways_in_order.Holds := by
  w_on; o_law; k_head; (case hw => w_witness2)
  k_fill
  refine K09.walk (l := PySem.Challenge.rw_greywalk_k09_ways_in_order) rfl rfl (fun w h Y => PySem.W.kIn_of Y) ?F
  case F =>
    intro w mg fa h KX G hmg
    refine' K09.all_mk KX G hmg ?a_Cell ?a_Heap ?a_Full ?a1 ?i1 ?l1 ?c1 ?k1 ?a2 ?i2 ?l2 ?c2 ?k2 ?a3 ?i3 ?l3 ?c3 ?k3 ?a4 ?i4 ?l4 ?t4 ?dr4_0 ?dr4_1 ?c4 ?k4 ?a5 ?i5 ?l5 ?c5 ?k5 ?a6 ?i6 ?l6 ?c6 ?k6 ?a7 ?i7 ?l7 ?c7 ?k7 ?a8 ?l8 ?c8 ?k8 ?a9 ?l9 ?c9 ?k9 ?a10 ?l10 ?c10 ?k10 ?a11 ?l11 ?c11 ?k11 ?a12 ?l12 ?c12 ?k12 ?a13 ?l13 ?c13 ?k13 ?a14 ?l14 ?c14 ?k14 ?a15 ?l15 ?c15 ?k15 ?a16 ?l16 ?c16 ?k16 ?a17 ?l17 ?c17 ?k17 ?a18 ?l18 ?c18 ?k18 ?a19 ?l19 ?c19 ?k19 ?a20 ?l20 ?c20 ?k20 ?a21 ?l21 ?c21 ?k21 ?a22 ?l22 ?c22 ?k22 ?a23 ?l23 ?c23 ?k23 ?a24 ?l24 ?c24 ?k24 ?a25 ?l25 ?c25 ?k25 ?a26 ?l26 ?c26 ?k26 ?pg_Cell ?hd_Cell ?po_Cell ?sa_Cell ?mk_Cell ?kc_Cell ?n_Cell_birth ?n_Cell_bulk ?n_Cell_tone ?n_Cell_load ?n_Cell_fields ?eq1_Cell ?eq2_Cell ?pg_Heap ?hd_Heap ?po_Heap ?sa_Heap ?mk_Heap ?kc_Heap ?n_Heap_room ?n_Heap_cells ?n_Heap_used ?n_Heap_born ?x_Full ?z_bool ?z_enumerate ?z_int ?z_isinstance ?z_len ?z_list ?z_max ?z_range ?z_tuple
    (case a_Cell => k_is)
    (case a_Heap => k_is)
    (case a_Full => k_is)
    (case a1 => k_is)
    (case i1 => k_is)
    (case l1 => k_is)
    (case c1 => k_is)
    (case k1 => k_is)
    (case a2 => k_is)
    (case i2 => k_is)
    (case l2 => k_is)
    (case c2 => k_is)
    (case k2 => k_is)
    (case a3 => k_is)
    (case i3 => k_is)
    (case l3 => k_is)
    (case c3 => k_is)
    (case k3 => k_is)
    (case a4 => k_is)
    (case i4 => k_is)
    (case l4 => k_is)
    (case t4 => k_is)
    (case dr4_0 => first | exact rfl | exact ⟨_, rfl⟩)
    (case dr4_1 => first | exact rfl | exact ⟨_, rfl⟩)
    (case c4 => k_is)
    (case k4 => k_is)
    (case a5 => k_is)
    (case i5 => k_is)
    (case l5 => k_is)
    (case c5 => k_is)
    (case k5 => k_is)
    (case a6 => k_is)
    (case i6 => k_is)
    (case l6 => k_is)
    (case c6 => k_is)
    (case k6 => k_is)
    (case a7 => k_is)
    (case i7 => k_is)
    (case l7 => k_is)
    (case c7 => k_is)
    (case k7 => k_is)
    (case a8 => k_is)
    (case l8 => k_is)
    (case c8 => k_is)
    (case k8 => k_is)
    (case a9 => k_is)
    (case l9 => k_is)
    (case c9 => k_is)
    (case k9 => k_is)
    (case a10 => k_is)
    (case l10 => k_is)
    (case c10 => k_is)
    (case k10 => k_is)
    (case a11 => k_is)
    (case l11 => k_is)
    (case c11 => k_is)
    (case k11 => k_is)
    (case a12 => k_is)
    (case l12 => k_is)
    (case c12 => k_is)
    (case k12 => k_is)
    (case a13 => k_is)
    (case l13 => k_is)
    (case c13 => k_is)
    (case k13 => k_is)
    (case a14 => k_is)
    (case l14 => k_is)
    (case c14 => k_is)
    (case k14 => k_is)
    (case a15 => k_is)
    (case l15 => k_is)
    (case c15 => k_is)
    (case k15 => k_is)
    (case a16 => k_is)
    (case l16 => k_is)
    (case c16 => k_is)
    (case k16 => k_is)
    (case a17 => k_is)
    (case l17 => k_is)
    (case c17 => k_is)
    (case k17 => k_is)
    (case a18 => k_is)
    (case l18 => k_is)
    (case c18 => k_is)
    (case k18 => k_is)
    (case a19 => k_is)
    (case l19 => k_is)
    (case c19 => k_is)
    (case k19 => k_is)
    (case a20 => k_is)
    (case l20 => k_is)
    (case c20 => k_is)
    (case k20 => k_is)
    (case a21 => k_is)
    (case l21 => k_is)
    (case c21 => k_is)
    (case k21 => k_is)
    (case a22 => k_is)
    (case l22 => k_is)
    (case c22 => k_is)
    (case k22 => k_is)
    (case a23 => k_is)
    (case l23 => k_is)
    (case c23 => k_is)
    (case k23 => k_is)
    (case a24 => k_is)
    (case l24 => k_is)
    (case c24 => k_is)
    (case k24 => k_is)
    (case a25 => k_is)
    (case l25 => k_is)
    (case c25 => k_is)
    (case k25 => k_is)
    (case a26 => k_is)
    (case l26 => k_is)
    (case c26 => k_is)
    (case k26 => k_is)
    (case pg_Cell => k_is)
    (case hd_Cell => k_is)
    (case po_Cell => k_is)
    (case sa_Cell => k_is)
    (case mk_Cell => k_is)
    (case kc_Cell => k_is)
    (case n_Cell_birth => k_is)
    (case n_Cell_bulk => k_is)
    (case n_Cell_tone => k_is)
    (case n_Cell_load => k_is)
    (case n_Cell_fields => k_is)
    (case eq1_Cell => k_is)
    (case eq2_Cell => k_is)
    (case pg_Heap => k_is)
    (case hd_Heap => k_is)
    (case po_Heap => k_is)
    (case sa_Heap => k_is)
    (case mk_Heap => k_is)
    (case kc_Heap => k_is)
    (case n_Heap_room => k_is)
    (case n_Heap_cells => k_is)
    (case n_Heap_used => k_is)
    (case n_Heap_born => k_is)
    (case x_Full => k_exc)
    (case z_bool => k_is)
    (case z_enumerate => k_is)
    (case z_int => k_is)
    (case z_isinstance => k_is)
    (case z_len => k_is)
    (case z_list => k_is)
    (case z_max => k_is)
    (case z_range => k_is)
    (case z_tuple => k_is)
#print axioms PySem.Challenge.cw_greywalk_k09_ways_in_order_holds


