import PyProof.Rows.All
import Wide.All
import OpenK.AllK
import Wide.FinOn
import Lean
import PyProof.EqAt
import PyProof.EqKinds
import PyProof.TupleCall
import KE.KItemsList
import KE.KDictList
import PySem.Challenge.RW_greywalk_k15_gone_and_roots
set_option Elab.async false
set_option linter.all false
set_option maxRecDepth 100000
namespace L2
open PySem PySem.Spec PyProof.Rows

abbrev Key := Sum Int Str
def keyIs : Key → Value → Bool
  | .inl k, v => Value.isInt k v
  | .inr x, v => Value.isStrOf x v
def keyH (w : World) : Key → Int
  | .inl k => hashInt k
  | .inr x => hashStr w x
theorem keyIs_shape : ∀ {k : Key} {v : Value}, keyIs k v = true → (∃ i t, k = Sum.inl i ∧ v = Value.int i t) ∨ (∃ x t, k = Sum.inr x ∧ v = Value.str x t)
  | .inl i, v, h => by
    obtain ⟨t, e⟩ := Value.isInt_shape (k := i) (v := v) h
    exact .inl ⟨i, t, rfl, e⟩
  | .inr x, v, h => by
    obtain ⟨t, e⟩ := Value.isStrOf_shape (x := x) (v := v) h
    exact .inr ⟨x, t, rfl, e⟩
theorem keyIs_int (i : Int) (t : Tok) : keyIs (.inl i) (.int i t) = true := by simp [keyIs, Value.isInt]
theorem keyIs_str (x : Str) (t : Tok) : keyIs (.inr x) (.str x t) = true := by simp [keyIs, Value.isStrOf]
theorem key_ll (a b : Int) : decide ((Sum.inl a : Key) = Sum.inl b) = (a == b) := by
  by_cases e : a = b
  · subst e; simp
  · have h : ¬ (Sum.inl a : Key) = Sum.inl b := fun q => e (Sum.inl.inj q)
    rw [decide_eq_false h]
    exact (beq_eq_false_iff_ne.mpr e).symm
theorem key_rr (a b : Str) : decide ((Sum.inr a : Key) = Sum.inr b) = decide (a = b) := by
  by_cases e : a = b
  · subst e; simp
  · have h : ¬ (Sum.inr a : Key) = Sum.inr b := fun q => e (Sum.inr.inj q)
    rw [decide_eq_false h, decide_eq_false e]
theorem key_lr (a : Int) (b : Str) : decide ((Sum.inl a : Key) = Sum.inr b) = false := decide_eq_false (fun q => nomatch q)
theorem key_rl (a : Str) (b : Int) : decide ((Sum.inr a : Key) = Sum.inl b) = false := decide_eq_false (fun q => nomatch q)

def mixKind (prog : Program) (w : World) : PySem.KeyKind prog w Key where
  is := keyIs
  hash := keyH w
  inj := fun v a b ha hb => by
    rcases keyIs_shape ha with ⟨i, t, rfl, rfl⟩ | ⟨x, t, rfl, rfl⟩
    · rcases keyIs_shape hb with ⟨j, u, rfl, e⟩ | ⟨y, u, rfl, e⟩
      · injection e with e1 _; rw [e1]
      · exact nomatch e
    · rcases keyIs_shape hb with ⟨j, u, rfl, e⟩ | ⟨y, u, rfl, e⟩
      · exact nomatch e
      · injection e with e1 _; rw [e1]
  byValue := fun k v h => by
    rcases keyIs_shape h with ⟨i, t, rfl, rfl⟩ | ⟨x, t, rfl, rfl⟩ <;> rfl
  pyHash := fun hv h => by
    rcases keyIs_shape hv with ⟨i, t, rfl, rfl⟩ | ⟨x, t, rfl, rfl⟩
    · exact wpAny_pyHash_int h
    · exact wpAny_pyHash_str h
  eqBool := fun hu hv h => by
    rcases keyIs_shape hu with ⟨i, t, rfl, rfl⟩ | ⟨x, t, rfl, rfl⟩
    · rcases keyIs_shape hv with ⟨j, u, rfl, rfl⟩ | ⟨y, u, rfl, rfl⟩
      · rw [key_ll] at h; exact wpAny_eqBool_int h
      · rw [key_lr] at h; exact SeqAt.EqAt.int_str i t y u _ _ _ _ h
    · rcases keyIs_shape hv with ⟨j, u, rfl, rfl⟩ | ⟨y, u, rfl, rfl⟩
      · rw [key_rl] at h; exact SeqAt.EqAt.str_int x t j u _ _ _ _ h
      · rw [key_rr] at h; exact wpAny_eqBool_str h
  «strs» := fun k x t v h => by
    rcases keyIs_shape h with ⟨i, u, rfl, e⟩ | ⟨y, u, rfl, e⟩
    · exact nomatch e
    · injection e with e1 _
      subst e1
      cases v <;> rfl

theorem mixKind_int (prog : Program) (w : World) (i : Int) (t : Tok) : (mixKind prog w).is (.inl i) (.int i t) = true := keyIs_int i t
theorem mixKind_str (prog : Program) (w : World) (x : Str) (t : Tok) : (mixKind prog w).is (.inr x) (.str x t) = true := keyIs_str x t
end L2

namespace L2
open PySem PySem.Spec PyProof.Rows

inductive V where
  | non | bl (b : Bool) | int (i : Int) | str (x : Str) | byt (b : Array UInt8) | flt (b : UInt64) | ref (a : Addr) | ty (n : String)
  deriving DecidableEq

def RelV : V → Value → Prop
  | .non, u => u = Value.none
  | .bl b, u => u = Value.bool b
  | .int i, u => ∃ t, u = Value.int i t
  | .str x, u => ∃ t, u = Value.str x t
  | .byt b, u => ∃ t, u = Value.bytes b t
  | .flt b, u => ∃ t, u = Value.float b t
  | .ref a, u => u = Value.ref a
  | .ty n, u => u = Value.type n

abbrev Vals : List V → List Value → Prop := Paired RelV
theorem Vals.length {xs : List V} {us : List Value} (r : Vals xs us) : xs.length = us.length := Paired.length r
theorem Vals.get : ∀ {xs : List V} {us : List Value} {i : Nat} {x : V}, Vals xs us → xs[i]? = some x → ∃ u, us[i]? = some u ∧ RelV x u
  | _, _, _, _, .nil, e => by simp at e
  | _, _, 0, _, .cons r _, e => by simp at e; subst e; exact ⟨_, rfl, r⟩
  | _, _, i + 1, x, .cons _ t, e => by
    obtain ⟨u, h1, h2⟩ := Vals.get (i := i) (x := x) t (by simpa using e)
    exact ⟨u, by simpa using h1, h2⟩
theorem Vals.set {x : V} {u : Value} (r : RelV x u) : ∀ {xs : List V} {us : List Value} (i : Nat), Vals xs us → Vals (xs.set i x) (us.set i u)
  | _, _, _, .nil => .nil
  | _, _, 0, .cons _ t => .cons r t
  | _, _, i + 1, .cons q t => .cons q (Vals.set r i t)
theorem Vals.append : ∀ {xs ys : List V} {us ws : List Value}, Vals xs us → Vals ys ws → Vals (xs ++ ys) (us ++ ws)
  | _, _, _, _, .nil, s => s
  | _, _, _, _, .cons r t, s => .cons r (Vals.append t s)
theorem Vals.take : ∀ {xs : List V} {us : List Value} (n : Nat), Vals xs us → Vals (xs.take n) (us.take n)
  | _, _, 0, _ => .nil
  | _, _, _ + 1, .nil => .nil
  | _, _, n + 1, .cons r t => .cons r (Vals.take n t)
theorem Vals.drop : ∀ {xs : List V} {us : List Value} (n : Nat), Vals xs us → Vals (xs.drop n) (us.drop n)
  | _, _, 0, r => r
  | _, _, _ + 1, .nil => .nil
  | _, _, n + 1, .cons _ t => Vals.drop n t
def RelO : Option V → Option Value → Prop
  | some v, some u => RelV v u
  | none, none => True
  | _, _ => False
def KV {κ : Type} : List (κ × V) → List (κ × Value) → Prop := Paired fun (p : κ × V) (q : κ × Value) => p.1 = q.1 ∧ RelV p.2 q.2

def kV : Key → V
  | .inl i => .int i
  | .inr x => .str x

inductive HO where
    | lst (xs : List V)
    | tup (xs : List V)
    | dK (kvs : List (Key × V)) | dT (kvs : List (List Key × V))
    | set (S : Int → Bool) (n : Nat)
    | ins (C dx : Addr) (fs : List (Str × V))
    | own (x : Addr)
    | xd (fs : List (Str × V))
    | met (f x : Addr)
    | rng (lo hi : Int)
    | frz (o : Obj) (u : HO)
    | tbl (ps : Array Value)
    | ext (φ : Heap → Prop)

abbrev Hp := Addr → Option HO
def upd (H : Hp) (a : Addr) (o : HO) : Hp := fun b => if b = a then some o else H b
theorem upd_same {H : Hp} {a : Addr} {o : HO} : upd H a o a = some o := by unfold upd; rw [if_pos rfl]
theorem upd_ne {H : Hp} {a b : Addr} {o : HO} (h : b ≠ a) : upd H a o b = H b := by unfold upd; rw [if_neg h]
theorem upd_upd {H : Hp} {a : Addr} {o u : HO} : upd (upd H a o) a u = upd H a u := by
  funext b; unfold upd; split <;> rfl
theorem ne_of {H : Hp} {a b : Addr} {o u : HO} (h : H a = some o) (h' : H b = some u) (d : o ≠ u) : a ≠ b := by
  intro e; subst e; rw [h] at h'; exact d (Option.some.inj h')
theorem ne_of_none {H : Hp} {a b : Addr} {o : HO} (h : H a = some o) (h' : H b = none) : a ≠ b := by
  intro e; subst e; rw [h] at h'; cases h'

section
variable (P : Program) (w : World)
def ObjOk (H : Hp) (h : Heap) (a : Addr) : HO → Prop
  | .lst xs => xs.length ≤ sizeLine ∧ ∃ (its : List Value) (n : Nat), Vals xs its ∧ h.get? a = some { cls := .type "list", data := .seq its.toArray n }
  | .tup xs => xs.length ≤ sizeLine ∧ ∃ its : List Value, Vals xs its ∧ IsTup h a its.toArray
  | .dK kvs => kvs.length ≤ sizeLine ∧ (a == sysModules) = false ∧ ∃ vs, KV kvs vs ∧ h.DictOf (mixKind P w) a vs
  | .dT kvs => kvs.length ≤ sizeLine ∧ (a == sysModules) = false ∧ ∃ xs : List (List Key × Addr × Value),
      Paired (fun (p : List Key × V) (q : List Key × Addr × Value) => p.1 = q.1 ∧ H q.2.1 = some (.tup (p.1.map kV)) ∧ RelV p.2 q.2.2) kvs xs ∧
      ∃ o es ep, h.get? a = some o ∧ o.ExactDict ∧ o.data = .dict es ep ∧ es.toList = xs.map (entryOfKey (tupleKind (mixKind P w))) ∧ (xs.map (·.1)).Nodup
  | .set S n => h.SetOf (intKind P w) a S n
  | .ins C dx fs => H dx = some (.own a) ∧ fs.length ≤ 1000 ∧ dx ≠ a ∧ h.get? a = some (PySem.W.instObj C dx) ∧
      ∃ mA, h.Ns1 dx mA ∧ (∀ f, RelO (fs.lookup f) (mA f)) ∧ PySem.Within mA (fs.map (·.1))
  | .own _ => ∃ o, h.get? a = some o
  | .xd fs => ∃ mA, h.Ns1 a mA ∧ ∀ f, RelO (fs.lookup f) (mA f)
  | .rng lo hi => ∃ t u v, h.get? a = some { cls := .type "range", data := .fields #[.int lo t, .int hi u, .int 1 v] }
  | .frz o u => h.get? a = some o ∧ ObjOk H h a u
  | .tbl ps => h.get? a = some { cls := .none, data := .fields ps }
  | .met f x => h.get? a = some (PySem.W.methodObj (.ref f) (.ref x))
  | .ext φ => φ h ∧ (∃ o, h.get? a = some o) ∧ ∀ h1 h2 : Heap, φ h1 → (∀ o, h1.get? a = some o → h2.get? a = some o) → φ h2
def HOk (H : Hp) (h : Heap) : Prop := ∀ a o, H a = some o → ObjOk P w H h a o
end

section
variable {P : Program} {w : World} {H H' : Hp} {h h' : Heap} {a : Addr} {o : HO}
theorem ObjOk.lt (x : ObjOk P w H h a o) : a < h.objs.size := by
  cases o with
  | lst xs => obtain ⟨_, _, _, _, e⟩ := x; exact Heap.lt_size e
  | tup xs => obtain ⟨_, _, _, p⟩ := x; exact p.lt
  | dK kvs => obtain ⟨_, _, _, _, o, _, _, e, _⟩ := x; exact Heap.lt_size e
  | dT kvs => obtain ⟨_, _, _, _, o, _, _, e, _⟩ := x; exact Heap.lt_size e
  | set S n => obtain ⟨o, _, _, _, e, _⟩ := x; exact Heap.lt_size e
  | ins C dx fs => obtain ⟨_, _, _, e, _⟩ := x; exact Heap.lt_size e
  | own y => obtain ⟨_, e⟩ := x; exact Heap.lt_size e
  | xd fs => obtain ⟨_, ⟨_, _, _, e, _⟩, _⟩ := x; exact Heap.lt_size e
  | rng lo hi => obtain ⟨_, _, _, e⟩ := x; exact Heap.lt_size e
  | frz ob u => obtain ⟨e, _⟩ := x; exact Heap.lt_size e
  | tbl ps => exact Heap.lt_size (show h.get? a = some _ from x)
  | met f y => exact Heap.lt_size (show h.get? a = some _ from x)
  | ext φ => obtain ⟨_, ⟨_, e⟩, _⟩ := x; exact Heap.lt_size e
theorem Paired.mapP {α β : Type} {F G : α → β → Prop} : ∀ {l₁ : List α} {l₂ : List β}, Paired F l₁ l₂ → (∀ a b, F a b → G a b) → Paired G l₁ l₂
  | _, _, .nil, _ => .nil
  | _, _, .cons r t, f => .cons (f _ _ r) (Paired.mapP t f)
theorem ObjOk.stay (x : ObjOk P w H h a o) (k : ∀ b u, (b = a ∨ H b = some (.own a)) → h.get? b = some u → h'.get? b = some u)
    (ho : ∀ b, H b = some (.own a) → H' b = some (.own a)) (ht : ∀ b xs, H b = some (.tup xs) → H' b = some (.tup xs)) : ObjOk P w H' h' a o := by
  induction o with
  | lst xs => obtain ⟨z, its, n, r, e⟩ := x; exact ⟨z, its, n, r, k _ _ (.inl rfl) e⟩
  | tup xs => obtain ⟨z, its, r, ob, e, c⟩ := x; exact ⟨z, its, r, ob, k _ _ (.inl rfl) e, c⟩
  | dK kvs => obtain ⟨z, y, vs, r, ob, es, ep, e, c⟩ := x; exact ⟨z, y, vs, r, ob, es, ep, k _ _ (.inl rfl) e, c⟩
  | dT kvs =>
    obtain ⟨z, y, xs, r, ob, es, ep, e, c⟩ := x
    exact ⟨z, y, xs, Paired.mapP r fun p q z => ⟨z.1, ht _ _ z.2.1, z.2.2⟩, ob, es, ep, k _ _ (.inl rfl) e, c⟩
  | set S n => obtain ⟨ob, es, ep, t, e, c⟩ := x; exact ⟨ob, es, ep, t, k _ _ (.inl rfl) e, c⟩
  | ins C dx fs =>
    obtain ⟨d, z, ne, e, mA, ⟨od, es, ep, e2, c⟩, r⟩ := x
    exact ⟨ho _ d, z, ne, k _ _ (.inl rfl) e, mA, ⟨od, es, ep, k _ _ (.inr d) e2, c⟩, r⟩
  | own y => obtain ⟨ob, e⟩ := x; exact ⟨ob, k _ _ (.inl rfl) e⟩
  | xd fs => obtain ⟨mA, ⟨od, es, ep, e, c⟩, r⟩ := x; exact ⟨mA, ⟨od, es, ep, k _ _ (.inl rfl) e, c⟩, r⟩
  | rng lo hi => obtain ⟨t, u, v, e⟩ := x; exact ⟨t, u, v, k _ _ (.inl rfl) e⟩
  | frz ob u ih => obtain ⟨e, q⟩ := x; exact ⟨k _ _ (.inl rfl) e, ih q⟩
  | tbl ps =>
    have e : h.get? a = some { cls := .none, data := .fields ps } := x
    show h'.get? a = some { cls := .none, data := .fields ps }
    exact k a _ (.inl rfl) e
  | met f y =>
    have e : h.get? a = some (PySem.W.methodObj (.ref f) (.ref y)) := x
    show h'.get? a = some (PySem.W.methodObj (.ref f) (.ref y))
    exact k a _ (.inl rfl) e
  | ext φ => obtain ⟨p, ⟨o, e⟩, st⟩ := x; exact ⟨st _ _ p fun o q => k _ _ (.inl rfl) q, ⟨o, k _ _ (.inl rfl) e⟩, st⟩
theorem HOk.lt (x : HOk P w H h) (e : H a = some o) : a < h.objs.size := (x a o e).lt
theorem HOk.fresh (x : HOk P w H h) (e : h.objs.size ≤ a) : H a = none := by
  cases q : H a with
  | none => rfl
  | some u => exact absurd (Nat.lt_of_lt_of_le (x.lt q) e) (Nat.lt_irrefl _)
theorem HOk.kept (x : HOk P w H h) (k : ∀ b u, h.get? b = some u → h'.get? b = some u) : HOk P w H h' := fun a o e =>
  (x a o e).stay (fun b u _ q => k b u q) (fun _ q => q) fun _ _ q => q
theorem HOk.laid (x : HOk P w H h) (k : ∀ b u, h.get? b = some u → h'.get? b = some u) (hp : h.objs.size ≤ a) (new : ObjOk P w (upd H a o) h' a o) : HOk P w (upd H a o) h' := fun b u e => by
  have hn := x.fresh hp
  by_cases hb : b = a
  · subst hb; rw [upd_same] at e; cases e; exact new
  · rw [upd_ne hb] at e
    exact (x b u e).stay (fun c v _ q => k c v q) (fun c q => by rw [upd_ne (ne_of_none q hn)]; exact q) fun c xs q => by rw [upd_ne (ne_of_none q hn)]; exact q
end

def Rd (H : Hp) (a : Addr) (u : HO) : Prop := H a = some u ∨ ∃ o, H a = some (.frz o u)
theorem Rd.ok {P : Program} {w : World} {H : Hp} {h : Heap} {a : Addr} {u : HO} (r : Rd H a u) (x : HOk P w H h) : ObjOk P w H h a u := by
  rcases r with r | ⟨o, r⟩
  · exact x a u r
  · obtain ⟨_, q⟩ := x a _ r
    exact q
def Mut : Option HO → Prop
  | some (.lst _) => True
  | some (.dK _) => True
  | some (.dT _) => True
  | some (.set _ _) => True
  | some (.ins _ _ _) => True
  | some (.ext _) => True
  | _ => False
section
variable {P : Program} {w : World} {H : Hp} {h h' : Heap} {x e : Addr} {o' : HO}
theorem HOk.write (ok : HOk P w H h) (mu : Mut (H x)) (he : e = x ∨ H e = some (.own x)) (k : ∀ b u, b ≠ e → h.get? b = some u → h'.get? b = some u) (heo : ∃ u, h'.get? e = some u)
    (new : ObjOk P w (upd H x o') h' x o') : HOk P w (upd H x o') h' := fun b u q => by
  have nown : ∀ c y, H c = some (.own y) → c ≠ x := fun c y r z => by subst z; rw [r] at mu; exact mu
  have ntup : ∀ c xs, H c = some (.tup xs) → c ≠ x := fun c xs r z => by subst z; rw [r] at mu; exact mu
  by_cases hb : b = x
  · subst hb; rw [upd_same] at q; cases q; exact new
  · rw [upd_ne hb] at q
    by_cases hbe : b = e
    · have q' : H b = some (.own x) := by
        rcases he with z | z
        · exact absurd (hbe.trans z) hb
        · rw [hbe]; exact z
      rw [q] at q'; cases q'
      obtain ⟨v, hv⟩ := heo
      exact ⟨v, by rw [hbe]; exact hv⟩
    · refine (ok b u q).stay (fun c v hc r => k c v ?_ r) (fun c r => by rw [upd_ne (nown c b r)]; exact r) fun c xs r => by rw [upd_ne (ntup c xs r)]; exact r
      rcases hc with rfl | hc
      · exact hbe
      · rintro rfl
        rcases he with z | z
        · exact nown c b hc z
        · rw [hc] at z; cases z; exact hb rfl
end

structure Un (fs ex : List Addr) (H H' : Hp) (h h' : Heap) : Prop where
  keep : ∀ b o, h.get? b = some o → H b = none → b ∉ fs → b ∉ ex → h'.get? b = some o
  slot : ∀ b o, h.get? b = some o → H b = none → b ∈ fs → b ∉ ex → ∃ sl, h'.get? b = some { o with slots := sl }
  free : ∀ b o, h.get? b = some o → H b = none → b ∉ ex → H' b = none
  there : ∀ b o, h.get? b = some o → b ∉ ex → ∃ o', h'.get? b = some o'
  tups : ∀ b xs, H b = some (.tup xs) → H' b = some (.tup xs)
  frzs : ∀ b o u, H b = some (.frz o u) → H' b = some (.frz o u)
  tbls : ∀ b ps, H b = some (.tbl ps) → ∃ more, H' b = some (.tbl (ps ++ more))
section
variable {fs fs' ex ex' : List Addr} {H H1 H2 : Hp} {h h1 h2 h' : Heap} {a x e : Addr} {o : HO}
theorem Un.any (u : Un fs ex H H1 h h1) {b : Addr} {ob : Obj} (q : h.get? b = some ob) (n : H b = none) (hx : b ∉ ex) : ∃ sl, h1.get? b = some { ob with slots := sl } := by
  by_cases hb : b ∈ fs
  · exact u.slot b ob q n hb hx
  · exact ⟨ob.slots, u.keep b ob q n hb hx⟩
theorem Un.kept (k : ∀ b u, h.get? b = some u → h'.get? b = some u) : Un fs ex H H h h' :=
  ⟨fun b ob q _ _ _ => k b ob q, fun b ob q _ _ _ => ⟨ob.slots, k b ob q⟩, fun _ _ _ n _ => n, fun b ob q _ => ⟨ob, k b ob q⟩, fun _ _ q => q, fun _ _ _ q => q, fun _ ps q => ⟨#[], by rw [q]; simp⟩⟩
theorem Un.refl : Un fs ex H H h h := Un.kept fun _ _ q => q
theorem Un.laid (k : ∀ b u, h.get? b = some u → h'.get? b = some u) (hp : h.objs.size ≤ a) (hn : H a = none) : Un fs ex H (upd H a o) h h' where
  keep := fun b u q _ _ _ => k b u q
  slot := fun b u q _ _ _ => ⟨u.slots, k b u q⟩
  free := fun b u q n _ => by rw [upd_ne (Nat.ne_of_lt (Nat.lt_of_lt_of_le (Heap.lt_size q) hp))]; exact n
  there := fun b u q _ => ⟨u, k b u q⟩
  tups := fun b xs q => by rw [upd_ne (ne_of_none q hn)]; exact q
  frzs := fun b u xs q => by rw [upd_ne (ne_of_none q hn)]; exact q
  tbls := fun b ps q => ⟨#[], by rw [upd_ne (ne_of_none q hn), q]; simp⟩
theorem Un.write (mu : Mut (H x)) (he : e = x ∨ H e = some (.own x)) (k : ∀ b u, b ≠ e → h.get? b = some u → h'.get? b = some u) (heo : ∃ u, h'.get? e = some u) : Un fs ex H (upd H x o) h h' := by
  have hx : ∀ b, H b = none → b ≠ x := fun b n z => by subst z; rw [n] at mu; exact mu
  have hb : ∀ b, H b = none → b ≠ e := fun b n z => by
    subst z
    rcases he with r | r
    · exact hx b n r
    · rw [n] at r; cases r
  have hm : ∀ b u, H b = some u → ¬ Mut (some u) → b ≠ x := fun b u q nm z => by subst z; rw [q] at mu; exact nm mu
  refine ⟨fun b u q n _ _ => k b u (hb b n) q, fun b u q n _ _ => ⟨u.slots, k b u (hb b n) q⟩, fun b u q n _ => by rw [upd_ne (hx b n)]; exact n, fun b u q _ => ?_,
    fun b xs q => by rw [upd_ne (hm b _ q fun z => z)]; exact q, fun b u xs q => by rw [upd_ne (hm b _ q fun z => z)]; exact q, fun b ps q => ⟨#[], by rw [upd_ne (hm b _ q fun z => z), q]; simp⟩⟩
  by_cases hbe : b = e
  · subst hbe; exact heo
  · exact ⟨u, k b u hbe q⟩
end

def trk (h : Heap) (H : Hp) : List Addr := (List.range h.objs.size).filter fun a => (H a).isSome
def hidT (h : Heap) (H : Hp) : Heap := PySem.W.hideAll h (trk h H)
theorem hidT_size (h : Heap) (H : Hp) : (hidT h H).objs.size = h.objs.size := PySem.W.hideAll_size _ _
theorem hidT_get {h : Heap} {H : Hp} {b : Addr} {o : Obj} (e : h.get? b = some o) (n : H b = none) : (hidT h H).get? b = some o :=
  PySem.W.hideAll_get _ e fun hm => by
    have q : (H b).isSome = true := (List.mem_filter.mp hm).2
    rw [n] at q; simp at q
theorem of_hidT {h : Heap} {H : Hp} {b : Addr} {o : Obj} (e : (hidT h H).get? b = some o) : h.get? b = some o ∧ H b = none := by
  have e' : h.get? b = some o := PySem.W.of_hideAll (trk h H) e
  refine ⟨e', ?_⟩
  cases q : H b with
  | none => rfl
  | some x =>
    have hm : b ∈ trk h H := List.mem_filter.mpr ⟨List.mem_range.mpr (Heap.lt_size e'), by simp [q]⟩
    have z : (hidT h H).get? b = none := PySem.W.hideAll_none (trk h H) hm
    rw [z] at e; cases e

def allNews (g h : Heap) (L : Addr) : List (Addr × Obj) := (List.range h.objs.size).filterMap fun a => if a = L ∨ (g.get? a).isSome = true then none else (h.get? a).map fun o => (a, o)
def rest (g h : Heap) (L d : Addr) : List (Addr × Obj) := (allNews g h L).filter fun p => decide (p.1 ≠ d)
end L2

namespace L2
open PySem PySem.Spec PyProof.Rows

structure Mod (K : PySem.W.Frag) (mg : Str → Option Value) (base : Heap) : Prop where
  kin : K.In base
  glob : base.Ns mainGlobals mg
  blt : ∃ mb, base.Ns builtinsNs mb ∧ ∀ x : Str, x ≠ "__name__" → mb x = bootBuiltins x
  nolimit : base.NoLimit

structure Cx where
  prog : Program
  w : World
  K : PySem.W.Frag
  mg : Str → Option Value
  base : Heap
  A : Around
  N : List Str
  s₀ : Shared
  H₀ : Hp
  env : Env
  outer : List Env
  stack : List Env
  ex : List Addr
  fn : Str → Bool
  calm : Bool
  pn : List (Addr × Obj)
  xe : Value → Shared → Prop
def frs (l : List Env) : List Addr := l.filterMap (·.frame)
abbrev Cx.fs (X : Cx) : List Addr := frs X.outer

def Vis (sc : Scope) (x : Str) : Prop := sc.names.lookup x = some .local ∨ sc.names.lookup x = some .cell ∨ sc.names.lookup x = some .free
def Loc (sc : Scope) (x : Str) : Prop := sc.names.lookup x = some .local ∨ sc.names.lookup x = some .cell
def Look (env : Env) (h : Heap) (m : Str → Option Value) (x : Str) (u : Value) : Prop :=
  (env.kindOf x = some .local ∧ m x = some u) ∨ ((env.kindOf x = some .cell ∨ env.kindOf x = some .free) ∧ ∃ c, env.cells.lookup x = some c ∧ h.IsCell c (some u))

structure Cx.Ok (X : Cx) : Prop where
  mod : Mod X.K X.mg X.base
  kind : X.env.scope.kind = .function
  glob : X.env.globals = mainGlobals
  blt : X.env.builtins = builtinsNs
  above : X.s₀.heap.objs.size ≤ X.env.locals
  inj : ∀ x y c, X.env.cells.lookup x = some c → X.env.cells.lookup y = some c → x = y
  has : ∀ x, (X.env.kindOf x = some .cell ∨ X.env.kindOf x = some .free) → ∃ c, X.env.cells.lookup x = some c
  cab : ∀ x c, X.fn x = true → X.env.cells.lookup x = some c → X.s₀.heap.objs.size ≤ c
  hd : X.calm = true → X.A.handled = none
  frames : X.A.frames = some X.stack
  stk : X.stack = X.outer ∨ (X.stack = X.env :: X.outer ∧ X.env.frame = some X.env.locals)
  exf : ∀ b ∈ X.ex, b ≠ X.env.locals ∧ ∀ x c, X.env.cells.lookup x = some c → c ≠ b
  bs : ∀ b o, X.base.get? b = some o → X.s₀.heap.get? b = some o ∧ X.H₀ b = none
  bsz : X.base.objs.size ≤ X.s₀.heap.objs.size
  noex : ∀ b o, X.base.get? b = some o → b ∉ X.ex
  exfs : ∀ b ∈ X.ex, b ∉ X.fs
  funs : X.s₀.heap.FunFrames X.base X.outer
  frf : ∀ b ∈ X.fs, X.H₀ b = none

structure Inv (X : Cx) (pins : List (Addr × Obj)) (σ : List (Option V)) (H : Hp) (s : Shared) : Prop where
  ok : X.Ok
  os : s.os = X.s₀.os
  bare : AllBare s.gens
  base : Un X.fs X.ex X.H₀ H X.s₀.heap s.heap
  loc : ∃ m, s.heap.Ns X.env.locals m ∧ ∀ (i : Nat) (x : Str) (v : V), X.N[i]? = some x → σ[i]? = some (some v) → Vis X.env.scope x → ∃ u, RelV v u ∧ Look X.env s.heap m x u
  cell : ∀ x c, X.env.cells.lookup x = some c → ∃ v, s.heap.IsCell c v
  free : H X.env.locals = none
  freeC : ∀ x c, X.env.cells.lookup x = some c → H c = none
  pin : ∀ p ∈ X.pn ++ pins, s.heap.get? p.1 = some p.2 ∧ H p.1 = none ∧ p.1 ≠ X.env.locals ∧ p.1 ∉ X.fs ∧ ∀ v, p.2.data ≠ .cell v
  hok : HOk X.prog X.w H s.heap
  len : σ.length = X.N.length

section
variable {X : Cx} {pins : List (Addr × Obj)} {σ : List (Option V)} {H H' : Hp} {s : Shared} {h' : Heap}

theorem Cx.Ok.nofr (ok : X.Ok) {b : Addr} {o : Obj} (e : X.base.get? b = some o) : b ∉ X.fs := fun hb => by
  have := (ok.funs.mem hb).1
  rw [e] at this; cases this
theorem Inv.bs (I : Inv X pins σ H s) : ∀ b o, X.base.get? b = some o → s.heap.get? b = some o ∧ H b = none := fun b o e =>
  ⟨I.base.keep b o (I.ok.bs b o e).1 (I.ok.bs b o e).2 (I.ok.nofr e) (I.ok.noex b o e), I.base.free b o (I.ok.bs b o e).1 (I.ok.bs b o e).2 (I.ok.noex b o e)⟩
theorem Inv.bk (I : Inv X pins σ H s) : ∀ b o, X.base.get? b = some o → s.heap.get? b = some o := fun b o e => (I.bs b o e).1
theorem Inv.mod (I : Inv X pins σ H s) : Mod X.K X.mg X.base := I.ok.mod
theorem Inv.kIn (I : Inv X pins σ H s) : X.K.In s.heap := I.ok.mod.kin.keeps I.bk
theorem Inv.lt (I : Inv X pins σ H s) : X.env.locals < s.heap.objs.size := let ⟨_, hn, _⟩ := I.loc; hn.lt
theorem Inv.sz (I : Inv X pins σ H s) : X.s₀.heap.objs.size ≤ s.heap.objs.size := Nat.le_trans I.ok.above (Nat.le_of_lt I.lt)
theorem Inv.nofs (I : Inv X pins σ H s) {a : Addr} (h : s.heap.objs.size ≤ a) : a ∉ X.fs := fun hb => by
  obtain ⟨_, o, ho, _⟩ := I.ok.funs.mem hb
  exact absurd (Nat.lt_of_lt_of_le (Heap.lt_size ho) (Nat.le_trans I.sz h)) (Nat.lt_irrefl _)
theorem Inv.cne (I : Inv X pins σ H s) : ∀ x c, X.env.cells.lookup x = some c → c ≠ X.env.locals := fun x c e z => by
  obtain ⟨v, o, ho, hd⟩ := I.cell x c e
  obtain ⟨m, ⟨o', es, ep, ho', hd', _⟩, _⟩ := I.loc
  rw [z, ho'] at ho; cases ho; rw [hd'] at hd; cases hd
theorem Inv.funs (I : Inv X pins σ H s) : s.heap.FunFrames X.base X.outer := by
  have all : ∀ (l : List Env), (∀ b ∈ frs l, b ∈ X.fs) → X.s₀.heap.FunFrames X.base l → s.heap.FunFrames X.base l := by
    intro l
    induction l with
    | nil => intro _ _; trivial
    | cons env r ih =>
      intro hs hl
      obtain ⟨hk, ⟨L, o, hf, hn, ho, hd⟩, hr⟩ := hl
      have hL : L ∈ X.fs := hs L (by unfold frs; rw [List.filterMap_cons, hf]; exact List.mem_cons_self)
      obtain ⟨sl, e⟩ := I.base.slot L o ho (I.ok.frf L hL) hL fun z => I.ok.exfs L z hL
      exact ⟨hk, ⟨L, _, hf, hn, e, hd⟩, ih (fun b hb => hs b (by unfold frs; rw [List.filterMap_cons, hf]; exact List.mem_cons_of_mem _ hb)) hr⟩
  exact all X.outer (fun _ hb => hb) I.ok.funs

theorem Inv.stack (I : Inv X pins σ H s) : s.heap.FunFrames X.base X.stack := by
  rcases I.ok.stk with e | ⟨e, hf⟩
  · rw [e]; exact I.funs
  · rw [e]
    obtain ⟨m, hn, _⟩ := I.loc
    refine .cons (by rw [I.ok.kind]; decide) hf hn ?_ I.funs
    exact Heap.get?_none_of_le (Nat.le_trans I.ok.bsz I.ok.above)
theorem Inv.stkSub (I : Inv X pins σ H s) : ∀ b ∈ frs X.stack, b ∈ X.env.locals :: X.fs := fun b hb => by
  rcases I.ok.stk with e | ⟨e, hf⟩
  · rw [e] at hb; exact List.mem_cons_of_mem _ hb
  · rw [e] at hb
    unfold frs at hb
    rw [List.filterMap_cons, hf] at hb
    exact hb
theorem Inv.stkFree (I : Inv X pins σ H s) : ∀ b ∈ frs X.stack, H b = none := fun b hb => by
  rcases List.mem_cons.mp (I.stkSub b hb) with e | hb
  · rw [e]; exact I.free
  · obtain ⟨_, o, ho, _⟩ := I.ok.funs.mem hb
    exact I.base.free b o ho (I.ok.frf b hb) fun z => I.ok.exfs b z hb

theorem Inv.step {g' : Array GenState} {t' : Nat} {d' : Drawn} {ch : List Addr} (I : Inv X pins σ H s)
    (hch : ∀ b ∈ ch, (b ∈ X.ex ∨ X.s₀.heap.objs.size ≤ b) ∧ b ≠ X.env.locals ∧ (∀ x c, X.env.cells.lookup x = some c → c ≠ b) ∧ ∀ p ∈ X.pn ++ pins, p.1 ≠ b)
    (keep : ∀ b o, b ≠ X.env.locals → b ∉ X.fs → b ∉ ch → s.heap.get? b = some o → H b = none → h'.get? b = some o)
    (slot : ∀ b o, b ≠ X.env.locals → b ∈ X.fs → b ∉ ch → s.heap.get? b = some o → H b = none → ∃ sl, h'.get? b = some { o with slots := sl }) (free : ∀ b o, b ∉ ch → s.heap.get? b = some o → H b = none → H' b = none)
    (there : ∀ b o, b ∉ ch → s.heap.get? b = some o → ∃ o', h'.get? b = some o')
    (tups : ∀ b xs, H b = some (.tup xs) → H' b = some (.tup xs)) (frzs : ∀ b o u, H b = some (.frz o u) → H' b = some (.frz o u)) (tbls : ∀ b ps, H b = some (.tbl ps) → ∃ more, H' b = some (.tbl (ps ++ more)))
    (ns : ∀ m, s.heap.Ns X.env.locals m → h'.Ns X.env.locals m) (hok : HOk X.prog X.w H' h') (hg : AllBare g') :
    Inv X pins σ H' { s with heap := h', gens := g', drawn := d', toks := t' } := by
  have neL : ∀ b o, X.s₀.heap.get? b = some o → b ≠ X.env.locals := fun b o e => Nat.ne_of_lt (Nat.lt_of_lt_of_le (Heap.lt_size e) I.ok.above)
  have neC : ∀ b o, X.s₀.heap.get? b = some o → b ∉ X.ex → b ∉ ch := fun b o e hx hb => by
    rcases (hch b hb).1 with z | z
    · exact hx z
    · exact absurd (Nat.lt_of_lt_of_le (Heap.lt_size e) z) (Nat.lt_irrefl _)
  have cellK : ∀ x c, X.env.cells.lookup x = some c → ∀ v, s.heap.IsCell c v → h'.IsCell c v := fun x c e v ⟨o, ho, hd⟩ => by
    have nch : c ∉ ch := fun z => (hch c z).2.2.1 x c e rfl
    by_cases hc : c ∈ X.fs
    · obtain ⟨sl, q⟩ := slot c o (I.cne x c e) hc nch ho (I.freeC x c e)
      exact ⟨_, q, hd⟩
    · exact ⟨o, keep c o (I.cne x c e) hc nch ho (I.freeC x c e), hd⟩
  refine ⟨I.ok, I.os, hg, ⟨fun b o e n hb hx => ?_, fun b o e n hb hx => ?_, fun b o e n hx => ?_, fun b o e hx => ?_, fun b xs e => tups b xs (I.base.tups b xs e), fun b o xs e => frzs b o xs (I.base.frzs b o xs e), fun b ps e => ?_⟩, ?_, fun x c e => ?_, ?_, fun x c e => ?_, fun p hp => ?_, hok, I.len⟩
  · exact keep b o (neL b o e) hb (neC b o e hx) (I.base.keep b o e n hb hx) (I.base.free b o e n hx)
  · obtain ⟨sl, e1⟩ := I.base.slot b o e n hb hx
    obtain ⟨sl', e2⟩ := slot b _ (neL b o e) hb (neC b o e hx) e1 (I.base.free b o e n hx)
    exact ⟨sl', e2⟩
  · obtain ⟨o', e1⟩ := I.base.there b o e hx
    exact free b o' (neC b o e hx) e1 (I.base.free b o e n hx)
  · obtain ⟨o', e1⟩ := I.base.there b o e hx
    exact there b o' (neC b o e hx) e1
  · obtain ⟨m1, e1⟩ := I.base.tbls b ps e
    obtain ⟨m2, e2⟩ := tbls b _ e1
    exact ⟨m1 ++ m2, by rw [e2, Array.append_assoc]⟩
  · obtain ⟨m, hn, hl⟩ := I.loc
    refine ⟨m, ns m hn, fun i x v e1 e2 e3 => ?_⟩
    obtain ⟨u, r, l⟩ := hl i x v e1 e2 e3
    refine ⟨u, r, ?_⟩
    rcases l with l | ⟨k, c, e, z⟩
    · exact .inl l
    · exact .inr ⟨k, c, e, cellK x c e _ z⟩
  · obtain ⟨v, z⟩ := I.cell x c e
    exact ⟨v, cellK x c e v z⟩
  · obtain ⟨m, ⟨o, _, _, ho, _⟩, _⟩ := I.loc
    exact free _ o (fun z => (hch _ z).2.1 rfl) ho I.free
  · obtain ⟨v, o, ho, hd⟩ := I.cell x c e
    exact free c o (fun z => (hch c z).2.2.1 x c e rfl) ho (I.freeC x c e)
  · obtain ⟨e, n, ne, nf, d⟩ := I.pin p hp
    have nch : p.1 ∉ ch := fun z => (hch p.1 z).2.2.2 p hp rfl
    exact ⟨keep p.1 p.2 ne nf nch e n, free p.1 p.2 nch e n, ne, nf, d⟩
theorem Inv.un {t' : Nat} (I : Inv X pins σ H s) (u : Un X.fs [] H H' s.heap h') (hok : HOk X.prog X.w H' h') : Inv X pins σ H' { s with heap := h', toks := t' } := by
  obtain ⟨m, ⟨o, es, ep, ho, r⟩, _⟩ := id I.loc
  obtain ⟨sl, hL⟩ := u.any ho I.free (by simp)
  exact I.step (g' := s.gens) (d' := s.drawn) (ch := []) (fun _ z => nomatch z) (fun b o _ hb _ e n => u.keep b o e n hb (by simp)) (fun b o _ hb _ e n => u.slot b o e n hb (by simp)) (fun b o _ e n => u.free b o e n (by simp)) (fun b o _ e => u.there b o e (by simp)) u.tups u.frzs u.tbls (fun m' hm => by
    obtain ⟨o', es', ep', ho', r'⟩ := hm
    rw [ho] at ho'; cases ho'
    exact ⟨_, es', ep', hL, r'⟩) hok I.bare
theorem Inv.call {g' : Array GenState} {t' : Nat} {d' : Drawn} {ch : List Addr} (I : Inv X pins σ H s) (u : Un (frs X.stack) ch H H' s.heap h') (hok : HOk X.prog X.w H' h') (hg : AllBare g')
    (hch : ∀ b ∈ ch, (b ∈ X.ex ∨ X.s₀.heap.objs.size ≤ b) ∧ b ≠ X.env.locals ∧ (∀ x c, X.env.cells.lookup x = some c → c ≠ b) ∧ ∀ p ∈ X.pn ++ pins, p.1 ≠ b) :
    Inv X pins σ H' { s with heap := h', gens := g', drawn := d', toks := t' } := by
  obtain ⟨m, ⟨o, es, ep, ho, r⟩, _⟩ := id I.loc
  obtain ⟨sl, hL⟩ := u.any ho I.free fun z => (hch _ z).2.1 rfl
  exact I.step (ch := ch) hch (fun b o hL hb hc e n => u.keep b o e n (fun z => (List.mem_cons.mp (I.stkSub b z)).elim hL hb) hc) (fun b o _ _ hc e n => u.any e n hc) (fun b o hc e n => u.free b o e n hc) (fun b o hc e => u.there b o e hc) u.tups u.frzs u.tbls (fun m' hm => by
    obtain ⟨o', es', ep', ho', r'⟩ := hm
    rw [ho] at ho'; cases ho'
    exact ⟨_, es', ep', hL, r'⟩) hok hg
theorem Inv.turned {t' : Nat} {it : Addr} (I : Inv X pins σ H s) (k : ∀ b o, b ≠ it → s.heap.get? b = some o → h'.get? b = some o) (hn : H it = none) (hL : it ≠ X.env.locals)
    (h1 : it ∈ X.ex ∨ X.s₀.heap.objs.size ≤ it) (h2 : ∀ x c, X.env.cells.lookup x = some c → c ≠ it) (h3 : ∀ p ∈ X.pn ++ pins, p.1 ≠ it) : Inv X pins σ H { s with heap := h', toks := t' } := by
  have nit : ∀ b u, H b = some u → b ≠ it := fun b u e z => by rw [z, hn] at e; cases e
  refine I.step (g' := s.gens) (d' := s.drawn) (ch := [it]) (fun b hb => ?_) (fun b o _ _ hc e _ => k b o (fun z => hc (by simp [z])) e) (fun b o _ _ hc e _ => ⟨o.slots, k b o (fun z => hc (by simp [z])) e⟩) (fun _ _ _ _ n => n)
    (fun b o hc e => ⟨o, k b o (fun z => hc (by simp [z])) e⟩) (fun _ _ e => e) (fun _ _ _ e => e) (fun b ps e => ⟨#[], by rw [e]; simp⟩) (fun m hm => ?_) (fun b u e => ?_) I.bare
  · have e : b = it := by simpa using hb
    subst e
    exact ⟨h1, hL, h2, h3⟩
  · obtain ⟨o, es, ep, ho, r⟩ := hm
    exact ⟨o, es, ep, k _ o (Ne.symm hL) ho, r⟩
  · refine (I.hok b u e).stay (fun c v hc q => k c v ?_ q) (fun _ q => q) fun _ _ q => q
    rcases hc with z | z
    · rw [z]; exact nit b u e
    · exact nit c _ z
theorem Inv.tok (I : Inv X pins σ H s) (t : Nat) : Inv X pins σ H { s with toks := t } := I.un (h' := s.heap) (t' := t) Un.refl I.hok
theorem Inv.kept {t' : Nat} (I : Inv X pins σ H s) (k : ∀ b u, s.heap.get? b = some u → h'.get? b = some u) : Inv X pins σ H { s with heap := h', toks := t' } := I.un (Un.kept k) (I.hok.kept k)
theorem Inv.laid {a : Addr} {o : HO} {t' : Nat} (I : Inv X pins σ H s) (k : ∀ b u, s.heap.get? b = some u → h'.get? b = some u) (hp : s.heap.objs.size ≤ a) (new : ObjOk X.prog X.w (upd H a o) h' a o) :
    Inv X pins σ (upd H a o) { s with heap := h', toks := t' } := I.un (Un.laid k hp (I.hok.fresh hp)) (I.hok.laid k hp new)
theorem Inv.write {x e : Addr} {o : HO} {t' : Nat} (I : Inv X pins σ H s) (mu : Mut (H x)) (he : e = x ∨ H e = some (.own x)) (k : ∀ b u, b ≠ e → s.heap.get? b = some u → h'.get? b = some u) (heo : ∃ u, h'.get? e = some u)
    (new : ObjOk X.prog X.w (upd H x o) h' x o) : Inv X pins σ (upd H x o) { s with heap := h', toks := t' } := I.un (Un.write mu he k heo) (I.hok.write mu he k heo new)
theorem Inv.pins_of {pins' : List (Addr × Obj)} (I : Inv X pins σ H s) (h : ∀ p ∈ pins', s.heap.get? p.1 = some p.2 ∧ H p.1 = none ∧ p.1 ≠ X.env.locals ∧ p.1 ∉ X.fs ∧ ∀ v, p.2.data ≠ .cell v) : Inv X pins' σ H s :=
  ⟨I.ok, I.os, I.bare, I.base, I.loc, I.cell, I.free, I.freeC, fun p hp => (List.mem_append.mp hp).elim (fun z => I.pin p (List.mem_append_left _ z)) (h p), I.hok, I.len⟩

theorem nodup_ix {N : List Str} (hN : N.Nodup) {i j : Nat} {x : Str} (a : N[i]? = some x) (b : N[j]? = some x) : i = j := by
  obtain ⟨h1, e1⟩ := List.getElem?_eq_some_iff.mp a
  obtain ⟨h2, e2⟩ := List.getElem?_eq_some_iff.mp b
  exact (List.getElem_inj hN).mp (e1.trans e2.symm)

theorem store_ok2 {M : Model} {A : Around} {E : Value → Shared → Prop} {i : Nat} {x : Str} {v : V} {u : Value} {Q : Unit → Shared → Prop} (I : Inv X pins σ H s) (hN : X.N.Nodup) (hi : X.N[i]? = some x) (hx : Loc X.env.scope x) (r : RelV v u)
    (h : ∀ s', Inv X pins (σ.set i (some v)) H s' → (∃ a, Heap.SameBut a s.heap s'.heap ∧ (a = X.env.locals ∨ X.env.cells.lookup x = some a)) → Q () s') (hf : X.fn x = true ∨ X.env.scope.names.lookup x = some .local := by first | exact .inl rfl | exact .inr rfl | assumption) : wpAny M A (storeName X.env x u) Q E s := by
  obtain ⟨m, hn, hl⟩ := id I.loc
  have hcls : (X.env.scope.kind == .class || (X.env.scope.kind == .module && X.env.locals != X.env.globals)) = false := by rw [I.ok.kind]; rfl
  have hiσ : i < σ.length := by rw [I.len]; exact (List.getElem?_eq_some_iff.mp hi).1
  have cne := I.cne
  have tracked : ∀ {a : Addr} {h' : Heap}, (∃ o, s.heap.get? a = some o ∧ H a = none) → Heap.SameBut a s.heap h' → HOk X.prog X.w H h' := fun {a h'} ha hs b ob e => by
    obtain ⟨_, _, hfree⟩ := ha
    refine (I.hok b ob e).stay (fun c w' hc q => (hs.2 c ?_).trans q) (fun _ q => q) fun _ _ q => q
    rintro rfl
    rcases hc with rfl | hc
    · rw [hfree] at e; cases e
    · rw [hfree] at hc; cases hc
  rcases hx with hk | hk
  · refine wpAny_storeName_local hk hn (fun h' hn' hs => ?_) hcls
    obtain ⟨oL, _, _, hoL, _⟩ := id hn
    refine h _ ⟨I.ok, I.os, I.bare, ⟨fun b o e n hb hx => ?_, fun b o e n hb hx => ?_, I.base.free, fun b o e hx => ?_, I.base.tups, I.base.frzs, I.base.tbls⟩, ⟨_, hn', fun j y v' e1 e2 e3 => ?_⟩, fun y c e => ?_, I.free, I.freeC, fun p hp => ?_, tracked ⟨oL, hoL, I.free⟩ hs, by simpa using I.len⟩ ⟨_, hs, .inl rfl⟩
    · exact (hs.2 b (Nat.ne_of_lt (Nat.lt_of_lt_of_le (Heap.lt_size e) I.ok.above))).trans (I.base.keep b o e n hb hx)
    · obtain ⟨sl, e1⟩ := I.base.slot b o e n hb hx
      exact ⟨sl, (hs.2 b (Nat.ne_of_lt (Nat.lt_of_lt_of_le (Heap.lt_size e) I.ok.above))).trans e1⟩
    · obtain ⟨o', e1⟩ := I.base.there b o e hx
      exact ⟨o', (hs.2 b (Nat.ne_of_lt (Nat.lt_of_lt_of_le (Heap.lt_size e) I.ok.above))).trans e1⟩
    · by_cases hj : j = i
      · subst hj
        rw [hi] at e1; cases e1
        rw [List.getElem?_set_self hiσ] at e2
        cases e2
        exact ⟨u, r, .inl ⟨hk, by simp⟩⟩
      · rw [List.getElem?_set_ne (Ne.symm hj)] at e2
        obtain ⟨u', r', q⟩ := hl j y v' e1 e2 e3
        refine ⟨u', r', ?_⟩
        rcases q with ⟨k, e⟩ | ⟨k, c, e, z⟩
        · refine .inl ⟨k, ?_⟩
          have : y ≠ x := fun e => hj (nodup_ix hN e1 (e ▸ hi))
          simp [this, e]
        · exact .inr ⟨k, c, e, z.sameBut hs (cne y c e)⟩
    · obtain ⟨w', z⟩ := I.cell y c e
      exact ⟨w', z.sameBut hs (cne y c e)⟩
    · obtain ⟨e, n, ne, nf, d⟩ := I.pin p hp
      exact ⟨(hs.2 p.1 ne).trans e, n, ne, nf, d⟩
  · have hfn : X.fn x = true := by
      rcases hf with z | z
      · exact z
      · rw [z] at hk; cases hk
    obtain ⟨c, hc⟩ := I.ok.has x (.inl hk)
    obtain ⟨w', z⟩ := I.cell x c hc
    refine wpAny_storeName_cell I.ok.kind hk hc z (fun h' hc' hs => ?_)
    obtain ⟨oc, hoc, hocd⟩ := id z
    refine h { s with heap := h' } ⟨I.ok, I.os, I.bare, ⟨fun b o e n hb hx => ?_, fun b o e n hb hx => ?_, I.base.free, fun b o e hx => ?_, I.base.tups, I.base.frzs, I.base.tbls⟩, ⟨m, hn.sameBut hs (Ne.symm (cne x c hc)), fun j y v' e1 e2 e3 => ?_⟩, fun y c' e => ?_, I.free, I.freeC, fun p hp => ?_, tracked ⟨oc, hoc, I.freeC x c hc⟩ hs, by simpa using I.len⟩ ⟨c, hs, .inr hc⟩
    · exact (hs.2 b (Nat.ne_of_lt (Nat.lt_of_lt_of_le (Heap.lt_size e) (I.ok.cab x c hfn hc)))).trans (I.base.keep b o e n hb hx)
    · obtain ⟨sl, e1⟩ := I.base.slot b o e n hb hx
      exact ⟨sl, (hs.2 b (Nat.ne_of_lt (Nat.lt_of_lt_of_le (Heap.lt_size e) (I.ok.cab x c hfn hc)))).trans e1⟩
    · obtain ⟨o', e1⟩ := I.base.there b o e hx
      exact ⟨o', (hs.2 b (Nat.ne_of_lt (Nat.lt_of_lt_of_le (Heap.lt_size e) (I.ok.cab x c hfn hc)))).trans e1⟩
    · by_cases hj : j = i
      · subst hj
        rw [hi] at e1; cases e1
        rw [List.getElem?_set_self hiσ] at e2
        cases e2
        exact ⟨u, r, .inr ⟨.inl hk, c, hc, hc'⟩⟩
      · rw [List.getElem?_set_ne (Ne.symm hj)] at e2
        obtain ⟨u', r', q⟩ := hl j y v' e1 e2 e3
        refine ⟨u', r', ?_⟩
        rcases q with q | ⟨k, c', e, z'⟩
        · exact .inl q
        · refine .inr ⟨k, c', e, z'.sameBut hs ?_⟩
          rintro rfl
          exact hj (nodup_ix hN e1 (I.ok.inj _ _ _ e hc ▸ hi))
    · by_cases hcc : c' = c
      · subst hcc; exact ⟨_, hc'⟩
      · obtain ⟨w2, z2⟩ := I.cell y c' e
        exact ⟨w2, z2.sameBut hs hcc⟩
    · obtain ⟨e, n, ne, nf, d⟩ := I.pin p hp
      refine ⟨(hs.2 p.1 ?_).trans e, n, ne, nf, d⟩
      intro q
      rw [q, hoc] at e
      have q' : oc = p.2 := Option.some.inj e
      exact d w' (by rw [← q']; exact hocd)
theorem store_ok {M : Model} {A : Around} {E : Value → Shared → Prop} {i : Nat} {x : Str} {v : V} {u : Value} {Q : Unit → Shared → Prop} (I : Inv X pins σ H s) (hN : X.N.Nodup) (hi : X.N[i]? = some x) (hx : Loc X.env.scope x) (r : RelV v u)
    (h : ∀ s', Inv X pins (σ.set i (some v)) H s' → Q () s') (hf : X.fn x = true ∨ X.env.scope.names.lookup x = some .local := by first | exact .inl rfl | exact .inr rfl | assumption) : wpAny M A (storeName X.env x u) Q E s :=
  store_ok2 I hN hi hx r (fun s' I' _ => h s' I') hf
theorem Inv.call' {s' : Shared} {ch : List Addr} (I : Inv X pins σ H s) (ho : s'.os = s.os) (u : Un (frs X.stack) ch H H' s.heap s'.heap) (hok : HOk X.prog X.w H' s'.heap) (hg : AllBare s'.gens)
    (hch : ∀ b ∈ ch, (b ∈ X.ex ∨ X.s₀.heap.objs.size ≤ b) ∧ b ≠ X.env.locals ∧ (∀ x c, X.env.cells.lookup x = some c → c ≠ b) ∧ ∀ p ∈ X.pn ++ pins, p.1 ≠ b) : Inv X pins σ H' s' := by
  obtain ⟨h', g', d', t', o'⟩ := s'
  have e : o' = s.os := ho
  subst e
  exact I.call (g' := g') (t' := t') (d' := d') u hok hg hch
end

abbrev XK := Value → Option Addr → Hp → Prop
abbrev St := List (Option V)
abbrev VK := V → Hp → Prop
abbrev TE := St → Hp → VK → Prop
abbrev TT := St → Hp → (Bool → Hp → Prop) → Prop
abbrev TA := St → Hp → (List V → Hp → Prop) → Prop
structure Ends where
  nx : St → Hp → Prop
  rt : VK
  bk : St → Hp → Prop := fun _ _ => False
  ct : St → Hp → Prop := fun _ _ => False
abbrev TS := Ends → St → Hp → Prop

def EP (X : Cx) (pins : List (Addr × Obj)) (σ : St) (Q : VK) (u : Value) (s' : Shared) : Prop := ∃ v H', Inv X pins σ H' s' ∧ RelV v u ∧ Q v H'
def TP (X : Cx) (pins : List (Addr × Obj)) (σ : St) (Q : Bool → Hp → Prop) (b : Bool) (s' : Shared) : Prop := ∃ H', Inv X pins σ H' s' ∧ Q b H'
def AP (X : Cx) (pins : List (Addr × Obj)) (σ : St) (Q : List V → Hp → Prop) (us : List Value) (s' : Shared) : Prop := ∃ vs H', Inv X pins σ H' s' ∧ Vals vs us ∧ Q vs H'
def SP (X : Cx) (pins : List (Addr × Obj)) (D : Ends) (f : Flow) (s' : Shared) : Prop :=
  match f with
  | .next => ∃ σ' H', Inv X pins σ' H' s' ∧ D.nx σ' H'
  | .brk => ∃ σ' H', Inv X pins σ' H' s' ∧ D.bk σ' H'
  | .cont => ∃ σ' H', Inv X pins σ' H' s' ∧ D.ct σ' H'
  | .ret u => ∃ v σ' H', Inv X pins σ' H' s' ∧ RelV v u ∧ D.rt v H'

def PE (X : Cx) (e : Expr) (t : TE) : Prop :=
  ∀ (pins : List (Addr × Obj)) (s : Shared) (σ : St) (H : Hp) (Q : VK), Inv X pins σ H s → t σ H Q → wpAny (model X.prog X.w) X.A (eval e X.env) (EP X pins σ Q) X.xe s
def PT (X : Cx) (e : Expr) (t : TT) : Prop :=
  ∀ (pins : List (Addr × Obj)) (s : Shared) (σ : St) (H : Hp) (Q : Bool → Hp → Prop), Inv X pins σ H s → t σ H Q → wpAny (model X.prog X.w) X.A (isTrue e X.env (eval e X.env)) (TP X pins σ Q) X.xe s
def PW (X : Cx) (e : Expr) (t : TT) : Prop :=
  ∀ (whole : Sem Value) (pins : List (Addr × Obj)) (s : Shared) (σ : St) (H : Hp) (Q : Bool → Hp → Prop), Inv X pins σ H s → t σ H Q → wpAny (model X.prog X.w) X.A (isTrue e X.env whole) (TP X pins σ Q) X.xe s
theorem PW.pt {X : Cx} {e : Expr} {t : TT} (h : PW X e t) : PT X e t := h _
def PA (X : Cx) (es : List Expr) (t : TA) : Prop :=
  ∀ (pos : Pos) (pins : List (Addr × Obj)) (s : Shared) (σ : St) (H : Hp) (Q : List V → Hp → Prop), Inv X pins σ H s → t σ H Q → wpAny (model X.prog X.w) X.A (spliced (backTo pos (starEach es X.env))) (AP X pins σ Q) X.xe s
def PS (X : Cx) (st : Stmt) (t : TS) : Prop :=
  ∀ (pins : List (Addr × Obj)) (s : Shared) (σ : St) (H : Hp) (D : Ends), Inv X pins σ H s → t D σ H → wpAny (model X.prog X.w) X.A (exec st X.env) (SP X pins D) X.xe s
def PSs (X : Cx) (st : List Stmt) (t : TS) : Prop :=
  ∀ (pins : List (Addr × Obj)) (s : Shared) (σ : St) (H : Hp) (D : Ends), Inv X pins σ H s → t D σ H → wpAny (model X.prog X.w) X.A (execs st X.env) (SP X pins D) X.xe s
theorem thn {α : Type} {t : Sem α} {Q Q' : α → Shared → Prop} {M : Model} {A : Around} {E : Value → Shared → Prop} {s : Shared} (h : wpAny M A t Q E s) (hQ : ∀ a s, Q a s → Q' a s) : wpAny M A t Q' E s := wpAny_mono h hQ fun _ _ x => x
end L2

namespace L2
open PySem PySem.Spec PyProof.Rows
section
variable {X : Cx}

theorem bin {a b : Expr} {ta tb : TE} (ha : PE X a ta) (hb : PE X b tb) {pins : List (Addr × Obj)} {s : Shared} {σ : St} {H : Hp} {R : V → V → Hp → Prop} (I : Inv X pins σ H s) (h : ta σ H fun x H1 => tb σ H1 fun y H2 => R x y H2)
    {α : Type} {Q : α → Shared → Prop} {f : Value → Value → Sem α}
    (hf : ∀ v u s2 x y H2, Inv X pins σ H2 s2 → RelV x v → RelV y u → R x y H2 → wpAny (model X.prog X.w) X.A (f v u) Q X.xe s2) :
    wpAny (model X.prog X.w) X.A (eval a X.env) (fun v s₁ => wpAny (model X.prog X.w) X.A (eval b X.env) (fun u s₂ => wpAny (model X.prog X.w) X.A (f v u) Q X.xe s₂) X.xe s₁) X.xe s := by
  refine thn (ha pins s σ H _ I h) fun v s1 ⟨x, H1, I1, r1, q1⟩ => ?_
  refine thn (hb pins s1 σ H1 _ I1 q1) fun u s2 ⟨y, H2, I2, r2, q2⟩ => ?_
  exact hf v u s2 x y H2 I2 r1 r2 q2

def tVar (i : Nat) : TE := fun σ H Q => ∃ v, σ[i]? = some (some v) ∧ Q v H
def tC (v : V) : TE := fun _ H Q => Q v H
theorem pe_var {i : Nat} {x : Str} {pos : Pos} (hN : X.N[i]? = some x) (hv : Vis X.env.scope x) (hd : (x == ("__debug__" : Str)) = false := by decide) (hcd : (x == ("__classdict__" : Str)) = false := by decide) : PE X (.Name x pos) (tVar i) := by
  intro pins s σ H Q I h
  obtain ⟨v, e, h⟩ := h
  obtain ⟨m, hn, hl⟩ := I.loc
  obtain ⟨u, r, l⟩ := hl i x v hN e hv
  have fin : EP X pins σ Q u s := ⟨v, H, I, r, h⟩
  rcases l with ⟨hk, hm⟩ | ⟨hk, c, hc, hcell⟩
  · exact wpAny_Name (wpAny_loadName_local I.ok.kind hk hn hm fin) hd
  · rcases hk with hk | hk
    · exact wpAny_Name (wpAny_loadName_cell I.ok.kind hk hc hcell fin) hd
    · exact wpAny_Name (wpAny_loadName_free I.ok.kind hk hc hcell fin hcd) hd
theorem pe_int {i j pos} : PE X (.Constant (.int i) j pos) (tC (.int i)) := fun _ _ _ H _ I h => wpAny_Constant_int ⟨.int i, H, I.tok _, ⟨_, rfl⟩, h⟩
theorem pe_bl {b j pos} : PE X (.Constant (.bool b) j pos) (tC (.bl b)) := fun _ _ _ H _ I h => Constant_bool ⟨.bl b, H, I, rfl, h⟩
theorem pe_non {j pos} : PE X (.Constant .none j pos) (tC .non) := fun _ _ _ H _ I h => Constant_none ⟨.non, H, I, rfl, h⟩
theorem pe_str {x j pos} : PE X (.Constant (.str x) j pos) (tC (.str x)) := fun _ _ _ H _ I h => Calls.Constant_str ⟨.str x, H, I.tok _, ⟨_, rfl⟩, h⟩

def Gl (X : Cx) (x : Str) : Prop := X.env.kindOf x = some .globalImplicit
theorem ld_glob {E : Value → Shared → Prop} {pins : List (Addr × Obj)} {s : Shared} {σ : St} {H : Hp} {x : Str} {u : Value} {pos : Pos} {Q : Value → Shared → Prop} (I : Inv X pins σ H s) (hg : Gl X x) (hm : X.mg x = some u) (h : Q u s)
    (hd : (x == ("__debug__" : Str)) = false := by decide) : wpAny (model X.prog X.w) X.A (eval (.Name x pos) X.env) Q E s :=
  Calls.Name_function_global I.ok.kind hg (Calls.loadGlobal_global (by rw [I.ok.glob]; exact I.mod.glob.keeps I.bk) hm h) hd
theorem ld_blt {E : Value → Shared → Prop} {pins : List (Addr × Obj)} {s : Shared} {σ : St} {H : Hp} {x : Str} {u : Value} {pos : Pos} {Q : Value → Shared → Prop} (I : Inv X pins σ H s) (hg : Gl X x) (hm : X.mg x = none) (hv : bootBuiltins x = some u) (h : Q u s)
    (hn : x ≠ "__name__" := by decide) (hd : (x == ("__debug__" : Str)) = false := by decide) : wpAny (model X.prog X.w) X.A (eval (.Name x pos) X.env) Q E s := by
  obtain ⟨mb, h1, h2⟩ := I.mod.blt
  exact Calls.Name_function_global I.ok.kind hg (Calls.loadGlobal_builtin (by rw [I.ok.glob]; exact I.mod.glob.keeps I.bk) hm (by rw [I.ok.blt]; exact h1.keeps I.bk) ((h2 x hn).trans hv) h) hd
theorem pe_glob {x : Str} {v : V} {u : Value} {pos : Pos} (hg : Gl X x) (hm : X.mg x = some u) (r : RelV v u) (hd : (x == ("__debug__" : Str)) = false := by decide) : PE X (.Name x pos) (tC v) :=
  fun _ _ _ H _ I h => ld_glob I hg hm ⟨v, H, I, r, h⟩ hd
theorem pe_bltn {x : Str} {v : V} {u : Value} {pos : Pos} (hg : Gl X x) (hm : X.mg x = none) (hv : bootBuiltins x = some u) (r : RelV v u) (hn : x ≠ "__name__" := by decide) (hd : (x == ("__debug__" : Str)) = false := by decide) : PE X (.Name x pos) (tC v) :=
  fun _ _ _ H _ I h => ld_blt I hg hm hv ⟨v, H, I, r, h⟩ hn hd

def t2I (ta tb : TE) (k : Int → Int → Hp → Prop) : St → Hp → Prop := fun σ H => ta σ H fun x H1 => tb σ H1 fun y H2 => ∃ i j, x = .int i ∧ y = .int j ∧ k i j H2
def tAdd (ta tb : TE) : TE := fun σ H Q => t2I ta tb (fun i j H2 => Q (.int (i + j)) H2) σ H
def tSub (ta tb : TE) : TE := fun σ H Q => t2I ta tb (fun i j H2 => Q (.int (i - j)) H2) σ H
def tMul (ta tb : TE) : TE := fun σ H Q => t2I ta tb (fun i j H2 => (-(2 ^ 64) < i ∧ i < 2 ^ 64) ∧ Q (.int (i * j)) H2) σ H
variable {a b : Expr} {ta tb : TE} {pos : Pos}
def PC (X : Cx) (op : CmpOp) (a b : Expr) (t : TE) : Prop :=
  ∀ (pins : List (Addr × Obj)) (s : Shared) (σ : St) (H : Hp) (Q : VK), Inv X pins σ H s → t σ H Q →
    wpAny (model X.prog X.w) X.A (eval a X.env) (fun v s₁ => wpAny (model X.prog X.w) X.A (eval b X.env) (fun u s₂ => wpAny (model X.prog X.w) X.A (compareOp op v u) (EP X pins σ Q) X.xe s₂) X.xe s₁) X.xe s
theorem nobehind (b : Expr) {op : CmpOp} (h : op ≠ .In) (h2 : op ≠ .NotIn) : behindInMarks op b = false := by
  have e1 : (op == CmpOp.In) = false := by cases op <;> first | rfl | exact absurd rfl h
  have e2 : (op == CmpOp.NotIn) = false := by cases op <;> first | rfl | exact absurd rfl h2
  cases b <;> simp [behindInMarks, e1, e2]
def tCmp (p : Int → Int → Bool) (ta tb : TE) : TE := fun σ H Q => t2I ta tb (fun i j H2 => Q (.bl (p i j)) H2) σ H
abbrev tLt : TE → TE → TE := tCmp fun i j => decide (i < j)
abbrev tLe : TE → TE → TE := tCmp fun i j => decide (i ≤ j)
abbrev tGt : TE → TE → TE := tCmp fun i j => decide (j < i)
abbrev tGe : TE → TE → TE := tCmp fun i j => decide (j ≤ i)
abbrev tEqI : TE → TE → TE := tCmp fun i j => decide (i = j)
abbrev tNeI : TE → TE → TE := tCmp fun i j => !decide (i = j)
def tIsN (ta : TE) : TE := fun σ H Q => ta σ H fun x H1 => Q (.bl (decide (x = .non))) H1
def tNotN (ta : TE) : TE := fun σ H Q => ta σ H fun x H1 => Q (.bl (!decide (x = .non))) H1
def tB (t : TE) : TT := fun σ H Q => t σ H fun x H1 => ∃ c, x = .bl c ∧ Q c H1
theorem pt_cmp {op : CmpOp} {t : TE} (h : PC X op a b t) (h1 : behindInMarks op b = false := by first | exact nobehind _ (by decide) (by decide) | rfl) : PT X (.Compare a [op] [b] pos) (tB t) := by
  intro pins s σ H Q I hw
  refine wpAny_isTrue_Compare1 (thn (h pins s σ H _ I hw) fun v s1 h1 => thn h1 fun u s2 h2 => thn h2 fun c s3 ⟨x, H1, I1, r1, q1⟩ => ?_) h1
  obtain ⟨d, rfl, q⟩ := q1
  cases r1
  exact wpAny_truthy_bool ⟨H1, I1, q⟩
theorem pt_val {e : Expr} {t : TE} (h : PE X e t) (he : ∀ whole, isTrue e X.env whole = (do let v ← whole; standAt e.pos; holding [v] (truthy v)) := by intro _; rfl) : PT X e (tB t) := by
  intro pins s σ H Q I hw
  refine isTrue_plain (thn (h pins s σ H _ I hw) fun v s1 ⟨x, H1, I1, r1, q1⟩ => ?_) (he _)
  obtain ⟨d, rfl, q⟩ := q1
  cases r1
  exact wpAny_truthy_bool ⟨H1, I1, q⟩

variable {tA tB' : TT} {rest : List Expr}
def tAnd (t u : TT) : TT := fun σ H Q => t σ H fun c H1 => if c = true then u σ H1 Q else Q false H1
def tOr (t u : TT) : TT := fun σ H Q => t σ H fun c H1 => if c = true then Q true H1 else u σ H1 Q
def tNot (t : TT) : TT := fun σ H Q => t σ H fun c H1 => Q (!c) H1
theorem pw_and1 (ha : PT X a tA) : PW X (.BoolOp .And [a] pos) tA := by
  intro wh pins s σ H Q I h
  refine isTrue_and (thn (ha pins s σ H Q I h) fun c s1 e => ?_)
  cases c with
  | true => exact isTrue_and_nil e
  | false => exact e
theorem pw_or1 (ha : PT X a tA) : PW X (.BoolOp .Or [a] pos) tA := by
  intro wh pins s σ H Q I h
  refine isTrue_or (thn (ha pins s σ H Q I h) fun c s1 e => ?_)
  cases c with
  | false => exact isTrue_or_nil e
  | true => exact e
theorem pw_and (ha : PT X a tA) (hb : PW X (.BoolOp .And (b :: rest) pos) tB') : PW X (.BoolOp .And (a :: b :: rest) pos) (tAnd tA tB') := by
  intro wh pins s σ H Q I h
  refine isTrue_and (thn (ha pins s σ H _ I h) fun c s1 ⟨H1, I1, q1⟩ => ?_)
  cases c with
  | true => exact hb wh pins s1 σ H1 Q I1 q1
  | false => exact ⟨H1, I1, q1⟩
theorem pw_or (ha : PT X a tA) (hb : PW X (.BoolOp .Or (b :: rest) pos) tB') : PW X (.BoolOp .Or (a :: b :: rest) pos) (tOr tA tB') := by
  intro wh pins s σ H Q I h
  refine isTrue_or (thn (ha pins s σ H _ I h) fun c s1 ⟨H1, I1, q1⟩ => ?_)
  cases c with
  | true => exact ⟨H1, I1, q1⟩
  | false => exact hb wh pins s1 σ H1 Q I1 q1
theorem pt_not (ha : PT X a tA) : PT X (.UnaryOp .Not a pos) (tNot tA) := by
  intro pins s σ H Q I h
  exact isTrue_not (ha pins s σ H (fun c H1 => Q (!c) H1) I h)
def tAndV (ta tb : TE) : TE := fun σ H Q => ta σ H fun x H1 => ∃ c, x = .bl c ∧ if c = true then tb σ H1 Q else Q (.bl false) H1
def tOrV (ta tb : TE) : TE := fun σ H Q => ta σ H fun x H1 => ∃ c, x = .bl c ∧ if c = true then Q (.bl true) H1 else tb σ H1 Q
def tNotV (ta : TE) : TE := fun σ H Q => ta σ H fun x H1 => ∃ c, x = .bl c ∧ Q (.bl (!c)) H1
theorem pe_one {op} {t : TE} (h : PE X a t) : PE X (.BoolOp op [a] pos) t := fun pins s σ H Q I hw => BoolOp_one (h pins s σ H Q I hw)
theorem pe_and (ha : PE X a ta) (hb : PE X (.BoolOp .And (b :: rest) pos) tb) : PE X (.BoolOp .And (a :: b :: rest) pos) (tAndV ta tb) := by
  intro pins s σ H Q I h
  refine BoolOp_and (thn (ha pins s σ H _ I h) fun v s1 ⟨x, H1, I1, r1, q1⟩ => ?_)
  obtain ⟨c, rfl, q1⟩ := q1
  cases r1
  refine wpAny_truthy_bool ?_
  cases c with
  | true => exact hb pins s1 σ H1 Q I1 q1
  | false => exact ⟨.bl false, H1, I1, rfl, q1⟩
theorem pe_or (ha : PE X a ta) (hb : PE X (.BoolOp .Or (b :: rest) pos) tb) : PE X (.BoolOp .Or (a :: b :: rest) pos) (tOrV ta tb) := by
  intro pins s σ H Q I h
  refine BoolOp_or (thn (ha pins s σ H _ I h) fun v s1 ⟨x, H1, I1, r1, q1⟩ => ?_)
  obtain ⟨c, rfl, q1⟩ := q1
  cases r1
  refine wpAny_truthy_bool ?_
  cases c with
  | false => exact hb pins s1 σ H1 Q I1 q1
  | true => exact ⟨.bl true, H1, I1, rfl, q1⟩
theorem pe_not (ha : PE X a ta) : PE X (.UnaryOp .Not a pos) (tNotV ta) := by
  intro pins s σ H Q I h
  refine UnaryOp_ (thn (ha pins s σ H _ I h) fun v s1 ⟨x, H1, I1, r1, q1⟩ => ?_)
  obtain ⟨c, rfl, q1⟩ := q1
  cases r1
  exact not_of (wpAny_truthy_bool ⟨.bl (!c), H1, I1, rfl, q1⟩)
def tIf (t : TT) (ta tb : TE) : TE := fun σ H Q => t σ H fun c H1 => if c = true then ta σ H1 Q else tb σ H1 Q
end
end L2

namespace L2
open PySem PySem.Spec PyProof.Rows

def SqL (K : PySem.W.Frag) (H : Hp) (a : Addr) (xs : List V) : Prop :=
  Rd H a (.lst xs) ∨
    ∃ (o : Obj) (its : Array Value) (n : Nat), K.lookup a = some o ∧ o.cls = .type "list" ∧ o.dict = none ∧ o.data = .seq its n ∧ its.size ≤ sizeLine ∧ Vals xs its.toList
def SqT (K : PySem.W.Frag) (H : Hp) (a : Addr) (xs : List V) : Prop :=
  Rd H a (.tup xs) ∨
    ∃ (o : Obj) (its : Array Value) (n : Nat), K.lookup a = some o ∧ o.cls = .type "tuple" ∧ o.data = .seq its n ∧ its.size ≤ sizeLine ∧ Vals xs its.toList
def absV : Value → Option V
  | .none => some .non
  | .bool b => some (.bl b)
  | .int i _ => some (.int i)
  | .str x _ => some (.str x)
  | .bytes b _ => some (.byt b)
  | .float b _ => some (.flt b)
  | .ref a => some (.ref a)
  | .type n => some (.ty n)
  | _ => none
theorem RelV.abs {x : V} {u : Value} (r : RelV x u) : absV u = some x := by
  cases x with
  | non => cases r; rfl
  | bl _ => cases r; rfl
  | int _ => obtain ⟨t, rfl⟩ := r; rfl
  | str _ => obtain ⟨t, rfl⟩ := r; rfl
  | byt _ => obtain ⟨t, rfl⟩ := r; rfl
  | flt _ => obtain ⟨t, rfl⟩ := r; rfl
  | ref _ => cases r; rfl
  | ty _ => cases r; rfl
theorem RelV.inj {x y : V} {u : Value} (r : RelV x u) (q : RelV y u) : x = y := Option.some.inj (r.abs.symm.trans q.abs)
theorem Vals.inj : ∀ {xs ys : List V} {us : List Value}, Vals xs us → Vals ys us → xs = ys
  | _, _, _, .nil, .nil => rfl
  | _, _, _, .cons r t, .cons r' t' => by rw [r.inj r', Vals.inj t t']
section
variable {X : Cx} {pins : List (Addr × Obj)} {σ : St} {H : Hp} {s : Shared} {a : Addr} {xs ys : List V}
theorem SqL.of {K : PySem.W.Frag} (h : H a = some (.lst xs)) : SqL K H a xs := .inl (.inl h)
theorem SqT.of {K : PySem.W.Frag} (h : H a = some (.tup xs)) : SqT K H a xs := .inl (.inl h)
theorem Inv.list (I : Inv X pins σ H s) (h : SqL X.K H a xs) : ∃ its : List Value, Vals xs its ∧ PlainL s.heap a its.toArray ∧ xs.length ≤ sizeLine := by
  rcases h with h | ⟨o, its, n, hk, hc, hd, hs, hz, r⟩
  · obtain ⟨z, its, n, r, e⟩ := h.ok I.hok
    exact ⟨its, r, ⟨_, n, e, rfl, rfl, rfl⟩, z⟩
  · refine ⟨its.toList, r, ⟨o, n, I.kIn a o hk, hc, hd, by simpa using hs⟩, ?_⟩
    have e := r.length
    simp only [Array.length_toList] at e
    omega
theorem Inv.tuple (I : Inv X pins σ H s) (h : SqT X.K H a xs) : ∃ its : List Value, Vals xs its ∧ IsTup s.heap a its.toArray ∧ xs.length ≤ sizeLine := by
  rcases h with h | ⟨o, its, n, hk, hc, hs, hz, r⟩
  · obtain ⟨z, its, r, p⟩ := h.ok I.hok
    exact ⟨its, r, p, z⟩
  · refine ⟨its.toList, r, ⟨o, I.kIn a o hk, hc, n, by simpa using hs⟩, ?_⟩
    have e := r.length
    simp only [Array.length_toList] at e
    omega
theorem Inv.list_inj (I : Inv X pins σ H s) (h : SqL X.K H a xs) (h' : SqL X.K H a ys) : xs = ys := by
  obtain ⟨its, r, ⟨o, n, e, _, _, d⟩, _⟩ := I.list h
  obtain ⟨its', r', ⟨o', n', e', _, _, d'⟩, _⟩ := I.list h'
  rw [e] at e'; cases e'
  rw [d] at d'
  injection d' with d1 _
  have : its = its' := by simpa using congrArg Array.toList d1
  subst this
  exact r.inj r'
end

abbrev Cx.wish (X : Cx) (E : Value → Shared → Prop) : Cx := { X with xe := E }
abbrev Cx.nox (X : Cx) : Cx := X.wish fun _ _ => False
theorem Cx.Ok.wish {X : Cx} (ok : X.Ok) (E : Value → Shared → Prop) : (X.wish E).Ok :=
  ⟨ok.mod, ok.kind, ok.glob, ok.blt, ok.above, ok.inj, ok.has, ok.cab, ok.hd, ok.frames, ok.stk, ok.exf, ok.bs, ok.bsz, ok.noex, ok.exfs, ok.funs, ok.frf⟩
theorem Cx.Ok.unwish {X : Cx} {E : Value → Shared → Prop} (ok : (X.wish E).Ok) : X.Ok :=
  ⟨ok.mod, ok.kind, ok.glob, ok.blt, ok.above, ok.inj, ok.has, ok.cab, ok.hd, ok.frames, ok.stk, ok.exf, ok.bs, ok.bsz, ok.noex, ok.exfs, ok.funs, ok.frf⟩
section
variable {X : Cx} {pins : List (Addr × Obj)} {σ : St} {H : Hp} {s : Shared} {E : Value → Shared → Prop}
theorem Inv.wish (I : Inv X pins σ H s) (E : Value → Shared → Prop) : Inv (X.wish E) pins σ H s := ⟨I.ok.wish E, I.os, I.bare, I.base, I.loc, I.cell, I.free, I.freeC, I.pin, I.hok, I.len⟩
theorem Inv.unwish (I : Inv (X.wish E) pins σ H s) : Inv X pins σ H s := ⟨I.ok.unwish, I.os, I.bare, I.base, I.loc, I.cell, I.free, I.freeC, I.pin, I.hok, I.len⟩
theorem SP.unwish {D : Ends} {f : Flow} {s' : Shared} (h : SP (X.wish E) pins D f s') : SP X pins D f s' := by
  cases f with
  | next => obtain ⟨σ', H', I, q⟩ := h; exact ⟨σ', H', I.unwish, q⟩
  | brk => obtain ⟨σ', H', I, q⟩ := h; exact ⟨σ', H', I.unwish, q⟩
  | cont => obtain ⟨σ', H', I, q⟩ := h; exact ⟨σ', H', I.unwish, q⟩
  | ret u => obtain ⟨v, σ', H', I, r, q⟩ := h; exact ⟨v, σ', H', I.unwish, r, q⟩
theorem PSs.nox {st : List Stmt} {t : TS} (h : PSs X.nox st t) : PSs X st t := fun pins s σ H D I hw =>
  wpAny_mono (h pins s σ H D (I.wish _) hw) (fun _ _ q => q.unwish) fun _ _ z => False.elim z
end

section
variable {X : Cx} {st : Stmt} {rest : List Stmt} {t u : TS} {e : Expr} {te : TE} {pos : Pos}
def tNext : TS := fun D σ H => D.nx σ H
def tSeq (t u : TS) : TS := fun D σ H => t { D with nx := u D } σ H
theorem pss_nil : PSs X [] tNext := fun _ _ σ H _ I h => wpAny_execs_nil ⟨σ, H, I, h⟩
theorem pss_cons (h1 : PS X st t) (h2 : PSs X rest u) : PSs X (st :: rest) (tSeq t u) := by
  intro pins s σ H D I h
  refine wpAny_execs_cons (thn (h1 pins s σ H { D with nx := u D } I h) fun f s1 q => ?_)
  cases f with
  | next =>
    obtain ⟨σ', H', I', q⟩ := q
    exact h2 pins s1 σ' H' D I' q
  | ret v => exact q
  | brk => exact q
  | cont => exact q
theorem pss_one (h1 : PS X st t) : PSs X [st] t := by
  intro pins s σ H D I h
  refine wpAny_execs_cons (thn (h1 pins s σ H D I h) fun f s1 q => ?_)
  cases f with
  | next => exact wpAny_execs_nil q
  | ret v => exact q
  | brk => exact q
  | cont => exact q
def tBreak : TS := fun D σ H => D.bk σ H
def tCont : TS := fun D σ H => D.ct σ H
theorem Inv.quiet {pins : List (Addr × Obj)} {σ : St} {H : Hp} {s : Shared} (I : Inv X pins σ H s) : interactive X.env = false := by simp [interactive, I.ok.kind]
def tDrop (te : TE) : TS := fun D σ H => te σ H fun _ H1 => D.nx σ H1
theorem ps_expr (he : PE X e te) (hs : swapsWith e none pos.line X.env = pure false := by rfl) : PS X (.Expr e pos) (tDrop te) := by
  intro pins s σ H D I h
  exact wpAny_Expr_any (thn (he pins s σ H _ I h) fun v s1 ⟨x, H1, I1, r1, q1⟩ => ⟨σ, H1, I1, q1⟩) I.quiet hs
def tRet (te : TE) : TS := fun D σ H => te σ H D.rt
theorem ps_ret (he : PE X e te) : PS X (.Return (some e) pos) (tRet te) := by
  intro pins s σ H D I h
  exact wpAny_Return_some (thn (he pins s σ H _ I h) fun v s1 ⟨x, H1, I1, r1, q1⟩ => ⟨x, σ, H1, I1, r1, q1⟩)
def tRetN : TS := fun D _ H => D.rt .non H
def tIfS (c : TT) (t u : TS) : TS := fun D σ H => c σ H fun b H1 => if b = true then t D σ H1 else u D σ H1
theorem ps_if {c : Expr} {a b : List Stmt} {tc : TT} (hc : PT X c tc) (ha : PSs X a t) (hb : PSs X b u) : PS X (.If c a b pos) (tIfS tc t u) := by
  intro pins s σ H D I h
  refine wpAny_If (thn (hc pins s σ H _ I h) fun d s1 ⟨H1, I1, q1⟩ => ?_)
  cases d with
  | true => exact ha pins s1 σ H1 D I1 q1
  | false => exact hb pins s1 σ H1 D I1 q1
def tNever : TS := fun _ _ _ => False
end

abbrev TG := V → St → Hp → (St → Hp → Prop) → Prop
abbrev TGs := List V → St → Hp → (St → Hp → Prop) → Prop
def PG (X : Cx) (target : Expr) (t : TG) : Prop :=
  ∀ (pins : List (Addr × Obj)) (s : Shared) (σ : St) (H : Hp) (v : V) (u : Value) (Q : St → Hp → Prop), Inv X pins σ H s → RelV v u → t v σ H Q →
    wpAny (model X.prog X.w) X.A (assign target X.env u) (fun _ s' => ∃ σ' H', Inv X pins σ' H' s' ∧ Q σ' H') X.xe s
def PGs (X : Cx) (ts : List Expr) (t : TGs) : Prop :=
  ∀ (pins : List (Addr × Obj)) (s : Shared) (σ : St) (H : Hp) (vs : List V) (us : List Value) (Q : St → Hp → Prop), Inv X pins σ H s → Vals vs us → t vs σ H Q →
    wpAny (model X.prog X.w) X.A (assignInOrder ((assignEach ts X.env).map (·.2)) us) (fun _ s' => ∃ σ' H', Inv X pins σ' H' s' ∧ Q σ' H') X.xe s
abbrev TSet := V → V → V → Hp → (Hp → Prop) → Prop
def PSet (X : Cx) (t : TSet) : Prop :=
  ∀ (pins : List (Addr × Obj)) (s : Shared) (σ : St) (H : Hp) (o i v : V) (ov iv u : Value) (Q : Hp → Prop), Inv X pins σ H s → RelV o ov → RelV i iv → RelV v u → t o i v H Q →
    wpAny (model X.prog X.w) X.A (setItem ov iv u) (fun _ s' => ∃ H', Inv X pins σ H' s' ∧ Q H') X.xe s
abbrev TIp := V → V → Hp → VK → Prop
def PIp (X : Cx) (op : Operator) (t : TIp) : Prop :=
  ∀ (pins : List (Addr × Obj)) (s : Shared) (σ : St) (H : Hp) (x y : V) (v u : Value) (Q : VK), Inv X pins σ H s → RelV x v → RelV y u → t x y H Q →
    wpAny (model X.prog X.w) X.A (inplaceOp op v u) (EP X pins σ Q) X.xe s
section
variable {X : Cx} {pos : Pos}
def gName (i : Nat) : TG := fun v σ H Q => Q (σ.set i (some v)) H
theorem pg_name {i : Nat} {x : Str} (hN : X.N.Nodup) (hi : X.N[i]? = some x) (hx : Loc X.env.scope x) (hf : X.fn x = true ∨ X.env.scope.names.lookup x = some .local := by first | exact .inl rfl | exact .inr rfl | assumption) : PG X (.Name x pos) (gName i) := by
  intro pins s σ H v u Q I r h
  exact wpAny_assign_Name (store_ok I hN hi hx r (fun s' I' => ⟨_, H, I', h⟩) hf)
def gNil : TGs := fun vs σ H Q => vs = [] ∧ Q σ H
def gCons (t : TG) (u : TGs) : TGs := fun vs σ H Q => ∃ v r, vs = v :: r ∧ t v σ H fun σ' H' => u r σ' H' Q
theorem pgs_nil : PGs X [] gNil := by
  intro pins s σ H vs us Q I r h
  obtain ⟨e, h⟩ := h
  subst e
  cases r
  exact assignInOrder_nil ⟨σ, H, I, h⟩
theorem pgs_cons {e : Expr} {es : List Expr} {t : TG} {u : TGs} (h1 : PG X e t) (h2 : PGs X es u)
    (hs : (assignEach (e :: es) X.env).map (·.2) = assign e X.env :: (assignEach es X.env).map (·.2) := by rfl) : PGs X (e :: es) (gCons t u) := by
  intro pins s σ H vs us Q I r h
  obtain ⟨v, vr, e1, h⟩ := h
  subst e1
  cases r with
  | cons r rr =>
    rw [hs]
    refine assignInOrder_cons (thn (h1 pins s σ H _ _ _ I r h) fun _ s1 ⟨σ1, H1, I1, q1⟩ => ?_)
    exact h2 pins s1 σ1 H1 _ _ Q I1 rr q1
def gTup (K : PySem.W.Frag) (n : Nat) (t : TGs) : TG := fun v σ H Q => ∃ a xs, v = .ref a ∧ SqT K H a xs ∧ xs.length = n ∧ t xs σ H Q
theorem pg_tup {es : List Expr} {k : Nat} {t : TGs} {n : Nat} (hc : X.calm = true) (h : PGs X es t)
    (hn : (assignEach es X.env).length = n := by rfl) (hst : (assignEach es X.env).findIdx? (·.1) = none := by rfl) : PG X (.Tuple es k pos) (gTup X.K n t) := by
  intro pins s σ H v u Q I r hw
  obtain ⟨a, xs, e1, hq, hl, hw⟩ := hw
  subst e1
  cases r
  obtain ⟨its, rv, ht, hz⟩ := I.tuple hq
  refine assign_Tuple_tuple (I.ok.hd hc) ht (by simp [hn, ← hl, rv.length]) hst fun h' hx => ?_
  have I1 : Inv X pins σ H { s with heap := h' } := I.kept (t' := s.toks) fun b o e => hx b o (Nat.ne_of_lt (Heap.lt_size e)) e
  exact h pins _ σ H xs _ Q I1 (by simpa using rv) hw
def gSub (to ti : TE) (t : TSet) : TG := fun v σ H Q => to σ H fun o H1 => ti σ H1 fun i H2 => t o i v H2 fun H3 => Q σ H3
theorem pg_sub {o i : Expr} {to ti : TE} {t : TSet} (ho : PE X o to) (hi : PE X i ti) (hs : PSet X t)
    (ha : ∀ v, assign (.Subscript o i pos) X.env v = (do
      let ov ← holding [v] (eval o X.env)
      let iv ← holding [v, ov] (eval i X.env)
      standAt pos
      holding [v, ov, iv] (setItem ov iv v)
      release [v, ov, iv] []) := by intro _; rfl) : PG X (.Subscript o i pos) (gSub to ti t) := by
  intro pins s σ H v u Q I r h
  rw [ha]
  refine wpAny_bind (wpAny_holding (thn (ho pins s σ H _ I h) fun ov s1 ⟨x, H1, I1, r1, q1⟩ => ?_))
  refine wpAny_bind (wpAny_holding (thn (hi pins s1 σ H1 _ I1 q1) fun iv s2 ⟨y, H2, I2, r2, q2⟩ => ?_))
  refine wpAny_bind (wpAny_standAt (wpAny_bind (wpAny_holding (thn (hs pins s2 σ H2 x y v ov iv u _ I2 r1 r2 r q2) fun _ s3 ⟨H3, I3, q3⟩ => ?_))))
  exact wpAny_release ⟨σ, H3, I3, q3⟩
def tAsg (te : TE) (g : TG) : TS := fun D σ H => te σ H fun x H1 => g x σ H1 D.nx
theorem ps_asg {tg e : Expr} {te : TE} {g : TG} (he : PE X e te) (hg : PG X tg g) (hs : swapsWithSole [tg] e pos.line X.env = pure false := by rfl) (hw : swappedStores [tg] e X.env = pure none := by rfl)
    (h1 : (assignEach [tg] X.env).map (·.2) = [assign tg X.env] := by rfl) : PS X (.Assign [tg] e pos) (tAsg te g) := by
  intro pins s σ H D I h
  refine wpAny_Assign_stores (thn (he pins s σ H _ I h) fun v s1 ⟨x, H1, I1, r1, q1⟩ => ?_) hs hw
  rw [h1]
  exact thn (hg pins s1 σ H1 x v _ I1 r1 q1) fun _ s2 q => q
theorem ps_set {i : Nat} {x : Str} {e : Expr} {te : TE} {pos' : Pos} (hN : X.N.Nodup) (hi : X.N[i]? = some x) (hx : Loc X.env.scope x) (he : PE X e te) (hs : swapsWith e (some (.Name x pos')) pos.line X.env = pure false := by rfl) (hf : X.fn x = true ∨ X.env.scope.names.lookup x = some .local := by first | exact .inl rfl | exact .inr rfl | assumption) :
    PS X (.Assign [.Name x pos'] e pos) (tAsg te (gName i)) := by
  intro pins s σ H D I h
  refine wpAny_Assign_Name (thn (he pins s σ H _ I h) fun v s1 ⟨y, H1, I1, r1, q1⟩ => ?_) hs
  exact store_ok I1 hN hi hx r1 (fun s2 I2 => ⟨_, H1, I2, q1⟩) hf
def tPar (i j : Nat) (ta : TA) : TS := fun D σ H => ta σ H fun vs H1 => ∃ v w, vs = [v, w] ∧ D.nx ((σ.set i (some v)).set j (some w)) H1
def tAug (i : Nat) (te : TE) (ti : TIp) : TS := fun D σ H => ∃ x, σ[i]? = some (some x) ∧ te σ H fun y H1 => ti x y H1 fun z H2 => D.nx (σ.set i (some z)) H2
def tAugS (to ti te : TE) (tget : V → V → Hp → VK → Prop) (tip : TIp) (tset : TSet) : TS := fun D σ H => to σ H fun o H1 => ti σ H1 fun i H2 => tget o i H2 fun x H3 => te σ H3 fun y H4 => tip x y H4 fun z H5 => tset o i z H5 fun H6 => D.nx σ H6
def PGet (X : Cx) (t : V → V → Hp → VK → Prop) : Prop :=
  ∀ (pins : List (Addr × Obj)) (s : Shared) (σ : St) (H : Hp) (o i : V) (ov iv : Value) (Q : VK), Inv X pins σ H s → RelV o ov → RelV i iv → t o i H Q →
    wpAny (model X.prog X.w) X.A (getItem ov iv) (EP X pins σ Q) X.xe s
def ipI (f : Int → Int → Int) : TIp := fun x y H Q => ∃ i j, x = .int i ∧ y = .int j ∧ Q (.int (f i j)) H
end

section
variable {X : Cx} {pos : Pos}
def tWhile (c : TT) (tb : TS) : TS := fun D σ H => ∃ W : Nat → St → Hp → Prop, (∃ m, W m σ H) ∧ ∀ m σ H, W m σ H →
  c σ H fun b H1 => if b = true then ∃ N : St → Hp → Prop, (∀ σ' H', N σ' H' → ∃ m', m' < m ∧ W m' σ' H') ∧ tb { D with nx := N, ct := N, bk := D.nx } σ H1 else D.nx σ H1
end

structure It where
  go : Nat → Hp → Prop
  yld : Nat → Hp → V → Hp → Prop
  stop : Nat → Hp → Prop
def FpOk (X : Cx) (pins : List (Addr × Obj)) (H : Hp) (b : Addr) : Prop :=
  H b = none ∧ b ≠ X.env.locals ∧ b ∉ X.fs ∧ (b ∈ X.ex ∨ X.s₀.heap.objs.size ≤ b) ∧ (∀ x c, X.env.cells.lookup x = some c → c ≠ b) ∧ ∀ p ∈ X.pn ++ pins, p.1 ≠ b
theorem Inv.fpOk {X : Cx} {pins : List (Addr × Obj)} {σ : St} {H H' : Hp} {s : Shared} {b : Addr} (I : Inv X pins σ H s) (hb : s.heap.objs.size ≤ b) (hn : H' b = none) : FpOk X pins H' b := by
  refine ⟨hn, Nat.ne_of_gt (Nat.lt_of_lt_of_le I.lt hb), I.nofs hb, .inr (Nat.le_trans I.sz hb), fun x c e z => ?_, fun p hp z => ?_⟩
  · obtain ⟨v, q⟩ := I.cell x c e
    exact absurd (Nat.lt_of_lt_of_le q.lt (by rw [z]; exact hb)) (Nat.lt_irrefl _)
  · exact absurd (Nat.lt_of_lt_of_le (Heap.lt_size (I.pin p hp).1) (by rw [z]; exact hb)) (Nat.lt_irrefl _)
structure Turn (P : Program) (w : World) (K : PySem.W.Frag) (tg : Expr) (J : It) (fp : List Addr) (it : Addr) (tn : Nat → Heap → Prop) : Prop where
  mem : it ∈ fp
  obj : ∀ i h, tn i h → ∀ b ∈ fp, ∃ o, h.get? b = some o ∧ ∀ v, o.data ≠ .cell v
  keep : ∀ i h h', tn i h → (∀ b ∈ fp, ∀ o, h.get? b = some o → h'.get? b = some o) → tn i h'
  item : ∀ (X : Cx), X.prog = P → X.w = w → X.K = K → X.calm = true → ∀ (i : Nat) (pins : List (Addr × Obj)) (s : Shared) (σ : St) (H : Hp) (E : Value → Shared → Prop), Inv X pins σ H s → (∀ b ∈ fp, FpOk X pins H b) → tn i s.heap → J.go i H →
    wpAny (model P w) X.A (pyNext (.ref it)) (fun r s1 => ∃ u, r = some u ∧
      wpAny (model P w) X.A (letOwnedTupleGo tg (.ref it) u) (fun _ s2 => ∃ x H', Inv X pins σ H' s2 ∧ RelV x u ∧ J.yld i H x H' ∧ tn (i + 1) s2.heap ∧ ∀ b ∈ fp, H' b = none) E s1) E s
  done : ∀ (X : Cx), X.prog = P → X.w = w → X.K = K → X.calm = true → ∀ (i : Nat) (pins : List (Addr × Obj)) (s : Shared) (σ : St) (H : Hp) (E : Value → Shared → Prop), Inv X pins σ H s → (∀ b ∈ fp, FpOk X pins H b) → tn i s.heap → J.stop i H →
    wpAny (model P w) X.A (pyNext (.ref it)) (fun r s1 => r = none ∧ Inv X pins σ H s1) E s
  self : ∀ (A : Around) (i : Nat) (s : Shared) (Q : Value → Shared → Prop) (E : Value → Shared → Prop), tn i s.heap → Q (.ref it) s → wpAny (model P w) A (pyIter (.ref it)) Q E s
abbrev TI := St → Hp → (It → Hp → Prop) → Prop
def PIE (X : Cx) (pins : List (Addr × Obj)) (σ : St) (tg : Expr) (R : It → Hp → Prop) (itv : Value) (s2 : Shared) : Prop :=
  ∃ (it : Addr) (fp : List Addr) (tn : Nat → Heap → Prop) (J : It) (H' : Hp), itv = .ref it ∧ Inv X pins σ H' s2 ∧ Turn X.prog X.w X.K tg J fp it tn ∧ tn 0 s2.heap ∧ (∀ b ∈ fp, FpOk X pins H' b) ∧ R J H'
def PI (X : Cx) (tg iter : Expr) (wi : TI) : Prop :=
  ∀ (pins : List (Addr × Obj)) (s : Shared) (σ : St) (H : Hp) (R : It → Hp → Prop), Inv X pins σ H s → wi σ H R →
    wpAny (model X.prog X.w) X.A (eval iter X.env) (fun v s1 => wpAny (model X.prog X.w) X.A (pyIter v) (PIE X pins σ tg R) X.xe s1) X.xe s

theorem go_of {M : Model} {A : Around} {E : Value → Shared → Prop} {s : Shared} {tg : Expr} {it : Addr} {u : Value} {o : Obj} {n : String} {vs : Array Value} {Q : Unit → Shared → Prop} (ho : s.heap.get? it = some o) (hc : o.cls = .type n) (hd : o.data = .fields vs)
    (hn : ["enumerate", "zip", "dict_itemiterator", "dict_reverseitemiterator", "odict_iterator", "itertools.zip_longest", "itertools.pairwise"].contains n = false) (hQ : Q () s) : wpAny M A (letOwnedTupleGo tg (.ref it) u) Q E s := by
  unfold letOwnedTupleGo
  cases tg <;> first
    | exact wpAny_pure hQ
    | (cases u <;> first
        | exact wpAny_pure hQ
        | (refine wpAny_bind (wpAny_load ho ?_)
           rw [hc, hd]
           show wpAny M A (if (["enumerate", "zip", "dict_itemiterator", "dict_reverseitemiterator", "odict_iterator", "itertools.zip_longest", "itertools.pairwise"].contains n && vs[0]? == some (rawInt _)) = true then _ else _) Q E s
           rw [if_neg (by intro h; rw [hn, Bool.false_and] at h; cases h)]
           exact wpAny_pure hQ))

def Itl (K : PySem.W.Frag) (a : Addr) : It :=
  ⟨fun i H => ∃ xs x, SqL K H a xs ∧ xs[i]? = some x, fun i H x H' => H' = H ∧ ∀ xs, SqL K H a xs → xs[i]? = some x, fun i H => ∃ xs, SqL K H a xs ∧ xs.length ≤ i⟩
def Itt (K : PySem.W.Frag) (a : Addr) : It :=
  ⟨fun i H => ∃ xs x, SqT K H a xs ∧ xs[i]? = some x, fun i H x H' => H' = H ∧ ∀ xs, SqT K H a xs → xs[i]? = some x, fun i H => ∃ xs, SqT K H a xs ∧ xs.length ≤ i⟩
def Itr (lo : Int) (n : Nat) : It := ⟨fun i _ => i < n, fun i H x H' => H' = H ∧ x = .int (lo + i), fun i _ => n ≤ i⟩
theorem turn_list {P : Program} {w : World} {K : PySem.W.Frag} {tg : Expr} (a it : Addr) : Turn P w K tg (Itl K a) [it] it (fun i h => h.IsListIter it a i) where
  mem := by simp
  obj := fun i h st b hb => by
    have e : b = it := by simpa using hb
    subst e
    obtain ⟨o, e, c, d⟩ := st
    exact ⟨o, e, fun v z => by rw [d] at z; cases z⟩
  keep := fun i h h' st k => st.at fun o e => k it (by simp) o e
  item := by
    intro X hP hw hK hc i pins s σ H E I hf st hg
    subst hP hw hK
    obtain ⟨xs, x, hq, hx⟩ := hg
    obtain ⟨its, rv, p, hz⟩ := I.list hq
    obtain ⟨u, hu, ru⟩ := rv.get hx
    obtain ⟨f0, f1, f2, f3, f4, f5⟩ := hf it (by simp)
    refine wpAny_pyNext_list_item st p.isList (x := u) (by simpa using hu) fun h' st' sb => ?_
    have I1 : Inv X pins σ H { s with heap := h' } := I.turned (t' := s.toks) (fun b o hb e => (sb.2 b hb).trans e) f0 f1 f3 f4 f5
    obtain ⟨o, e, c, d⟩ := id st'
    exact ⟨u, rfl, go_of (s := { s with heap := h' }) e c d (by decide) ⟨x, H, I1, ru, ⟨rfl, fun ys hy => by rw [I.list_inj hy hq]; exact hx⟩, st', fun b hb => (hf b hb).1⟩⟩
  done := by
    intro X hP hw hK hc i pins s σ H E I hf st hg
    subst hP hw hK
    obtain ⟨xs, hq, hx⟩ := hg
    obtain ⟨its, rv, p, hz⟩ := I.list hq
    obtain ⟨f0, f1, f2, f3, f4, f5⟩ := hf it (by simp)
    have hl := rv.length
    exact wpAny_pyNext_list_end (I.ok.hd hc) st p.isList (by simp; omega) fun h' eb => ⟨rfl, I.turned (t' := s.toks) (fun b o hb e => eb b o hb e) f0 f1 f3 f4 f5⟩
  self := fun _ _ _ _ _ st h => wpAny_pyIter_listiter st h
theorem turn_range {P : Program} {w : World} {K : PySem.W.Frag} {tg : Expr} (it : Addr) (lo : Int) (n : Nat) : Turn P w K tg (Itr lo n) [it] it (fun i h => IsRangeIter h it (lo + (i : Nat) * 1) ((n : Int) - (i : Nat)) 1) where
  mem := by simp
  obj := fun i h st b hb => by
    have e : b = it := by simpa using hb
    subst e
    exact ⟨_, st, fun v z => by
      have z' : Data.fields _ = Data.cell v := z
      cases z'⟩
  keep := fun i h h' st k => k it (by simp) _ st
  item := by
    intro X hP hw hK hc i pins s σ H E I hf st hg
    subst hP hw hK
    obtain ⟨f0, f1, f2, f3, f4, f5⟩ := hf it (by simp)
    have W := Walks.range (prog := X.prog) (w := X.w) (I.ok.hd hc) it lo 1 n
    refine W.item i s _ _ hg st fun v h' tk hv st' kk => ?_
    obtain ⟨t, rfl⟩ := hv
    have I1 : Inv X pins σ H { s with heap := h', toks := tk } := I.turned (fun b o hb e => kk b o (by simpa using hb) e) f0 f1 f3 f4 f5
    refine ⟨_, rfl, go_of (s := { s with heap := h', toks := tk }) (n := "range_iterator") st' rfl rfl (by decide) ⟨.int (lo + i), H, I1, ⟨t, ?_⟩, ⟨rfl, rfl⟩, st', fun b hb => (hf b hb).1⟩⟩
    rw [Int.mul_one]
  done := by
    intro X hP hw hK hc i pins s σ H E I hf st hg
    subst hP hw hK
    obtain ⟨f0, f1, f2, f3, f4, f5⟩ := hf it (by simp)
    exact wpAny_pyNext_range_end (I.ok.hd hc) st (by have : n ≤ i := hg; omega) fun h' eb => ⟨rfl, I.turned (t' := s.toks) (fun b o hb e => eb b o hb e) f0 f1 f3 f4 f5⟩
  self := fun _ _ _ _ _ st h => wpAny_pyIter_rangeiter st h
end L2

namespace L2
open PySem PySem.Spec PyProof.Rows
section
variable {X : Cx} {tg : Expr}
def iList (K : PySem.W.Frag) (tl : TE) : TI := fun σ H R => tl σ H fun x H1 => ∃ a, x = .ref a ∧ (∃ xs, SqL K H1 a xs) ∧ R (Itl K a) H1
def iTup (K : PySem.W.Frag) (tl : TE) : TI := fun σ H R => tl σ H fun x H1 => ∃ a, x = .ref a ∧ (∃ xs, SqT K H1 a xs) ∧ R (Itt K a) H1
theorem pi_list {l : Expr} {tl : TE} (hl : PE X l tl) : PI X tg l (iList X.K tl) := by
  intro pins s σ H R I h
  refine thn (hl pins s σ H _ I h) fun v s1 ⟨x, H1, I1, r1, q1⟩ => ?_
  obtain ⟨a, e, ⟨xs, hq⟩, q⟩ := q1
  subst e
  cases r1
  obtain ⟨its, rv, p, hz⟩ := I1.list hq
  refine wpAny_pyIter_list p.isList ?_
  refine ⟨s1.heap.objs.size, [s1.heap.objs.size], _, _, H1, rfl, I1.kept (t' := s1.toks) fun b o e => Heap.get?_push_of_some _ e, turn_list a _, ⟨_, Heap.get?_push_size _ rfl, rfl, rfl⟩, fun b hb => ?_, q⟩
  have e : b = s1.heap.objs.size := by simpa using hb
  subst e
  exact I1.fpOk (Nat.le_refl _) (I1.hok.fresh (Nat.le_refl _))
theorem range_it {pins : List (Addr × Obj)} {σ : St} {H : Hp} {s : Shared} {R : It → Hp → Prop} {E : Value → Shared → Prop} {lo hi : Int} {t u v : Tok} {tk : Nat} (I : Inv X pins σ H s) (h1 : -(2 ^ 62) ≤ lo) (h2 : lo < 2 ^ 62) (h3 : -(2 ^ 62) ≤ hi) (h4 : hi < 2 ^ 62)
    (q : R (Itr lo (hi - lo).toNat) H) : wpAny (model X.prog X.w) X.A (pyIter (.ref s.heap.objs.size)) (PIE X pins σ tg R) E { s with heap := s.heap.push { cls := .type "range", data := .fields #[.int lo t, .int hi u, .int 1 v] }, toks := tk } := by
  refine wpAny_pyIter_range (IsRange.new ..) (small_one h1 h2 h3 h4) ?_
  have I1 : Inv X pins σ H { s with heap := s.heap.push { cls := .type "range", data := .fields #[.int lo t, .int hi u, .int 1 v] }, toks := tk } := I.kept fun b o e => Heap.get?_push_of_some _ e
  refine ⟨(s.heap.push { cls := .type "range", data := .fields #[.int lo t, .int hi u, .int 1 v] }).objs.size, [(s.heap.push { cls := .type "range", data := .fields #[.int lo t, .int hi u, .int 1 v] }).objs.size], _, _, H, rfl,
    I1.kept (t' := tk) fun b o e => Heap.get?_push_of_some _ e, turn_range _ lo (hi - lo).toNat, ?_, fun b hb => ?_, q⟩
  · have e1 : lo + ((0 : Nat) : Int) * 1 = lo := by simp
    have e2 : (((hi - lo).toNat : Nat) : Int) - ((0 : Nat) : Int) = Builtin.Range.rangeSize lo hi 1 := by rw [rangeSize_one]; split <;> omega
    show IsRangeIter _ _ (lo + ((0 : Nat) : Int) * 1) ((((hi - lo).toNat : Nat) : Int) - ((0 : Nat) : Int)) 1
    rw [e1, e2]
    exact Heap.get?_push_size _ rfl
  · have e : b = (s.heap.push { cls := .type "range", data := .fields #[.int lo t, .int hi u, .int 1 v] }).objs.size := by simpa using hb
    subst e
    exact I1.fpOk (Nat.le_refl _) (I1.hok.fresh (Nat.le_refl _))
def iRng1 (ta : TA) : TI := fun σ H R => ta σ H fun vs H1 => ∃ j : Int, vs = [.int j] ∧ -(2 ^ 62) ≤ j ∧ j < 2 ^ 62 ∧ R (Itr 0 j.toNat) H1
def iRng2 (ta : TA) : TI := fun σ H R => ta σ H fun vs H1 => ∃ i j : Int, vs = [.int i, .int j] ∧ (-(2 ^ 62) ≤ i ∧ i < 2 ^ 62 ∧ -(2 ^ 62) ≤ j ∧ j < 2 ^ 62) ∧ R (Itr i (j - i).toNat) H1
theorem pi_range1 {a : Expr} {ta : TA} {p pos : Pos} (hg : Gl X "range") (hm : X.mg "range" = none) (ha : PA X [a] ta) (hs : starEach [a] X.env = [(false, eval a X.env)] := by rfl) : PI X tg (.Call (.Name "range" p) [a] [] pos) (iRng1 ta) := by
  intro pins s σ H R I h
  refine Call_ (ld_blt I hg hm boot_range (PyProof.Rows.callWith_type1 (thn (ha pos pins s σ H _ I h) fun us s1 ⟨vs, H1, I1, r1, q1⟩ => ?_) hs rfl))
  obtain ⟨j, e, q1, q2, q⟩ := q1
  subst e
  cases r1 with
  | cons r rr =>
    cases rr
    obtain ⟨t, rfl⟩ := r
    exact call_range_1 (range_it I1 (by omega) (by omega) q1 q2 (by simpa using q))
def tFor (wi : TI) (g : TG) (tb : TS) : TS := fun D σ H => wi σ H fun J H1 => ∃ W : Nat → Nat → St → Hp → Prop, (∃ m, W 0 m σ H1) ∧ ∀ i m σ H, W i m σ H →
  (J.stop i H ∧ D.nx σ H) ∨ (J.go i H ∧ ∃ N : St → Hp → Prop, (∀ σ' H', N σ' H' → ∃ m', m' < m ∧ W (i + 1) m' σ' H') ∧ ∀ x H', J.yld i H x H' → g x σ H' fun σ2 H2 => tb { D with nx := N, ct := N, bk := D.nx } σ2 H2)
def pinsAt (fp : List Addr) (h : Heap) : List (Addr × Obj) := fp.filterMap fun b => (h.get? b).map fun o => (b, o)
theorem mem_pinsAt {fp : List Addr} {h : Heap} {b : Addr} {o : Obj} (hb : b ∈ fp) (e : h.get? b = some o) : (b, o) ∈ pinsAt fp h := List.mem_filterMap.mpr ⟨b, hb, by rw [e]; rfl⟩
theorem of_pinsAt {fp : List Addr} {h : Heap} {p : Addr × Obj} (hp : p ∈ pinsAt fp h) : p.1 ∈ fp ∧ h.get? p.1 = some p.2 := by
  obtain ⟨b, hb, e⟩ := List.mem_filterMap.mp hp
  cases q : h.get? b with
  | none => rw [q] at e; cases e
  | some o =>
    rw [q] at e
    have e' : (b, o) = p := Option.some.inj e
    subst e'
    exact ⟨hb, q⟩
theorem Inv.pinned {pins : List (Addr × Obj)} {σ : St} {H : Hp} {s : Shared} {fp : List Addr} (I : Inv X pins σ H s) (hf : ∀ b ∈ fp, FpOk X pins H b) (ho : ∀ b ∈ fp, ∃ o, s.heap.get? b = some o ∧ ∀ v, o.data ≠ .cell v) : Inv X (pins ++ pinsAt fp s.heap) σ H s :=
  I.pins_of fun p hp => (List.mem_append.mp hp).elim (fun z => I.pin p (List.mem_append_right _ z)) fun z => by
    obtain ⟨hb, e⟩ := of_pinsAt z
    obtain ⟨f0, f1, f2, _⟩ := hf p.1 hb
    obtain ⟨o, e', d⟩ := ho p.1 hb
    rw [e] at e'; cases e'
    exact ⟨e, f0, f1, f2, d⟩
theorem Inv.unpinned {pins pl : List (Addr × Obj)} {σ : St} {H : Hp} {s : Shared} (I : Inv X (pins ++ pl) σ H s) : Inv X pins σ H s := I.pins_of fun p hp => I.pin p (List.mem_append_right _ (List.mem_append_left _ hp))
theorem ps_for {iter : Expr} {body : List Stmt} {wi : TI} {g : TG} {tb : TS} {pos : Pos} (hp : PassesOwn (model X.prog X.w) X.A X.env X.xe) (hc : X.calm = true) (hi : PI X tg iter wi) (hg : PG X tg g) (hb : PSs X body tb)
    (hs : ∀ x, foldedSetIterable iter X.env x = pure x := by intro _; rfl) : PS X (.For tg iter body [] pos) (tFor wi g tb) := by
  intro pins s σ H D I h
  refine wpAny_For (thn (hi pins s σ H _ I h) fun v s1 h1 => thn h1 fun itv s2 h2 => ?_) hs
  obtain ⟨it, fp, tn, J, H2, e, I2, T, st2, f2, W, ⟨m0, w0⟩, turn⟩ := h2
  subst e
  -- what stays true of the iterator's objects through the loop
  have stat : ∀ {H' : Hp}, (∀ b ∈ fp, H' b = none) → ∀ b ∈ fp, FpOk X pins H' b := fun hn b hb => ⟨hn b hb, (f2 b hb).2⟩
  refine codeAny_forLoop_any (fun n s' => ∃ i σ' H', Inv X pins σ' H' s' ∧ tn i s'.heap ∧ (∀ b ∈ fp, H' b = none) ∧ W i n σ' H') ?_ m0 ⟨0, σ, H2, I2, st2, fun b hb => (f2 b hb).1, w0⟩
  rintro n s3 ⟨i, σ3, H3, I3, st3, fr3, w3⟩
  rcases turn i n σ3 H3 w3 with ⟨stop, qn⟩ | ⟨go, N, hN, step⟩
  · refine wpAny_passesOwn hp (thn (T.done X rfl rfl rfl hc i pins s3 σ3 H3 X.xe I3 (stat fr3) st3 stop) fun r s4 ⟨hr, I4⟩ => ?_)
    subst hr
    exact wpAny_execs_nil ⟨σ3, H3, I4, qn⟩
  · refine wpAny_passesOwn hp (thn (T.item X rfl rfl rfl hc i pins s3 σ3 H3 X.xe I3 (stat fr3) st3 go) fun r s4 ⟨u, hr, h4⟩ => ?_)
    subst hr
    refine wpAny_passesOwn hp (thn h4 fun _ s5 ⟨x, H5, I5, r5, y5, st5, fr5⟩ => ?_)
    have I5' := I5.pinned (stat fr5) (T.obj _ _ st5)
    refine wpAny_passesOwn hp (thn (hg _ s5 σ3 H5 x u _ I5' r5 (step x H5 y5)) fun _ s6 ⟨σ6, H6, I6, q6⟩ => ?_)
    refine wpAny_passesOwn hp (thn (hb _ s6 σ6 H6 _ I6 q6) fun f s7 q7 => ?_)
    have again : ∀ {σ7 : St} {H7 : Hp}, Inv X (pins ++ pinsAt fp s5.heap) σ7 H7 s7 → N σ7 H7 → ∃ m, m < n ∧ ∃ i σ' H', Inv X pins σ' H' s7 ∧ tn i s7.heap ∧ (∀ b ∈ fp, H' b = none) ∧ W i m σ' H' := fun {σ7 H7} I7 n7 => by
      obtain ⟨m', hm, w7⟩ := hN σ7 H7 n7
      refine ⟨m', hm, i + 1, σ7, H7, I7.unpinned, T.keep _ _ _ st5 fun b hb o e => (I7.pin (b, o) (List.mem_append_right _ (List.mem_append_right _ (mem_pinsAt hb e)))).1, fun b hb => ?_, w7⟩
      obtain ⟨o, e, d⟩ := T.obj _ _ st5 b hb
      exact (I7.pin (b, o) (List.mem_append_right _ (List.mem_append_right _ (mem_pinsAt hb e)))).2.1
    cases f with
    | next => obtain ⟨σ7, H7, I7, n7⟩ := q7; exact again I7 n7
    | cont => obtain ⟨σ7, H7, I7, n7⟩ := q7; exact again I7 n7
    | brk => obtain ⟨σ7, H7, I7, q7⟩ := q7; exact ⟨σ7, H7, I7.unpinned, q7⟩
    | ret v => obtain ⟨x7, σ7, H7, I7, r7, q7⟩ := q7; exact ⟨x7, σ7, H7, I7.unpinned, r7, q7⟩
end

theorem for_list {K : PySem.W.Frag} {a : Addr} {xs : List V} {g : TG} {tb : TS} {D : Ends} {σ : St} {H : Hp} (Pv : Nat → St → Hp → Prop) (h0 : Pv 0 σ H) (hl : ∀ i σ H, i ≤ xs.length → Pv i σ H → SqL K H a xs)
    (hs : ∀ i x σ H, xs[i]? = some x → Pv i σ H → g x σ H fun σ2 H2 => tb { D with nx := Pv (i + 1), ct := Pv (i + 1), bk := D.nx } σ2 H2) (hd : ∀ σ H, Pv xs.length σ H → D.nx σ H) :
    ∃ W : Nat → Nat → St → Hp → Prop, (∃ m, W 0 m σ H) ∧ ∀ i m σ H, W i m σ H →
      ((Itl K a).stop i H ∧ D.nx σ H) ∨ ((Itl K a).go i H ∧ ∃ N : St → Hp → Prop, (∀ σ' H', N σ' H' → ∃ m', m' < m ∧ W (i + 1) m' σ' H') ∧ ∀ x H', (Itl K a).yld i H x H' → g x σ H' fun σ2 H2 => tb { D with nx := N, ct := N, bk := D.nx } σ2 H2) := by
  refine ⟨fun i m σ H => m = xs.length - i ∧ i ≤ xs.length ∧ Pv i σ H, ⟨xs.length, by simp, Nat.zero_le _, h0⟩, ?_⟩
  rintro i m σ H ⟨rfl, hi, p⟩
  have q := hl i σ H hi p
  by_cases hlt : i < xs.length
  · refine .inr ⟨⟨xs, xs[i], q, by simp [hlt]⟩, Pv (i + 1), fun σ' H' p' => ⟨xs.length - (i + 1), by omega, rfl, hlt, p'⟩, fun x H' y => ?_⟩
    obtain ⟨e, y⟩ := y
    subst e
    exact hs i x σ _ (y xs q) p
  · have e : i = xs.length := by omega
    subst e
    exact .inl ⟨⟨xs, q, Nat.le_refl _⟩, hd σ H p⟩
theorem for_range {lo : Int} {n : Nat} {g : TG} {tb : TS} {D : Ends} {σ : St} {H : Hp} (Pv : Nat → St → Hp → Prop) (h0 : Pv 0 σ H)
    (hs : ∀ i σ H, i < n → Pv i σ H → g (.int (lo + i)) σ H fun σ2 H2 => tb { D with nx := Pv (i + 1), ct := Pv (i + 1), bk := D.nx } σ2 H2) (hd : ∀ σ H, Pv n σ H → D.nx σ H) :
    ∃ W : Nat → Nat → St → Hp → Prop, (∃ m, W 0 m σ H) ∧ ∀ i m σ H, W i m σ H →
      ((Itr lo n).stop i H ∧ D.nx σ H) ∨ ((Itr lo n).go i H ∧ ∃ N : St → Hp → Prop, (∀ σ' H', N σ' H' → ∃ m', m' < m ∧ W (i + 1) m' σ' H') ∧ ∀ x H', (Itr lo n).yld i H x H' → g x σ H' fun σ2 H2 => tb { D with nx := N, ct := N, bk := D.nx } σ2 H2) := by
  refine ⟨fun i m σ H => m = n - i ∧ i ≤ n ∧ Pv i σ H, ⟨n, by simp, Nat.zero_le _, h0⟩, ?_⟩
  rintro i m σ H ⟨rfl, hi, p⟩
  by_cases hlt : i < n
  · refine .inr ⟨hlt, Pv (i + 1), fun σ' H' p' => ⟨n - (i + 1), by omega, rfl, hlt, p'⟩, fun x H' y => ?_⟩
    obtain ⟨e, y⟩ := y
    subst e y
    exact hs i σ _ hlt p
  · have e : i = n := by omega
    subst e
    exact .inl ⟨Nat.le_refl _, hd σ H p⟩
end L2

namespace L2
open PySem PySem.Spec PyProof.Rows

abbrev R2 := V → V → Hp → VK → Prop
def OpR (X : Cx) (f : Value → Value → Sem Value) (r : R2) : Prop :=
  ∀ (pins : List (Addr × Obj)) (s : Shared) (σ : St) (H : Hp) (x y : V) (v u : Value) (Q : VK), Inv X pins σ H s → RelV x v → RelV y u → r x y H Q →
    wpAny (model X.prog X.w) X.A (f v u) (EP X pins σ Q) X.xe s
def UnR (X : Cx) (f : Value → Sem Value) (r : V → Hp → VK → Prop) : Prop :=
  ∀ (pins : List (Addr × Obj)) (s : Shared) (σ : St) (H : Hp) (x : V) (v : Value) (Q : VK), Inv X pins σ H s → RelV x v → r x H Q →
    wpAny (model X.prog X.w) X.A (f v) (EP X pins σ Q) X.xe s
def CallR (X : Cx) (f : Value) (r : List V → Hp → VK → Prop) : Prop :=
  ∀ (pins : List (Addr × Obj)) (s : Shared) (σ : St) (H : Hp) (xs : List V) (us : List Value) (Q : VK), Inv X pins σ H s → Vals xs us → r xs H Q →
    wpAny (model X.prog X.w) X.A (call f us) (EP X pins σ Q) X.xe s
def TruR (X : Cx) (r : V → Hp → (Bool → Hp → Prop) → Prop) : Prop :=
  ∀ (pins : List (Addr × Obj)) (s : Shared) (σ : St) (H : Hp) (x : V) (v : Value) (Q : Bool → Hp → Prop), Inv X pins σ H s → RelV x v → r x H Q →
    wpAny (model X.prog X.w) X.A (truthy v) (TP X pins σ Q) X.xe s

def tOp (r : R2) (ta tb : TE) : TE := fun σ H Q => ta σ H fun x H1 => tb σ H1 fun y H2 => r x y H2 Q
def tUn (r : V → Hp → VK → Prop) (ta : TE) : TE := fun σ H Q => ta σ H fun x H1 => r x H1 Q
def rI (C : Int → Int → Prop) (g : Int → Int → V) : R2 := fun x y H Q => ∃ i j, x = .int i ∧ y = .int j ∧ C i j ∧ Q (g i j) H
def rI0 (g : Int → Int → V) : R2 := fun x y H Q => ∃ i j, x = .int i ∧ y = .int j ∧ Q (g i j) H
def rU (g : Int → V) : V → Hp → VK → Prop := fun x H Q => ∃ i, x = .int i ∧ Q (g i) H

section
variable {X : Cx} {a b c : Expr} {ta tb tc : TE} {pos : Pos}

theorem binT (ha : PE X a ta) (hb : PE X b tb) {pins : List (Addr × Obj)} {s : Shared} {σ : St} {H : Hp} {R : V → V → Hp → Prop} (I : Inv X pins σ H s)
    (h : ta σ H fun x H1 => tb σ H1 fun y H2 => R x y H2) {Q : Value → Shared → Prop} {f : Value → Value → Sem Value}
    (hf : ∀ v u s2 x y H2, Inv X pins σ H2 s2 → RelV x v → RelV y u → R x y H2 → wpAny (model X.prog X.w) X.A (f v u) Q X.xe s2) :
    wpAny (model X.prog X.w) X.A (eval a X.env) (fun v s₁ => wpAny (model X.prog X.w) X.A (eval b X.env) (fun u s₂ => wpAny (model X.prog X.w) X.A (f v u) Q X.xe s₂) X.xe s₁) X.xe s := by
  refine thn (ha pins s σ H _ I h) fun v s1 ⟨x, H1, I1, r1, q1⟩ => ?_
  refine thn (hb pins s1 σ H1 _ I1 q1) fun u s2 ⟨y, H2, I2, r2, q2⟩ => ?_
  exact hf v u s2 x y H2 I2 r1 r2 q2

theorem pe_op {op : Operator} {r : R2} (ho : OpR X (binaryOp op) r) (ha : PE X a ta) (hb : PE X b tb) : PE X (.BinOp a op b pos) (tOp r ta tb) := by
  intro pins s σ H Q I h
  exact wpAny_BinOp (binT ha hb I h fun v u s2 x y H2 I2 rx ry q => ho pins s2 σ H2 x y v u Q I2 rx ry q)
theorem opI {f : Value → Value → Sem Value} {C : Int → Int → Prop} {g : Int → Int → Int}
    (rule : ∀ (i j : Int) (t u : Tok) (s : Shared) (Q : Value → Shared → Prop) (E : Value → Shared → Prop), C i j → Q (.int (g i j) s.toks) { s with toks := s.toks + 1 } → wpAny (model X.prog X.w) X.A (f (.int i t) (.int j u)) Q E s) :
    OpR X f (rI C fun i j => .int (g i j)) := by
  intro pins s σ H x y v u Q I rx ry h
  obtain ⟨i, j, rfl, rfl, hc, q⟩ := h
  obtain ⟨t, rfl⟩ := rx
  obtain ⟨t', rfl⟩ := ry
  exact rule i j t t' s _ _ hc ⟨.int (g i j), H, I.tok _, ⟨_, rfl⟩, q⟩
theorem opI0 {f : Value → Value → Sem Value} {g : Int → Int → Int}
    (rule : ∀ (i j : Int) (t u : Tok) (s : Shared) (Q : Value → Shared → Prop) (E : Value → Shared → Prop), Q (.int (g i j) s.toks) { s with toks := s.toks + 1 } → wpAny (model X.prog X.w) X.A (f (.int i t) (.int j u)) Q E s) :
    OpR X f (rI0 fun i j => .int (g i j)) := by
  intro pins s σ H x y v u Q I rx ry h
  obtain ⟨i, j, rfl, rfl, q⟩ := h
  obtain ⟨t, rfl⟩ := rx
  obtain ⟨t', rfl⟩ := ry
  exact rule i j t t' s _ _ ⟨.int (g i j), H, I.tok _, ⟨_, rfl⟩, q⟩
theorem opB0 {f : Value → Value → Sem Value} {g : Int → Int → Bool}
    (rule : ∀ (i j : Int) (t u : Tok) (s : Shared) (Q : Value → Shared → Prop) (E : Value → Shared → Prop), Q (.bool (g i j)) s → wpAny (model X.prog X.w) X.A (f (.int i t) (.int j u)) Q E s) :
    OpR X f (rI0 fun i j => .bl (g i j)) := by
  intro pins s σ H x y v u Q I rx ry h
  obtain ⟨i, j, rfl, rfl, q⟩ := h
  obtain ⟨t, rfl⟩ := rx
  obtain ⟨t', rfl⟩ := ry
  exact rule i j t t' s _ _ ⟨.bl (g i j), H, I, rfl, q⟩

def CDiv (i j : Int) : Prop := 0 < j ∧ j < 1073741824
def CDivN (i j : Int) : Prop := j ≠ 0 ∧ j.natAbs < 1073741824
def CPow (i j : Int) : Prop := 0 ≤ j ∧ j ≤ 1000000 ∧ i.natAbs < 2 ^ 64
def CMul (i j : Int) : Prop := (-(2 ^ 64) < i ∧ i < 2 ^ 64) ∨ (-(2 ^ 64) < j ∧ j < 2 ^ 64)
theorem CMul.ok {i j : Int} (h : CMul i j) : IntMulOk i j := by
  rcases h with ⟨h1, h2⟩ | ⟨h1, h2⟩
  · exact .of_left (intBits_le_64 h1 h2)
  · exact .of_right (intBits_le_64 h1 h2)
theorem op_add : OpR X (binaryOp .Add) (rI0 fun i j => .int (i + j)) := opI0 fun _ _ _ _ _ _ _ q => add_int q
theorem op_sub : OpR X (binaryOp .Sub) (rI0 fun i j => .int (i - j)) := opI0 fun _ _ _ _ _ _ _ q => sub_int q
theorem op_mul : OpR X (binaryOp .Mult) (rI CMul fun i j => .int (i * j)) := opI fun _ _ _ _ _ _ _ hc q => mul_int q hc.ok
theorem op_fdiv : OpR X (binaryOp .FloorDiv) (rI CDiv fun i j => .int (i / j)) := opI fun i j _ _ _ _ _ hc q => by
  have h1 : (0 : Int) < j := hc.1
  have h2 : j < 1073741824 := hc.2
  exact floordiv_int (by omega) (by rw [Int.fdiv_eq_ediv_of_nonneg i (by omega)]; exact q) (.inl (PyProof.noPylong_small (by omega)))
theorem op_mod : OpR X (binaryOp .Mod) (rI (fun _ j => 0 < j) fun i j => .int (i % j)) := opI fun i j _ _ _ _ _ hc q => by
  have h1 : (0 : Int) < j := hc
  exact mod_int' (by omega) (by rw [Int.fmod_eq_emod_of_nonneg i (by omega)]; exact q)
theorem op_pow : OpR X (binaryOp .Pow) (rI CPow fun i j => .int (i ^ j.toNat)) := opI fun _ _ _ _ _ _ _ hc q => pow_int_small hc.1 hc.2.1 hc.2.2 q
theorem op_shl : OpR X (binaryOp .LShift) (rI CPow fun i j => .int (i * 2 ^ j.toNat)) := opI fun _ _ _ _ _ _ _ hc q => lshift_int_small hc.1 hc.2.1 hc.2.2 q
theorem op_and : OpR X (binaryOp .BitAnd) (rI0 fun i j => .int (Builtin.bitAnd i j)) := opI0 fun _ _ _ _ _ _ _ q => and_int q
end

def scal : V → V → Bool
  | .non, .non => true | .non, .int _ => true | .int _, .non => true | .non, .bl _ => true | .bl _, .non => true | .non, .str _ => true | .str _, .non => true
  | .int _, .int _ => true | .bl _, .bl _ => true | .str _, .str _ => true | .byt _, .byt _ => true
  | .int _, .str _ => true | .str _, .int _ => true | .bl _, .str _ => true | .str _, .bl _ => true
  | _, _ => false
def rEq : R2 := fun x y H Q => scal x y = true ∧ Q (.bl (decide (x = y))) H
def rNe : R2 := fun x y H Q => scal x y = true ∧ Q (.bl (!decide (x = y))) H

theorem dec_int {i j : Int} : decide (V.int i = V.int j) = (i == j) := by
  rw [Bool.eq_iff_iff]
  simp
theorem dec_bl {i j : Bool} : decide (V.bl i = V.bl j) = (i == j) := by
  rw [Bool.eq_iff_iff]
  simp
theorem dec_str {i j : Str} : decide (V.str i = V.str j) = (i == j) := by
  rw [Bool.eq_iff_iff]
  simp
theorem dec_byt {i j : Array UInt8} : decide (V.byt i = V.byt j) = (i.toList == j.toList) := by
  rw [Bool.eq_iff_iff]
  cases i
  cases j
  simp

section
variable {X : Cx} {a b c : Expr} {ta tb tc : TE} {pos : Pos}
theorem fin_bl {pins : List (Addr × Obj)} {σ : St} {H : Hp} {s : Shared} {Q : VK} {k k' : Bool} (I : Inv X pins σ H s) (q : Q (.bl k) H) (e : k = k') : EP X pins σ Q (.bool k') s := by
  subst e
  exact ⟨.bl k, H, I, rfl, q⟩
theorem op_eq : OpR X (compareOp .Eq) rEq := by
  intro pins s σ H x y v u Q I rx ry h
  obtain ⟨hs, q⟩ := h
  cases x with
  | non =>
    cases rx
    cases y with
    | non => cases ry; exact PySem.EqNone.eq_none_none (fin_bl I q (by simp))
    | bl j => cases ry; exact PySem.EqNone.eq_none_bool (fin_bl I q (by simp))
    | int j => obtain ⟨t', rfl⟩ := ry; exact PySem.EqNone.eq_none_int (fin_bl I q (by simp))
    | str j => obtain ⟨t', rfl⟩ := ry; exact PySem.EqNone.eq_none_str (fin_bl I q (by simp))
    | _ => exact absurd (show false = true from hs) Bool.false_ne_true
  | bl i =>
    cases rx
    cases y with
    | non => cases ry; exact PySem.EqNone.eq_bool_none (fin_bl I q (by simp))
    | bl j => cases ry; exact eq_bool (fin_bl I q dec_bl)
    | str j => obtain ⟨t', rfl⟩ := ry; exact PySem.EqMixed.eq_bool_str (fin_bl I q (by simp))
    | _ => exact absurd (show false = true from hs) Bool.false_ne_true
  | int i =>
    obtain ⟨t, rfl⟩ := rx
    cases y with
    | non => cases ry; exact PySem.EqNone.eq_int_none (fin_bl I q (by simp))
    | int j => obtain ⟨t', rfl⟩ := ry; exact eq_int (fin_bl I q dec_int)
    | str j => obtain ⟨t', rfl⟩ := ry; exact PySem.EqMixed.eq_int_str (fin_bl I q (by simp))
    | _ => exact absurd (show false = true from hs) Bool.false_ne_true
  | str i =>
    obtain ⟨t, rfl⟩ := rx
    cases y with
    | non => cases ry; exact PySem.EqNone.eq_str_none (fin_bl I q (by simp))
    | bl j => cases ry; exact PySem.EqMixed.eq_str_bool (fin_bl I q (by simp))
    | int j => obtain ⟨t', rfl⟩ := ry; exact PySem.EqMixed.eq_str_int (fin_bl I q (by simp))
    | str j => obtain ⟨t', rfl⟩ := ry; exact eq_str (fin_bl I q dec_str)
    | _ => exact absurd (show false = true from hs) Bool.false_ne_true
  | byt i =>
    obtain ⟨t, rfl⟩ := rx
    cases y with
    | byt j => obtain ⟨t', rfl⟩ := ry; exact PySem.W.eq_bytes (fin_bl I q dec_byt)
    | _ => exact absurd (show false = true from hs) Bool.false_ne_true
  | _ => cases y <;> exact absurd (show false = true from hs) Bool.false_ne_true
theorem op_ne : OpR X (compareOp .NotEq) rNe := by
  intro pins s σ H x y v u Q I rx ry h
  obtain ⟨hs, q⟩ := h
  cases x with
  | non =>
    cases rx
    cases y with
    | non => cases ry; exact PySem.EqNone.ne_none_none (fin_bl I q (by simp))
    | bl j => cases ry; exact PySem.EqNone.ne_none_bool (fin_bl I q (by simp))
    | int j => obtain ⟨t', rfl⟩ := ry; exact PySem.EqNone.ne_none_int (fin_bl I q (by simp))
    | str j => obtain ⟨t', rfl⟩ := ry; exact PySem.EqNone.ne_none_str (fin_bl I q (by simp))
    | _ => exact absurd (show false = true from hs) Bool.false_ne_true
  | bl i =>
    cases rx
    cases y with
    | non => cases ry; exact PySem.EqNone.ne_bool_none (fin_bl I q (by simp))
    | bl j => cases ry; exact ne_bool (fin_bl I q (congrArg not dec_bl))
    | str j => obtain ⟨t', rfl⟩ := ry; exact PySem.EqMixed.ne_bool_str (fin_bl I q (by simp))
    | _ => exact absurd (show false = true from hs) Bool.false_ne_true
  | int i =>
    obtain ⟨t, rfl⟩ := rx
    cases y with
    | non => cases ry; exact PySem.EqNone.ne_int_none (fin_bl I q (by simp))
    | int j => obtain ⟨t', rfl⟩ := ry; exact ne_int (fin_bl I q (congrArg not dec_int))
    | str j => obtain ⟨t', rfl⟩ := ry; exact PySem.EqMixed.ne_int_str (fin_bl I q (by simp))
    | _ => exact absurd (show false = true from hs) Bool.false_ne_true
  | str i =>
    obtain ⟨t, rfl⟩ := rx
    cases y with
    | non => cases ry; exact PySem.EqNone.ne_str_none (fin_bl I q (by simp))
    | bl j => cases ry; exact PySem.EqMixed.ne_str_bool (fin_bl I q (by simp))
    | int j => obtain ⟨t', rfl⟩ := ry; exact PySem.EqMixed.ne_str_int (fin_bl I q (by simp))
    | str j => obtain ⟨t', rfl⟩ := ry; exact ne_str (fin_bl I q (congrArg not dec_str))
    | _ => exact absurd (show false = true from hs) Bool.false_ne_true
  | byt i =>
    obtain ⟨t, rfl⟩ := rx
    cases y with
    | byt j => obtain ⟨t', rfl⟩ := ry; exact PySem.W.ne_bytes (fin_bl I q (congrArg not dec_byt))
    | _ => exact absurd (show false = true from hs) Bool.false_ne_true
  | _ => cases y <;> exact absurd (show false = true from hs) Bool.false_ne_true

theorem op_lt : OpR X (compareOp .Lt) (rI0 fun i j => .bl (decide (i < j))) := opB0 fun _ _ _ _ _ _ _ q => lt_int q
theorem op_gt : OpR X (compareOp .Gt) (rI0 fun i j => .bl (decide (j < i))) := opB0 fun _ _ _ _ _ _ _ q => gt_int q
theorem op_ge : OpR X (compareOp .GtE) (rI0 fun i j => .bl (decide (j ≤ i))) := opB0 fun _ _ _ _ _ _ _ q => ge_int q
theorem op_isN : OpR X (compareOp .Is) (fun x y H Q => y = .non ∧ Q (.bl (decide (x = .non))) H) := by
  intro pins s σ H x y v u Q I rx ry h
  obtain ⟨rfl, q⟩ := h
  cases ry
  refine is_none_gen (fin_bl I q ?_)
  cases x <;> first
    | (cases rx; rfl)
    | (obtain ⟨t, rfl⟩ := rx; rfl)
def isObj : HO → Bool
  | .lst _ => true
  | .ins _ _ _ => true
  | _ => false
theorem obj_there {pins : List (Addr × Obj)} {s : Shared} {σ : St} {H : Hp} {a : Addr} {o : HO} (I : Inv X pins σ H s) (h : H a = some o) (p : isObj o = true) : ∃ ob, s.heap.get? a = some ob ∧ ob.cls ≠ .type "tuple" := by
  cases o with
  | lst xs =>
    obtain ⟨_, its, n, _, e⟩ : xs.length ≤ sizeLine ∧ ∃ (its : List Value) (n : Nat), Vals xs its ∧ s.heap.get? a = some { cls := .type "list", data := .seq its.toArray n } := I.hok a _ h
    exact ⟨_, e, (by show Value.type "list" ≠ .type "tuple"; decide +kernel)⟩
  | ins C dx fs =>
    have x := I.hok a _ h
    obtain ⟨_, _, _, e, _⟩ := x
    exact ⟨_, e, (by show Value.ref C ≠ .type "tuple"; exact fun z => by cases z)⟩
  | _ => exact absurd (show false = true from p) Bool.false_ne_true
theorem nomark (b : Expr) {op : CmpOp} (h : op ≠ .In := by decide) (h2 : op ≠ .NotIn := by decide) : behindInMarks op b = false := by
  have e1 : (op == CmpOp.In) = false := by cases op <;> first | rfl | exact absurd rfl h
  have e2 : (op == CmpOp.NotIn) = false := by cases op <;> first | rfl | exact absurd rfl h2
  cases b <;> simp [behindInMarks, e1, e2]
theorem pe_cmpR {op : CmpOp} {r : R2} (ho : OpR X (compareOp op) r) (ha : PE X a ta) (hb : PE X b tb) (hm : behindInMarks op b = false) : PE X (.Compare a [op] [b] pos) (tOp r ta tb) := by
  intro pins s σ H Q I h
  exact wpAny_Compare1 (binT ha hb I h fun v u s2 x y H2 I2 rx ry q => ho pins s2 σ H2 x y v u Q I2 rx ry q) hm
def tTest (t : TE) : TT := fun σ H Q => t σ H fun x H' => ∃ k, x = .bl k ∧ Q k H'
theorem pt_cmpR {op : CmpOp} {r : R2} (ho : OpR X (compareOp op) r) (ha : PE X a ta) (hb : PE X b tb) (hm : behindInMarks op b = false) : PT X (.Compare a [op] [b] pos) (tTest (tOp r ta tb)) := by
  intro pins s σ H Q I h
  refine wpAny_isTrue_Compare1 (thn (ha pins s σ H _ I h) fun v s1 ⟨x, H1, I1, r1, q1⟩ => thn (hb pins s1 σ H1 _ I1 q1) fun u s2 ⟨y, H2, I2, r2, q2⟩ =>
    thn (ho pins s2 σ H2 x y v u _ I2 r1 r2 q2) fun c s3 ⟨z, H3, I3, r3, k, e, q3⟩ => ?_) hm
  subst e
  cases r3
  exact wpAny_truthy_bool ⟨H3, I3, q3⟩
def tChain (r r' : R2) (ta tb tc : TE) : TE := fun σ H Q => ta σ H fun x H1 => tb σ H1 fun y H2 => r x y H2 fun z H3 => ∃ k, z = .bl k ∧
  (if k = true then tc σ H3 fun w' H4 => r' y w' H4 Q else Q (.bl false) H3)
def TruV (K : PySem.W.Frag) (x : V) (H : Hp) (k : Bool) : Prop :=
  match x with
  | .non => k = false
  | .bl b => k = b
  | .int i => k = (i != 0)
  | .str y => y.length ≤ sizeLine ∧ k = ((y.length : Int) != 0)
  | .byt y => y.size ≤ sizeLine ∧ k = ((y.size : Int) != 0)
  | .ref p => (∃ xs, SqL K H p xs ∧ k = !xs.isEmpty) ∨ (∃ xs, SqT K H p xs ∧ k = !xs.isEmpty) ∨ ∃ kvs, H p = some (.dK kvs) ∧ k = !kvs.isEmpty
  | _ => False
theorem line63 : (sizeLine : Nat) < 2 ^ 63 := by rw [sizeLine_eq]; decide
theorem op_add_str : OpR X (binaryOp .Add) (fun x y H Q => ∃ i j, x = .str i ∧ y = .str j ∧ i.length + j.length ≤ sizeLine ∧ Q (.str (i ++ j)) H) := by
  intro pins s σ H x y v u Q I rx ry h
  obtain ⟨i, j, rfl, rfl, hz, q⟩ := h
  obtain ⟨t, rfl⟩ := rx
  obtain ⟨t', rfl⟩ := ry
  exact add_str (fun t' tk => ⟨.str (i ++ j), H, I.tok _, ⟨_, rfl⟩, q⟩) hz
def PlainIxT (b : Expr) : Prop := ∀ o i, subscripted b false o i = operate [o, i] (getItem o i)
theorem vals1 {x : V} {us : List Value} (r : Vals [x] us) : ∃ u, us = [u] ∧ RelV x u := by
  cases r with
  | cons r1 r2 => cases r2; exact ⟨_, rfl, r1⟩
theorem vals2 {x y : V} {us : List Value} (r : Vals [x, y] us) : ∃ u w', us = [u, w'] ∧ RelV x u ∧ RelV y w' := by
  cases r with
  | cons r1 r2 =>
    cases r2 with
    | cons r3 r4 => cases r4; exact ⟨_, _, rfl, r1, r3⟩
def LenV (K : PySem.W.Frag) (x : V) (H : Hp) (n : Nat) : Prop :=
  match x with
  | .str y => y.length ≤ sizeLine ∧ n = y.length
  | .byt y => y.size ≤ sizeLine ∧ n = y.size
  | .ref p => (∃ xs, SqL K H p xs ∧ n = xs.length) ∨ ∃ xs, SqT K H p xs ∧ n = xs.length
  | _ => False
end
end L2

namespace L2
open PySem PySem.Spec PyProof.Rows

structure ObjM (h : Heap) (x dx C : Addr) (mA : Str → Option Value) : Prop where
  obj : h.get? x = some (PySem.W.instObj C dx)
  ns : h.Ns1 dx mA
  ne : dx ≠ x

theorem lookIn_ns {h : Heap} {dx : Addr} {mA : Str → Option Value} (n : h.Ns1 dx mA) : ∃ od, h.get? dx = some od ∧ ∀ name, PySem.W.lookIn name od = some (mA name) := by
  obtain ⟨o, es, ep, ho, hd, hk, _, hm⟩ := n
  refine ⟨o, ho, fun name => ?_⟩
  have e := hm name
  unfold nsFind findBy at e
  rw [← Array.find?_toList] at e
  unfold PySem.W.lookIn
  rw [hd]
  dsimp only
  split
  · rename_i y q
    rw [q] at e
    exact congrArg some e
  · rename_i q
    rw [q] at e
    have a : es.toList.any (·.refKey) = false := by
      rw [List.any_eq_false]
      intro y hy
      obtain ⟨z, t, hkey⟩ := hk y (Array.mem_toList_iff.mp hy)
      simp [DictEntry.refKey, hkey]
    have a' : ¬ es.toList.any (·.refKey) = true := by rw [a]; exact Bool.false_ne_true
    rw [if_neg a']
    exact congrArg some e

theorem ObjM.look {h : Heap} {x dx C : Addr} {mA : Str → Option Value} (I : ObjM h x dx C mA) : ∃ od, PySem.W.InstAt h x (PySem.W.instObj C dx) C (some od) ∧ ∀ name, PySem.W.lookIn name od = some (mA name) :=
  let ⟨od, ho, hl⟩ := lookIn_ns I.ns
  ⟨od, ⟨I.obj, rfl, rfl, ho⟩, hl⟩

section
variable {prog : Program} {w : World} {A : Around} {E : Value → Shared → Prop} {s : Shared} {K : PySem.W.Frag} {x dx C f : Addr} {mA : Str → Option Value} {name : Str} {v : Value}

theorem get_map {expr : Bool} {Q : Value → Shared → Prop} (X : K.In s.heap) (I : ObjM s.heap x dx C mA) (hg : PySem.W.plainGet K C name = true) (hh : PySem.W.hasDictIn K C = true)
    (ha : PySem.W.findIn K (.ref C) name = some none) (hv : mA name = some v) (hv' : PySem.W.handedIn v = true) (h : Q v { s with toks := s.toks + 1 }) :
    wpAny (model prog w) A (getAttr (.ref x) name expr) Q E s := by
  obtain ⟨od, J, hl⟩ := I.look
  exact PySem.W.get_value X J (PySem.W.plainGet_of hg).1 (PySem.W.findObj_own hh ha rfl (by rw [hl, hv])) hv' h

theorem get_meth {pl : Sem Bool} {Q : Value × List Value → Shared → Prop} (X : K.In s.heap) (I : ObjM s.heap x dx C mA) (hg : PySem.W.plainGet K C name = true)
    (hf : PySem.W.findIn K (.ref C) name = some (some (.ref f))) (ht : PySem.W.isFn K (.ref f) = true) (hv : mA name = none) (h : Q (.ref f, [.ref x]) s) :
    wpAny (model prog w) A (getMethod (.ref x) name pl) Q E s := by
  obtain ⟨od, J, hl⟩ := I.look
  exact PySem.W.method_fn X J (PySem.W.plainGet_of hg).1 (PySem.W.plainGet_of hg).2 hf (beq_iff_eq.mp ht) (by show (PySem.W.lookIn name od).map (·.isSome) = some false; rw [hl, hv]; rfl) h

theorem set_map {ns : List Str} {Q : Unit → Shared → Prop} (X : K.In s.heap) (I : ObjM s.heap x dx C mA)
    (hs : PySem.W.findIn K (.ref C) "__setattr__" = some (some (.builtin "object.__setattr__"))) (hp : PySem.W.plainOver K C = true) (ht : PySem.W.takerIn K C name = some none) (hh : PySem.W.hasDictIn K C = true)
    (hw : PySem.Within mA ns) (hsz : ns.length ≤ sizeLine)
    (h : ∀ h', ObjM h' x dx C (fun y => if y = name then some v else mA y) → Heap.SameBut dx s.heap h' → Q () { s with heap := h', toks := s.toks + 2 }) :
    wpAny (model prog w) A (setAttr (.ref x) name v) Q E s := by
  obtain ⟨od, J, hl⟩ := I.look
  refine PySem.W.set_plain X J hs (PySem.W.osa_open (s := { s with toks := s.toks + 1 }) (r := none) X J hp ht fun b => ?_)
  obtain ⟨cd, hc, hd'⟩ := PySem.W.any_some hh
  have hx : s.heap.get? x = some ⟨.ref C, some dx, .plain, #[]⟩ := I.obj
  refine wpAny_bind (wpAny_pure (wpAny_bind (wpAny_bind (wpAny_loadPart hx (wpAny_bind (PySem.W.Looks.here (s := { s with toks := s.toks + 1 }) (PySem.W.looks_clsIn X hc) ?_))))))
  rw [hd']
  refine wpAny_pure (a := some dx) (wpAny_bind (wpAny_pure (wpAny_bind ?_)))
  refine wpAny_nsSet1 (s := { s with toks := s.toks + 1 }) I.ns fun h' hn2 hs2 => ?_
  obtain ⟨oD, esD, epD, hoD, hdD, hcD⟩ := hn2.count (PySem.Within.cons name v hw)
  refine wpAny_bind (wpAny_lookBehind hoD (by rw [hdD]; exact pastItsLine_dict (Nat.le_trans hcD (by rw [List.length_cons]; omega))) ?_)
  exact wpAny_pure (h _ ⟨(hs2.2 _ (Ne.symm I.ne)).trans I.obj, hn2, I.ne⟩ hs2)

theorem make_map {R : Result → Shared → Prop} {vs : List Value} {kw : List (Str × Value)} (X : K.In s.heap) (hm : PySem.W.makesIn K C = true)
    (hi : PySem.W.findIn K (.ref C) "__init__" = some (some (.ref f))) (hf : PySem.W.typeIn K (.ref f) = some (.type "function"))
    (h : codeAny (model prog w) (A.under (.builtin "type.__call__" ⟨.ref C :: vs, kw⟩)) (.call (.ref f) ⟨.ref (s.heap.objs.size + 1) :: vs, kw⟩) (PySem.W.InitBack (s.heap.objs.size + 1) R)
      { s with heap := (s.heap.push PySem.W.emptyDict).push (PySem.W.instObj C s.heap.objs.size) }) :
    codeAny (model prog w) A (.call (.ref C) ⟨vs, kw⟩) R s := by
  obtain ⟨hh, g, d, t, os⟩ := s
  exact PySem.W.make_core (PySem.W.makes_of X hm) (PySem.W.looks_findIn X hi) (fun self => PySem.W.bind_fn X self hf) (.inl rfl) h
theorem make_map0 {R : Result → Shared → Prop} (X : K.In s.heap) (hm : PySem.W.makesIn K C = true)
    (hi : PySem.W.findIn K (.ref C) "__init__" = some (some (.builtin "object.__init__")))
    (hb : ∀ self, PySem.W.Looks (model prog w) s.heap (bindSpecial (.builtin "object.__init__") self) (.builtin "object.__init__", [self]))
    (h : codeAny (model prog w) (A.under (.builtin "type.__call__" ⟨[.ref C], []⟩)) (.call (.builtin "object.__init__") ⟨[.ref (s.heap.objs.size + 1)], []⟩) (PySem.W.InitBack (s.heap.objs.size + 1) R)
      { s with heap := (s.heap.push PySem.W.emptyDict).push (PySem.W.instObj C s.heap.objs.size) }) :
    codeAny (model prog w) A (.call (.ref C) ⟨[], []⟩) R s := by
  obtain ⟨hh, g, d, t, os⟩ := s
  exact PySem.W.make_core (PySem.W.makes_of X hm) (PySem.W.looks_findIn X hi) hb (.inr ⟨rfl, rfl⟩) h
end

def putF (f : Str) (v : V) : List (Str × V) → List (Str × V)
  | [] => [(f, v)]
  | (g, x) :: r => if g = f then (g, v) :: r else (g, x) :: putF f v r
theorem lookup_putF (f g : Str) (v : V) : ∀ fs : List (Str × V), (putF f v fs).lookup g = if g = f then some v else fs.lookup g
  | [] => by
    show List.lookup g [(f, v)] = _
    by_cases h : g = f
    · have hb : (g == f) = true := beq_iff_eq.mpr h
      simp only [List.lookup, hb, if_pos h]
    · have hb : (g == f) = false := beq_eq_false_iff_ne.mpr h
      simp only [List.lookup, hb, if_neg h]
  | (k, x) :: r => by
    have ih := lookup_putF f g v r
    rw [show putF f v ((k, x) :: r) = (if k = f then (k, v) :: r else (k, x) :: putF f v r) from rfl]
    by_cases hk : k = f
    · rw [if_pos hk]
      by_cases h : g = k
      · have hb : (g == k) = true := beq_iff_eq.mpr h
        simp only [List.lookup, hb, if_pos (h.trans hk)]
      · have hb : (g == k) = false := beq_eq_false_iff_ne.mpr h
        simp only [List.lookup, hb, if_neg (fun e : g = f => h (e.trans hk.symm))]
    · rw [if_neg hk]
      by_cases h : g = k
      · have hb : (g == k) = true := beq_iff_eq.mpr h
        simp only [List.lookup, hb, if_neg (fun e : g = f => hk (h.symm.trans e))]
      · have hb : (g == k) = false := beq_eq_false_iff_ne.mpr h
        simp only [List.lookup, hb]
        exact ih
theorem keys_putF (f : Str) (v : V) : ∀ fs : List (Str × V), f ∈ (putF f v fs).map (·.1) ∧ ∀ g, g ∈ fs.map (·.1) → g ∈ (putF f v fs).map (·.1)
  | [] => ⟨by simp [putF], fun g h => by simp at h⟩
  | (k, x) :: r => by
    obtain ⟨i1, i2⟩ := keys_putF f v r
    rw [show putF f v ((k, x) :: r) = (if k = f then (k, v) :: r else (k, x) :: putF f v r) from rfl]
    by_cases hk : k = f
    · rw [if_pos hk]
      subst hk
      exact ⟨by simp, fun g h => by simpa using h⟩
    · rw [if_neg hk]
      refine ⟨?_, fun g h => ?_⟩
      · rw [List.map_cons]
        exact List.mem_cons_of_mem _ i1
      · rw [List.map_cons] at h ⊢
        rcases List.mem_cons.mp h with e | e
        · exact List.mem_cons.mpr (.inl e)
        · exact List.mem_cons_of_mem _ (i2 g e)
theorem length_putF (f : Str) (v : V) : ∀ fs : List (Str × V), (putF f v fs).length ≤ fs.length + 1
  | [] => by simp [putF]
  | (k, x) :: r => by
    have ih := length_putF f v r
    rw [show putF f v ((k, x) :: r) = (if k = f then (k, v) :: r else (k, x) :: putF f v r) from rfl]
    by_cases hk : k = f
    · rw [if_pos hk, List.length_cons, List.length_cons]; omega
    · rw [if_neg hk, List.length_cons, List.length_cons]; omega

theorem RelO.some_of {v : V} {o : Option Value} (r : RelO (some v) o) : ∃ u, o = some u ∧ RelV v u := by
  cases o with
  | none => exact (show False from r).elim
  | some u => exact ⟨u, rfl, r⟩
theorem RelO.none_of {o : Option Value} (r : RelO none o) : o = none := by
  cases o with
  | none => rfl
  | some u => exact (show False from r).elim
theorem handed_of {v : V} {u : Value} (r : RelV v u) : PySem.W.handedIn u = true := by
  cases v with
  | non => cases (show u = Value.none from r); rfl
  | bl b => cases (show u = Value.bool b from r); rfl
  | int i => obtain ⟨t, e⟩ := (show ∃ t, u = Value.int i t from r); cases e; rfl
  | str x => obtain ⟨t, e⟩ := (show ∃ t, u = Value.str x t from r); cases e; rfl
  | byt b => obtain ⟨t, e⟩ := (show ∃ t, u = Value.bytes b t from r); cases e; rfl
  | flt b => obtain ⟨t, e⟩ := (show ∃ t, u = Value.float b t from r); cases e; rfl
  | ref a => cases (show u = Value.ref a from r); rfl
  | ty n => cases (show u = Value.type n from r); rfl

section
variable {P : Program} {w : World} {H H' : Hp} {h h' : Heap} {a C dx : Addr} {fs fs' : List (Str × V)}
theorem ins_get (hok : HOk P w H h) (e : H a = some (.ins C dx fs)) : ∃ mA, ObjM h a dx C mA ∧ (∀ f, RelO (fs.lookup f) (mA f)) ∧ PySem.Within mA (fs.map (·.1)) ∧ fs.length ≤ 1000 ∧ H dx = some (.own a) := by
  obtain ⟨d, z, ne, ob, mA, n, r, q⟩ := (show ObjOk P w H h a (.ins C dx fs) from hok a _ e)
  exact ⟨mA, ⟨ob, n, ne⟩, r, q, z, d⟩
end

structure Cls (K : PySem.W.Frag) (C : Addr) : Prop where
  pg : PySem.W.plainGet K C Str.empty = true
  hd : PySem.W.hasDictIn K C = true
  po : PySem.W.plainOver K C = true
  sa : PySem.W.findIn K (.ref C) "__setattr__" = some (some (.builtin "object.__setattr__"))
theorem Cls.get {K : PySem.W.Frag} {C : Addr} (c : Cls K C) (f : Str) : PySem.W.plainGet K C f = true := c.pg
def NoAttr (K : PySem.W.Frag) (C : Addr) (f : Str) : Prop := PySem.W.findIn K (.ref C) f = some none
theorem NoAttr.taker {K : PySem.W.Frag} {C : Addr} {f : Str} (n : NoAttr K C f) : PySem.W.takerIn K C f = some none := by
  unfold PySem.W.takerIn
  rw [show PySem.W.findIn K (.ref C) f = some none from n]
  rfl
structure Con (K : PySem.W.Frag) (C : Addr) (f : Str) (v : V) (u : Value) : Prop where
  at_ : PySem.W.findIn K (.ref C) f = some (some u)
  rel : RelV v u
  get : PySem.W.specialIn K u "__get__" = some none
  cp : PySem.W.copiedNames.contains f = false
structure Meth (K : PySem.W.Frag) (C : Addr) (m : Str) (f : Addr) : Prop where
  at_ : PySem.W.findIn K (.ref C) m = some (some (.ref f))
  fn : PySem.W.isFn K (.ref f) = true
  kp : PySem.W.keepIn K (.ref f) = true

section
variable {X : Cx} {pins : List (Addr × Obj)} {σ : St} {H : Hp} {s : Shared} {a C dx : Addr} {fs : List (Str × V)} {f : Str} {v : V} {A : Around} {E : Value → Shared → Prop}

theorem getattr_ok {b : Bool} {Q : Value → Shared → Prop} (I : Inv X pins σ H s) (e : H a = some (.ins C dx fs)) (c : Cls X.K C) (n : NoAttr X.K C f) (l : fs.lookup f = some v)
    (h : ∀ u s', Inv X pins σ H s' → RelV v u → Q u s') : wpAny (model X.prog X.w) A (getAttr (.ref a) f b) Q E s := by
  obtain ⟨mA, O, r, _, _, _⟩ := ins_get I.hok e
  obtain ⟨u, hu, ru⟩ := RelO.some_of (v := v) (o := mA f) (by rw [← l]; exact r f)
  exact get_map I.kIn O (c.get f) c.hd n hu (handed_of ru) (h u _ (I.tok _) ru)

theorem getmeth_ok {m : Str} {g : Addr} {pl : Sem Bool} {Q : Value × List Value → Shared → Prop} (I : Inv X pins σ H s) (e : H a = some (.ins C dx fs)) (c : Cls X.K C) (k : Meth X.K C m g) (l : fs.lookup m = none)
    (h : Q (.ref g, [.ref a]) s) : wpAny (model X.prog X.w) A (getMethod (.ref a) m pl) Q E s := by
  obtain ⟨mA, O, r, _, _, _⟩ := ins_get I.hok e
  have hn : mA m = none := RelO.none_of (by rw [← l]; exact r m)
  exact get_meth I.kIn O (c.get m) k.at_ k.fn hn h

theorem setattr_ok {y : V} {u : Value} {Q : Unit → Shared → Prop} (I : Inv X pins σ H s) (e : H a = some (.ins C dx fs)) (c : Cls X.K C) (n : NoAttr X.K C f) (hl : fs.length < 1000) (ry : RelV y u)
    (h : ∀ s', Inv X pins σ (upd H a (.ins C dx (putF f y fs))) s' → Q () s') : wpAny (model X.prog X.w) A (setAttr (.ref a) f u) Q E s := by
  obtain ⟨mA, O, r, wi, _, ho⟩ := ins_get I.hok e
  have hz : (fs.map (·.1)).length ≤ sizeLine := by rw [List.length_map, sizeLine_eq]; omega
  refine set_map I.kIn O c.sa c.po n.taker c.hd wi hz fun h' O' sb => h _ ?_
  have hd : ∃ o, h'.get? dx = some o := let ⟨o, _, _, e', _⟩ := O'.ns; ⟨o, e'⟩
  refine I.write (x := a) (e := dx) (by rw [e]; exact True.intro) (.inr ho) (fun b q hb z => (sb.2 b hb).trans z) hd ?_
  refine ⟨by rw [upd_ne O.ne]; exact ho, ?_, O.ne, O'.obj, _, O'.ns, fun g => ?_, fun g hg => ?_⟩
  · have := length_putF f y fs; omega
  · show RelO ((putF f y fs).lookup g) (if g = f then some u else mA g)
    rw [lookup_putF]
    by_cases q : g = f
    · rw [if_pos q, if_pos q]; exact ry
    · rw [if_neg q, if_neg q]; exact r g
  · by_cases q : g = f
    · rw [q]; exact (keys_putF f y fs).1
    · refine (keys_putF f y fs).2 g (wi g fun z => hg ?_)
      show (if g = f then some u else mA g) = none
      rw [if_neg q]; exact z

theorem Inv.made (I : Inv X pins σ H s) : Inv X pins σ (upd (upd H s.heap.objs.size (.own (s.heap.objs.size + 1))) (s.heap.objs.size + 1) (.ins C s.heap.objs.size []))
    { s with heap := (s.heap.push PySem.W.emptyDict).push (PySem.W.instObj C s.heap.objs.size) } := by
  have e1 : (s.heap.push PySem.W.emptyDict).get? s.heap.objs.size = some PySem.W.emptyDict := Heap.get?_push_size s.heap rfl
  have e2 : ((s.heap.push PySem.W.emptyDict).push (PySem.W.instObj C s.heap.objs.size)).get? (s.heap.objs.size + 1) = some (PySem.W.instObj C s.heap.objs.size) := by
    have := Heap.get?_push_size (s.heap.push PySem.W.emptyDict) (o := PySem.W.instObj C s.heap.objs.size) rfl
    rwa [Heap.size_push] at this
  have e3 : (s.heap.push PySem.W.emptyDict).Ns s.heap.objs.size (fun _ => none) := ⟨PySem.W.emptyDict, #[], _, e1, rfl, (fun e he => absurd he (by simp)), fun _ => rfl⟩
  have I1 := I.laid (a := s.heap.objs.size) (o := .own (s.heap.objs.size + 1)) (h' := s.heap.push PySem.W.emptyDict) (t' := s.toks) (fun b u q => Heap.get?_push_of_some _ q) (Nat.le_refl _) ⟨_, e1⟩
  refine I1.laid (a := s.heap.objs.size + 1) (o := .ins C s.heap.objs.size []) (t' := s.toks) (fun b u q => Heap.get?_push_of_some _ q) (Nat.le_of_eq (Heap.size_push _ _)) ?_
  have ne : s.heap.objs.size ≠ s.heap.objs.size + 1 := Nat.ne_of_lt (Nat.lt_succ_self _)
  refine ⟨by rw [upd_ne ne, upd_same], Nat.zero_le _, ne, e2, fun _ => none, (Heap.Ns1.of_empty e3).at fun o q => Heap.get?_push_of_some _ q, fun _ => True.intro, fun y hy => absurd rfl hy⟩

theorem attr_of {prog : Program} {w : World} {env : Env} {e : Expr} {f : Str} {pos : Pos} {s : Shared} {Q : Value → Shared → Prop} (hb : attributeBase e f env (eval e env) = eval e env)
    (h : wpAny (model prog w) A (eval e env) (fun o s₁ => wpAny (model prog w) A (getAttr o f true) Q E s₁) E s) : wpAny (model prog w) A (eval (.Attribute e f pos) env) Q E s :=
  Attribute_any_ h (by rw [arm_eval_Attribute, hb])
end

def tFld (K : PySem.W.Frag) (ta : TE) (f : Str) : TE := fun σ H Q => ta σ H fun x H1 => ∃ a C dx fs v, x = .ref a ∧ H1 a = some (.ins C dx fs) ∧ Cls K C ∧ NoAttr K C f ∧ fs.lookup f = some v ∧ Q v H1
def tCon (K : PySem.W.Frag) (ta : TE) (f : Str) : TE := fun σ H Q => ta σ H fun x H1 => ∃ a C dx fs v u, x = .ref a ∧ H1 a = some (.ins C dx fs) ∧ Cls K C ∧ Con K C f v u ∧ fs.lookup f = none ∧ Q v H1
def sFld (K : PySem.W.Frag) (ta tv : TE) (f : Str) : TS := fun D σ H => tv σ H fun y H1 => ta σ H1 fun x H2 => ∃ a C dx fs, x = .ref a ∧ H2 a = some (.ins C dx fs) ∧ Cls K C ∧ NoAttr K C f ∧ fs.length < 1000 ∧
  D.nx σ (upd H2 a (.ins C dx (putF f y fs)))
def InOp (X : Cx) (op : Operator) (rd : V → V → Hp → VK → Prop) : Prop :=
  ∀ (pins : List (Addr × Obj)) (s : Shared) (σ : St) (H : Hp) (x y : V) (u v : Value) (Q : VK), Inv X pins σ H s → RelV x u → RelV y v → rd x y H Q → wpAny (model X.prog X.w) X.A (inplaceOp op u v) (EP X pins σ Q) X.xe s
def sFldAug (K : PySem.W.Frag) (ta tv : TE) (rd : V → V → Hp → VK → Prop) (f : Str) : TS := fun D σ H => ta σ H fun x H1 => ∃ a C dx fs v, x = .ref a ∧ H1 a = some (.ins C dx fs) ∧ Cls K C ∧ NoAttr K C f ∧ fs.lookup f = some v ∧
  tv σ H1 fun y H2 => rd v y H2 fun z H3 => ∃ dx' fs', H3 a = some (.ins C dx' fs') ∧ fs'.length < 1000 ∧ D.nx σ (upd H3 a (.ins C dx' (putF f z fs')))

section
variable {X : Cx} {o e value : Expr} {f : Str} {pos pos' tpos : Pos} {ta tv : TE}
theorem pe_fld (he : PE X e ta) (hb : attributeBase e f X.env (eval e X.env) = eval e X.env) : PE X (.Attribute e f pos) (tFld X.K ta f) := by
  intro pins s σ H Q I h
  refine attr_of hb (thn (he pins s σ H _ I h) fun u s1 ⟨x, H1, I1, rx, a, C, dx, fs, v, ex, ea, c, n, l, q⟩ => ?_)
  subst ex
  obtain rfl : u = Value.ref a := rx
  exact getattr_ok I1 ea c n l fun u' s2 I2 ru => ⟨v, H1, I2, ru, q⟩
theorem ps_fld (ha : PE X o ta) (hv : PE X value tv) (hs : swapsWith value (some (.Attribute o f pos')) pos.line X.env = pure false) : PS X (.Assign [.Attribute o f pos'] value pos) (sFld X.K ta tv f) := by
  intro pins s σ H D I h
  refine plainObj_wpAny_Assign_Attribute (thn (hv pins s σ H _ I h) fun u s1 ⟨y, H1, I1, ry, q⟩ => thn (ha pins s1 σ H1 _ I1 q) fun ov s2 ⟨x, H2, I2, rx, a, C, dx, fs, ex, ea, c, n, l, q2⟩ => ?_) hs
  subst ex
  obtain rfl : ov = Value.ref a := rx
  exact setattr_ok I2 ea c n l ry fun s3 I3 => ⟨σ, _, I3, q2⟩
def rAdd : V → V → Hp → VK → Prop := fun x y H Q => ∃ i j, x = .int i ∧ y = .int j ∧ Q (.int (i + j)) H
def rSub : V → V → Hp → VK → Prop := fun x y H Q => ∃ i j, x = .int i ∧ y = .int j ∧ Q (.int (i - j)) H
theorem methcall_of {pl : Sem Bool} {m : Str} {apos : Pos} {args : List Expr} {pins : List (Addr × Obj)} {s : Shared} {σ : St} {H : Hp} {Q : Value → Shared → Prop} {te : TE} (he : PE X e te) (I : Inv X pins σ H s)
    (h : te σ H fun x H1 => ∃ a C dx fs g, x = .ref a ∧ H1 a = some (.ins C dx fs) ∧ Cls X.K C ∧ Meth X.K C m g ∧ fs.lookup m = none ∧
      ∀ s1, Inv X pins σ H1 s1 → wpAny (model X.prog X.w) X.A (callWith pos (.ref g) [.ref a] (backTo pos (starEach args X.env)) (backToKw pos (keywordEach [] X.env))) Q X.xe s1)
    (ht : eval (.Call (.Attribute e m apos) args [] pos) X.env = (do
      let ov ← eval e X.env
      standAt apos.atName
      let (f, first) ← holding [ov] (getMethod ov m pl)
      callWith pos f first (backTo pos (starEach args X.env)) (backToKw pos (keywordEach [] X.env)))) :
    wpAny (model X.prog X.w) X.A (eval (.Call (.Attribute e m apos) args [] pos) X.env) Q X.xe s := by
  refine PySem.W.methodCall_KW (pl := pl) (thn (he pins s σ H _ I h) fun u s1 ⟨x, H1, I1, rx, a, C, dx, fs, g, ex, ea, c, k, l, q⟩ => ?_) ht
  subst ex
  obtain rfl : u = Value.ref a := rx
  exact getmeth_ok I1 ea c k l (q s1 I1)
end

section
variable {X : Cx} {pins : List (Addr × Obj)} {σ : St} {H : Hp} {s : Shared} {A : Around} {E : Value → Shared → Prop} {Q : Value → Shared → Prop} {c : Value} {b : Bool}
inductive TyOf (K : PySem.W.Frag) (H : Hp) : V → Value → Prop where
  | non : TyOf K H .non (.type "NoneType")
  | bl (x : Bool) : TyOf K H (.bl x) (.type "bool")
  | int (i : Int) : TyOf K H (.int i) (.type "int")
  | str (x : Str) : TyOf K H (.str x) (.type "str")
  | flt (x : UInt64) : TyOf K H (.flt x) (.type "float")
  | lst {a : Addr} {xs : List V} (e : H a = some (.lst xs)) : TyOf K H (.ref a) (.type "list")
  | frz {a : Addr} {o : Obj} {xs : List V} (e : H a = some (.frz o (.lst xs))) : TyOf K H (.ref a) (.type "list")
  | tup {a : Addr} {xs : List V} (e : H a = some (.tup xs)) : TyOf K H (.ref a) (.type "tuple")
  | dK {a : Addr} {kvs : List (Key × V)} (e : H a = some (.dK kvs)) : TyOf K H (.ref a) (.type "dict")
  | dT {a : Addr} {kvs : List (List Key × V)} (e : H a = some (.dT kvs)) : TyOf K H (.ref a) (.type "dict")
  | ins {a C dx : Addr} {fs : List (Str × V)} (e : H a = some (.ins C dx fs)) (cl : Cls K C) (ha : PySem.W.findIn K (.ref C) "__class__" = some (some (.builtin "object.__class__")))
      (hn : PySem.W.specialIn K (.builtin "object.__class__") "__get__" = some (some (.builtin "getset_descriptor.__get__"))) (htk : PySem.W.takesIn K (.builtin "object.__class__") = some true)
      (hm : PySem.W.mroIn K C (.type "object") = some true) : TyOf K H (.ref a) (.ref C)
theorem isinst_ok {x : V} {u t : Value} (I : Inv X pins σ H s) (rx : RelV x u) (ty : TyOf X.K H x t) (e : PySem.W.kitOne X.K t c = some b) (h : ∀ tk, Q (.bool b) { s with toks := tk }) :
    wpAny (model X.prog X.w) A (call (.builtin "isinstance") [u, c]) Q E s := by
  cases ty with
  | non => cases (show u = Value.none from rx); exact PySem.W.kia_one PySem.W.kitx_none I.kIn True.intro e (fun z => nomatch z) h
  | bl y => cases (show u = Value.bool y from rx); exact PySem.W.kia_one PySem.W.kitx_bool I.kIn True.intro e (fun z => nomatch z) h
  | int i => obtain ⟨t, q⟩ := (show ∃ t, u = Value.int i t from rx); cases q; exact PySem.W.kia_one PySem.W.kitx_int I.kIn True.intro e (fun z => nomatch z) h
  | str y => obtain ⟨t, q⟩ := (show ∃ t, u = Value.str y t from rx); cases q; exact PySem.W.kia_one PySem.W.kitx_str I.kIn True.intro e (fun z => nomatch z) h
  | flt y => obtain ⟨t, q⟩ := (show ∃ t, u = Value.float y t from rx); cases q; exact PySem.W.kia_one PySem.W.kitx_float I.kIn True.intro e (fun z => nomatch z) h
  | @lst a xs ea =>
    cases (show u = Value.ref a from rx)
    obtain ⟨_, _, n, _, h1⟩ := (show ObjOk X.prog X.w H s.heap a (.lst xs) from I.hok a _ ea)
    exact PySem.W.kia_one PySem.W.kitx_list I.kIn ⟨_, h1, rfl⟩ e (fun z => nomatch z) h
  | @frz a ob xs ea =>
    cases (show u = Value.ref a from rx)
    obtain ⟨_, _, _, n, _, h1⟩ := (show ObjOk X.prog X.w H s.heap a (.frz ob (.lst xs)) from I.hok a _ ea)
    exact PySem.W.kia_one PySem.W.kitx_list I.kIn ⟨_, h1, rfl⟩ e (fun z => nomatch z) h
  | @tup a xs ea =>
    cases (show u = Value.ref a from rx)
    obtain ⟨_, _, _, p⟩ := (show ObjOk X.prog X.w H s.heap a (.tup xs) from I.hok a _ ea)
    obtain ⟨o, h1, h2, _⟩ := p
    exact PySem.W.kia_one PySem.W.kitx_tuple I.kIn ⟨o, h1, h2⟩ e (fun z => nomatch z) h
  | @dK a kvs ea =>
    cases (show u = Value.ref a from rx)
    obtain ⟨_, _, vs, _, p⟩ := (show ObjOk X.prog X.w H s.heap a (.dK kvs) from I.hok a _ ea)
    obtain ⟨o, es, ep, h1, h2, _⟩ := p
    exact PySem.W.kia_one PySem.W.kitx_dict I.kIn ⟨o, h1, h2.1⟩ e (fun z => nomatch z) h
  | @dT a kvs ea =>
    cases (show u = Value.ref a from rx)
    obtain ⟨_, _, xs, _, o, es, ep, h1, h2, _⟩ := (show ObjOk X.prog X.w H s.heap a (.dT kvs) from I.hok a _ ea)
    exact PySem.W.kia_one PySem.W.kitx_dict I.kIn ⟨o, h1, h2.1⟩ e (fun z => nomatch z) h
  | @ins a C dx fs ea cl ha hn htk hm =>
    cases (show u = Value.ref a from rx)
    obtain ⟨mA, O, _⟩ := ins_get I.hok ea
    obtain ⟨od, J, _⟩ := O.look
    exact PySem.W.kia_one (PySem.W.kitx_own (cl.get _) cl.hd ha hn htk hm) I.kIn J e (fun z => nomatch z) h
end
end L2

namespace L2
open PySem PySem.Spec PyProof.Rows

structure Room (k : Nat) (A : Around) : Prop where
  hd : A.handled = none
  dp : A.depth + 3 * k + 5 < recursionLimit
  un : A.units + 16 * k + 200 < cLine
theorem Room.mono {j k : Nat} {A : Around} (r : Room k A) (h : j ≤ k) : Room j A := ⟨r.hd, by have := r.dp; omega, by have := r.un; omega⟩
theorem Room.deeper {k : Nat} {A : Around} (r : Room (k + 1) A) (env : Env) : Room k (A.deeper env) :=
  ⟨r.hd, by have := r.dp; show A.depth + 1 + 3 * k + 5 < _; omega, by have := r.un; show A.units + 3 + 16 * k + 200 < _; omega⟩
theorem make_depth {A : Around} {C : Addr} {us : List Value} {kw : List (Str × Value)} : (A.under (.builtin "type.__call__" ⟨.ref C :: us, kw⟩)).depth = A.depth + 1 := by
  first | rfl | simp [Around.under, Code.weight, Code.isCreation, Code.isGuard, Code.isCaller, Code.frames, Code.isFrame, guardIds]
theorem make_units {A : Around} {C : Addr} {us : List Value} {kw : List (Str × Value)} : (A.under (.builtin "type.__call__" ⟨.ref C :: us, kw⟩)).units = A.units + 1 := by
  first | rfl | simp [Around.under, Code.cUnits, Code.frames, Code.isFrame]
theorem Room.make {k : Nat} {A : Around} (r : Room (k + 1) A) (C : Addr) (us : List Value) (kw : List (Str × Value)) : Room k (A.under (.builtin "type.__call__" ⟨.ref C :: us, kw⟩)) :=
  ⟨r.hd, by have := r.dp; rw [make_depth]; omega, by have := r.un; rw [make_units]; omega⟩
theorem Room.depth {k : Nat} {A : Around} (r : Room k A) : A.depth < recursionLimit := by have := r.dp; omega
theorem Room.units {k : Nat} {A : Around} (r : Room k A) : A.units + 64 < cLine := by have := r.un; omega
def tNil : TA := fun _ H Q => Q [] H
def tCons (ta : TE) (tr : TA) : TA := fun σ H Q => ta σ H fun x H1 => tr σ H1 fun xs H2 => Q (x :: xs) H2
section
variable {X : Cx} {e : Expr} {es : List Expr} {te : TE} {t : TA} {pos : Pos}
theorem pa_nil : PA X [] tNil := fun _ _ _ _ H Q I h => Calls.spliced_nil ⟨[], H, I, .nil, h⟩
theorem pa_cons (ha : PE X e te) (hr : PA X es t) (hs : starEach (e :: es) X.env = (false, eval e X.env) :: starEach es X.env := by rfl) : PA X (e :: es) (tCons te t) := by
  intro pos pins s σ H Q I h
  rw [hs]
  show wpAny _ _ (spliced ((false, eval e X.env) :: backTo pos (starEach es X.env))) _ _ s
  refine Calls.spliced_cons (thn (ha pins s σ H _ I h) fun u s1 ⟨x, H1, I1, r1, q1⟩ => ?_)
  exact thn (hr pos pins s1 σ H1 _ I1 q1) fun us s2 ⟨xs, H2, I2, r2, q2⟩ => ⟨x :: xs, H2, I2, .cons r1 r2, q2⟩

def tTup (t : TA) : TE := fun σ H Q => t σ H fun xs H1 => xs.length ≤ sizeLine ∧ ∀ p, H1 p = none → Q (.ref p) (upd H1 p (.tup xs))
def tLst (t : TA) : TE := fun σ H Q => t σ H fun xs H1 => xs.length ≤ sizeLine ∧ ∀ p, H1 p = none → Q (.ref p) (upd H1 p (.lst xs))
theorem pe_tup {x1} (h : PA X es t) : PE X (.Tuple es x1 pos) (tTup t) := by
  intro pins s σ H Q I hq
  refine wpAny_Tuple_spliced (thn (h pos pins s σ H _ I hq) fun us s1 ⟨xs, H1, I1, r, z, q⟩ => ⟨by rw [← r.length]; exact z, ?_⟩)
  have hf : H1 s1.heap.objs.size = none := I1.hok.fresh (Nat.le_refl _)
  refine ⟨.ref s1.heap.objs.size, upd H1 s1.heap.objs.size (.tup xs), I1.laid (t' := s1.toks) (fun b u e => Heap.get?_push_of_some _ e) (Nat.le_refl _) ?_, rfl, q _ hf⟩
  exact ⟨z, us, r, ⟨_, Heap.get?_push_size _ rfl, rfl, _, rfl⟩⟩
theorem pe_lst (h : PA X es t) : PE X (.List es pos) (tLst t) := by
  intro pins s σ H Q I hq
  refine wpAny_List_spliced (thn (h pos pins s σ H _ I hq) fun us s1 ⟨xs, H1, I1, r, z, q⟩ => ⟨by rw [← r.length]; exact z, ?_⟩)
  have hf : H1 s1.heap.objs.size = none := I1.hok.fresh (Nat.le_refl _)
  refine ⟨.ref s1.heap.objs.size, upd H1 s1.heap.objs.size (.lst xs), I1.laid (t' := s1.toks) (fun b u e => Heap.get?_push_of_some _ e) (Nat.le_refl _) ?_, rfl, q _ hf⟩
  exact ⟨z, us, 0, r, Heap.get?_push_size _ rfl⟩
end

abbrev Sp := List V → Hp → VK → XK → Prop
abbrev CXT := List Env → Hp → Shared → XK → Value → Shared → Prop

structure Env0 (P : Program) (w : World) (K : PySem.W.Frag) (mg : Str → Option Value) (base : Heap) (A : Around) (outer : List Env) (s : Shared) (H : Hp) : Prop where
  frames : A.frames = some outer
  mod : Mod K mg base
  bs : ∀ b o, base.get? b = some o → s.heap.get? b = some o ∧ H b = none
  bsz : base.objs.size ≤ s.heap.objs.size
  funs : s.heap.FunFrames base outer
  frf : ∀ b ∈ frs outer, H b = none
  hok : HOk P w H s.heap
  bare : AllBare s.gens
def CE (outer : List Env) (P : Program) (w : World) (H : Hp) (s : Shared) (Q : VK) (u : Value) (s' : Shared) : Prop :=
  ∃ v H', s'.os = s.os ∧ AllBare s'.gens ∧ Un (frs outer) [] H H' s.heap s'.heap ∧ HOk P w H' s'.heap ∧ RelV v u ∧ Q v H'
def CR (CX : CXT) (outer : List Env) (P : Program) (w : World) (H : Hp) (s : Shared) (Q : VK) (E : XK) (r : Result) (s' : Shared) : Prop :=
  match r with
  | .ok (.ret u) => CE outer P w H s Q u s'
  | .ok _ => False
  | .error e => CX outer H s E e s'
structure FnOk (P : Program) (w : World) (K : PySem.W.Frag) (mg : Str → Option Value) (base : Heap) (CX : CXT) (k : Nat) (f : Addr) (fd : FuncData) (ps : List Str) (sp : Sp) : Prop where
  len : ∀ vs H Q E, sp vs H Q E → vs.length = ps.length
  run : ∀ (A : Around) (outer : List Env) (s : Shared) (H : Hp) (args : Args) (us : List Value) (vs : List V) (Q : VK) (E : XK), Room k A → Env0 P w K mg base A outer s H → BindsTo s fd args (ps.zip us) → Vals vs us → sp vs H Q E →
    codeAny (model P w) A (.call (.ref f) args) (CR CX outer P w H s Q E) s
theorem Env0.make {P : Program} {w : World} {K : PySem.W.Frag} {mg : Str → Option Value} {base : Heap} {A : Around} {outer : List Env} {s : Shared} {H : Hp} (e : Env0 P w K mg base A outer s H) (C : Addr) (us : List Value) (kw : List (Str × Value)) :
    Env0 P w K mg base (A.under (.builtin "type.__call__" ⟨.ref C :: us, kw⟩)) outer s H := ⟨by first | exact e.frames | (simpa [Around.under, Code.envs, Code.isFrame, pushEnvs] using e.frames), e.mod, e.bs, e.bsz, e.funs, e.frf, e.hok, e.bare⟩
section
variable {X : Cx} {pins : List (Addr × Obj)} {σ : St} {H : Hp} {s s' : Shared}
theorem Inv.env0 (I : Inv X pins σ H s) : Env0 X.prog X.w X.K X.mg X.base X.A X.stack s H :=
  ⟨I.ok.frames, I.ok.mod, I.bs, Nat.le_trans I.ok.bsz I.sz, I.stack, I.stkFree, I.hok, I.bare⟩
theorem Inv.after {Q : VK} {u : Value} (I : Inv X pins σ H s) (h : CE X.stack X.prog X.w H s Q u s') : EP X pins σ Q u s' := by
  obtain ⟨v, H', os, bare, un, hok, r, q⟩ := h
  obtain ⟨hh, g, d, t, os'⟩ := s'
  obtain rfl : os' = s.os := os
  exact ⟨v, H', I.call (h' := hh) (g' := g) (d' := d) (t' := t) (ch := []) un hok bare (fun b z => absurd z (by simp)), r, q⟩
end

def tCall (sp : Sp) (dvs : List V) (E : XK) (t : TA) : TE := fun σ H Q => t σ H fun vs H1 => sp (vs ++ dvs) H1 Q E
def tMeth (C : Addr) (m : Str) (sp : Sp) (dvs : List V) (E : XK) (ta : TE) (t : TA) : TE := fun σ H Q => ta σ H fun x H1 => ∃ a dx fs, x = .ref a ∧ H1 a = some (.ins C dx fs) ∧ fs.lookup m = none ∧
  t σ H1 fun vs H2 => sp (x :: (vs ++ dvs)) H2 Q E
def tMake (C : Addr) (sp : Sp) (dvs : List V) (E : XK) (t : TA) : TE := fun σ H Q => t σ H fun vs H1 => ∀ x dx, H1 x = none → H1 dx = none → dx ≠ x →
  sp (.ref x :: (vs ++ dvs)) (upd (upd H1 dx (.own x)) x (.ins C dx [])) (fun v H2 => v = .non ∧ Q (.ref x) H2) E

def Binds (K : PySem.W.Frag) (fd : FuncData) (ps : List Str) (ds : List Value) : Prop :=
  ∀ (s : Shared) (us : List Value), K.In s.heap → (us ++ ds).length = ps.length → BindsTo s fd ⟨us, []⟩ (ps.zip (us ++ ds))
theorem Binds.all {K : PySem.W.Frag} {fd : FuncData} {ps : List Str} (h : ∀ us : List Value, us.length = ps.length → bindArgs fd ⟨us, []⟩ = pure (ps.zip us)) : Binds K fd ps [] := fun s us _ hl => by
  rw [List.append_nil] at hl ⊢
  exact .of_eq (h us hl)

def Passes (CX : CXT) (X : Cx) (E : XK) : Prop := ∀ (pins : List (Addr × Obj)) (σ : St) (H : Hp) (s : Shared) (e : Value) (s' : Shared), Inv X pins σ H s → CX X.stack H s E e s' → X.xe e s'

section
variable {X : Cx} {CX : CXT} {k : Nat} {f C : Addr} {fd : FuncData} {ps : List Str} {sp : Sp} {dvs : List V} {ds : List Value} {E : XK} {x m : Str} {p pos apos : Pos} {e o : Expr} {es : List Expr} {ta : TE} {t : TA}

theorem run_fn {pins : List (Addr × Obj)} {σ : St} {H : Hp} {s : Shared} {Q : VK} {us : List Value} {vs : List V} (F : FnOk X.prog X.w X.K X.mg X.base CX k f fd ps sp) (hr : Room k X.A) (hb : Binds X.K fd ps ds) (hd : Vals dvs ds) (hx : Passes CX X E)
    (I : Inv X pins σ H s) (r : Vals vs us) (h : sp (vs ++ dvs) H Q E) : wpAny (model X.prog X.w) X.A (call (.ref f) us) (EP X pins σ Q) X.xe s := by
  have r2 : Vals (vs ++ dvs) (us ++ ds) := r.append hd
  have hl : (us ++ ds).length = ps.length := by rw [← r2.length]; exact F.len _ _ _ _ h
  refine wpAny_call (codeAny_mono (F.run X.A X.stack s H ⟨us, []⟩ (us ++ ds) (vs ++ dvs) Q E hr I.env0 (hb s us I.kIn hl) r2 h) fun r s' hq => ?_)
  cases r with
  | error e => exact hx pins σ H s e s' I hq
  | ok fl =>
    cases fl with
    | ret u => exact I.after hq
    | next => exact False.elim hq
    | brk => exact False.elim hq
    | cont => exact False.elim hq

theorem pe_call (F : FnOk X.prog X.w X.K X.mg X.base CX k f fd ps sp) (hr : Room k X.A) (hg : Gl X x) (hm : X.mg x = some (.ref f)) (hk : PySem.W.keepIn X.K (.ref f) = true) (hb : Binds X.K fd ps ds) (hd : Vals dvs ds) (hx : Passes CX X E)
    (ha : PA X (e :: es) t) (hdb : (x == ("__debug__" : Str)) = false := by decide) (he : starEach (e :: es) X.env = (false, eval e X.env) :: starEach es X.env := by rfl) (hpl : (backTo pos (starEach es X.env)).any (·.1) = false := by rfl) :
    PE X (.Call (.Name x p) (e :: es) [] pos) (tCall sp dvs E t) := by
  intro pins s σ H Q I h
  refine wpAny_Call_Name_kw (ld_glob I hg hm ?_ hdb)
  refine PySem.W.callWith_K (h₀ := X.base) I.ok.mod.kin hk (thn (ha pos pins s σ H _ I h) fun us s1 ⟨vs, H1, I1, r, q⟩ => ⟨I1.kIn, ?_⟩) he hpl
  exact run_fn F hr hb hd hx I1 r q
theorem pe_meth {pl : Sem Bool} (he : PE X o ta) (c : Cls X.K C) (hm : Meth X.K C m f) (F : FnOk X.prog X.w X.K X.mg X.base CX k f fd ps sp) (hr : Room k X.A) (hb : Binds X.K fd ps ds) (hd : Vals dvs ds) (hx : Passes CX X E) (ha : PA X (e :: es) t)
    (hst : starEach (e :: es) X.env = (false, eval e X.env) :: starEach es X.env := by rfl) (hpl : (backTo pos (starEach es X.env)).any (·.1) = false := by rfl)
    (ht : eval (.Call (.Attribute o m apos) (e :: es) [] pos) X.env = (do
      let ov ← eval o X.env
      standAt apos.atName
      let (f, first) ← holding [ov] (getMethod ov m pl)
      callWith pos f first (backTo pos (starEach (e :: es) X.env)) (backToKw pos (keywordEach [] X.env))) := by rfl) :
    PE X (.Call (.Attribute o m apos) (e :: es) [] pos) (tMeth C m sp dvs E ta t) := by
  intro pins s σ H Q I h
  refine PySem.W.methodCall_KW (pl := pl) (thn (he pins s σ H _ I h) fun u s1 ⟨x, H1, I1, rx, a, dx, fs, ex, ea, l, q⟩ => ?_) ht
  subst ex
  obtain rfl : u = Value.ref a := rx
  refine getmeth_ok I1 ea c hm l ?_
  refine PySem.W.callWith_K (first := [.ref a]) (h₀ := X.base) I.ok.mod.kin hm.kp (thn (ha pos pins s1 σ H1 _ I1 q) fun us s2 ⟨vs, H2, I2, r, q2⟩ => ⟨I2.kIn, ?_⟩) hst hpl
  exact run_fn (us := .ref a :: us) (vs := .ref a :: vs) F hr hb hd hx I2 (.cons rfl r) q2
theorem pe_meth0 {pl : Sem Bool} (he : PE X o ta) (c : Cls X.K C) (hm : Meth X.K C m f) (F : FnOk X.prog X.w X.K X.mg X.base CX k f fd ps sp) (hr : Room k X.A) (hb : Binds X.K fd ps ds) (hd : Vals dvs ds) (hx : Passes CX X E)
    (ht : eval (.Call (.Attribute o m apos) [] [] pos) X.env = (do
      let ov ← eval o X.env
      standAt apos.atName
      let (f, first) ← holding [ov] (getMethod ov m pl)
      callWith pos f first (backTo pos (starEach [] X.env)) (backToKw pos (keywordEach [] X.env))) := by rfl) :
    PE X (.Call (.Attribute o m apos) [] [] pos) (tMeth C m sp dvs E ta tNil) := by
  intro pins s σ H Q I h
  refine PySem.W.methodCall_KW (pl := pl) (thn (he pins s σ H _ I h) fun u s1 ⟨x, H1, I1, rx, a, dx, fs, ex, ea, l, q⟩ => ?_) ht
  subst ex
  obtain rfl : u = Value.ref a := rx
  refine getmeth_ok I1 ea c hm l ?_
  exact PySem.W.callWith_K0 (first := [.ref a]) I1.kIn hm.kp (run_fn (us := [.ref a]) (vs := [.ref a]) F hr hb hd hx I1 (.cons rfl .nil) q)

structure Mk (K : PySem.W.Frag) (C f : Addr) : Prop where
  makes : PySem.W.makesIn K C = true
  init : PySem.W.findIn K (.ref C) "__init__" = some (some (.ref f))
  fn : PySem.W.isFn K (.ref f) = true
  kp : PySem.W.keepIn K (.ref C) = true

theorem run_make {pins : List (Addr × Obj)} {σ : St} {H : Hp} {s : Shared} {Q : VK} {us : List Value} {vs : List V} (M : Mk X.K C f) (F : FnOk X.prog X.w X.K X.mg X.base CX k f fd ps sp) (hr : Room (k + 1) X.A) (hb : Binds X.K fd ps ds) (hd : Vals dvs ds)
    (hx : Passes CX X E) (I : Inv X pins σ H s) (r : Vals vs us)
    (h : ∀ x dx, H x = none → H dx = none → dx ≠ x → sp (.ref x :: (vs ++ dvs)) (upd (upd H dx (.own x)) x (.ins C dx [])) (fun v H2 => v = .non ∧ Q (.ref x) H2) E) :
    wpAny (model X.prog X.w) X.A (call (.ref C) us) (EP X pins σ Q) X.xe s := by
  have hq := h (s.heap.objs.size + 1) s.heap.objs.size (I.hok.fresh (Nat.le_succ _)) (I.hok.fresh (Nat.le_refl _)) (Nat.ne_of_lt (Nat.lt_succ_self _))
  have I2 := Inv.made (C := C) I
  have r2 : Vals (V.ref (s.heap.objs.size + 1) :: (vs ++ dvs)) (Value.ref (s.heap.objs.size + 1) :: (us ++ ds)) := .cons rfl (r.append hd)
  have hl : (Value.ref (s.heap.objs.size + 1) :: us ++ ds).length = ps.length := by
    have e := r2.length
    rw [F.len _ _ _ _ hq] at e
    exact e.symm
  refine wpAny_call (make_map (f := f) I.kIn M.makes M.init (beq_iff_eq.mp M.fn) (codeAny_mono (F.run _ X.stack _ _ ⟨Value.ref (s.heap.objs.size + 1) :: us, []⟩ (Value.ref (s.heap.objs.size + 1) :: (us ++ ds)) _ _ E (hr.make C us [])
    (I2.env0.make C us []) (hb _ (Value.ref (s.heap.objs.size + 1) :: us) I2.kIn hl) r2 hq) fun r s' hq' => ?_))
  cases r with
  | error e => exact hx pins σ _ _ e s' I2 hq'
  | ok fl =>
    cases fl with
    | ret u =>
      obtain ⟨v, H', I3, rv, ev, q3⟩ := I2.after hq'
      subst ev
      exact ⟨rv, ⟨V.ref (s.heap.objs.size + 1), H', I3, rfl, q3⟩⟩
    | next => exact False.elim hq'
    | brk => exact False.elim hq'
    | cont => exact False.elim hq'
theorem pe_make (M : Mk X.K C f) (F : FnOk X.prog X.w X.K X.mg X.base CX k f fd ps sp) (hr : Room (k + 1) X.A) (hg : Gl X x) (hm : X.mg x = some (.ref C)) (hb : Binds X.K fd ps ds) (hd : Vals dvs ds) (hx : Passes CX X E)
    (ha : PA X (e :: es) t) (hdb : (x == ("__debug__" : Str)) = false := by decide) (he : starEach (e :: es) X.env = (false, eval e X.env) :: starEach es X.env := by rfl) (hpl : (backTo pos (starEach es X.env)).any (·.1) = false := by rfl) :
    PE X (.Call (.Name x p) (e :: es) [] pos) (tMake C sp dvs E t) := by
  intro pins s σ H Q I h
  refine wpAny_Call_Name_kw (ld_glob I hg hm ?_ hdb)
  refine PySem.W.callWith_K (h₀ := X.base) I.ok.mod.kin M.kp (thn (ha pos pins s σ H _ I h) fun us s1 ⟨vs, H1, I1, r, q⟩ => ⟨I1.kIn, ?_⟩) he hpl
  exact run_make M F hr hb hd hx I1 r q
theorem pe_make0 (M : Mk X.K C f) (F : FnOk X.prog X.w X.K X.mg X.base CX k f fd ps sp) (hr : Room (k + 1) X.A) (hg : Gl X x) (hm : X.mg x = some (.ref C)) (hb : Binds X.K fd ps ds) (hd : Vals dvs ds) (hx : Passes CX X E)
    (hdb : (x == ("__debug__" : Str)) = false := by decide) : PE X (.Call (.Name x p) [] [] pos) (tMake C sp dvs E tNil) := by
  intro pins s σ H Q I h
  refine wpAny_Call_Name_kw (ld_glob I hg hm ?_ hdb)
  exact PySem.W.callWith_K0 I.kIn M.kp (run_make (us := []) M F hr hb hd hx I .nil h)
end

def PK (X : Cx) (kws : List Keyword) (t : TA) : Prop :=
  ∀ (pos : Pos) (pins : List (Addr × Obj)) (s : Shared) (σ : St) (H : Hp) (Q : List V → Hp → Prop), Inv X pins σ H s → t σ H Q → wpAny (model X.prog X.w) X.A (evalAll ((backToKw pos (keywordEach kws X.env)).map (·.2))) (AP X pins σ Q) X.xe s
section
variable {X : Cx} {CX : CXT} {k : Nat} {f C : Addr} {fd : FuncData} {ps ks : List Str} {sp : Sp} {E : XK} {x m : Str} {p pos apos kpos : Pos} {e o : Expr} {es : List Expr} {kws : List Keyword} {te ta : TE} {t tk : TA} {nm : Option Str}
structure KBinds (K : PySem.W.Frag) (fd : FuncData) (ps ks : List Str) (g : List Value → List Value → List Value) (gV : List V → List V → List V) : Prop where
  to : ∀ (s : Shared) (us ws : List Value), K.In s.heap → (g us ws).length = ps.length → BindsTo s fd ⟨us, ks.zip ws⟩ (ps.zip (g us ws))
  rel : ∀ {vs : List V} {us : List Value} {zs : List V} {ws : List Value}, Vals vs us → Vals zs ws → Vals (gV vs zs) (g us ws)
def tCallK (sp : Sp) (gV : List V → List V → List V) (E : XK) (t tk : TA) : TE := fun σ H Q => t σ H fun vs H1 => tk σ H1 fun zs H2 => sp (gV vs zs) H2 Q E
variable {g : List Value → List Value → List Value} {gV : List V → List V → List V}
end

structure FnScope (N P : List Str) (sc : Scope) : Prop where
  kind : sc.kind = .function
  co : sc.isCoroutine = false
  gen : sc.isGenerator = false
  nd : N.Nodup
  pre : N.take P.length = P
  par : ∀ x ∈ P, sc.names.lookup x = some .local ∨ sc.names.lookup x = some .cell
  nofree : ∀ y ∈ sc.names, y.2 ≠ .free

theorem bindL_out {kindOf : Str → Option NameKind} {x : Str} : ∀ {binds : List (Str × Value)} {m : Str → Option Value}, (∀ v, (x, v) ∉ binds) → bindL kindOf binds m x = m x
  | [], _, _ => rfl
  | (n, v) :: r, m, h => by
    unfold bindL
    rw [bindL_out fun w hw => h w (List.mem_cons_of_mem _ hw)]
    split
    · have : x ≠ n := by rintro rfl; exact h v List.mem_cons_self
      simp [this]
    · rfl
theorem bindC_out {kindOf : Str → Option NameKind} {x : Str} : ∀ {binds : List (Str × Value)} {m : Str → Option Value}, (∀ v, (x, v) ∉ binds) → bindC kindOf binds m x = m x
  | [], _, _ => rfl
  | (n, v) :: r, m, h => by
    unfold bindC
    rw [bindC_out fun w hw => h w (List.mem_cons_of_mem _ hw)]
    split
    · rfl
    · have : x ≠ n := by rintro rfl; exact h v List.mem_cons_self
      simp [this]
theorem bindL_get {kindOf : Str → Option NameKind} {x : Str} {v : Value} : ∀ {P : List Str} {vs : List Value} {i : Nat} {m : Str → Option Value}, P.Nodup → P[i]? = some x → vs[i]? = some v → kindOf x = some .local →
    bindL kindOf (P.zip vs) m x = some v
  | [], _, _, _, _, h, _, _ => by simp at h
  | _ :: _, [], _, _, _, _, h, _ => by simp at h
  | p :: P, w :: vs, 0, m, nd, h1, h2, hk => by
    simp at h1 h2; subst h1; subst h2
    show bindL kindOf ((p, w) :: P.zip vs) m p = _
    unfold bindL
    rw [bindL_out fun v hv => (List.nodup_cons.mp nd).1 (List.of_mem_zip hv).1, if_pos hk]
    simp
  | p :: P, w :: vs, i + 1, m, nd, h1, h2, hk => by
    show bindL kindOf ((p, w) :: P.zip vs) m x = _
    unfold bindL
    exact bindL_get (i := i) (List.nodup_cons.mp nd).2 (by simpa using h1) (by simpa using h2) hk
theorem bindC_get {kindOf : Str → Option NameKind} {x : Str} {v : Value} : ∀ {P : List Str} {vs : List Value} {i : Nat} {m : Str → Option Value}, P.Nodup → P[i]? = some x → vs[i]? = some v → kindOf x ≠ some .local →
    bindC kindOf (P.zip vs) m x = some v
  | [], _, _, _, _, h, _, _ => by simp at h
  | _ :: _, [], _, _, _, _, h, _ => by simp at h
  | p :: P, w :: vs, 0, m, nd, h1, h2, hk => by
    simp at h1 h2; subst h1; subst h2
    show bindC kindOf ((p, w) :: P.zip vs) m p = _
    unfold bindC
    rw [bindC_out fun v hv => (List.nodup_cons.mp nd).1 (List.of_mem_zip hv).1, if_neg hk]
    simp
  | p :: P, w :: vs, i + 1, m, nd, h1, h2, hk => by
    show bindC kindOf ((p, w) :: P.zip vs) m x = _
    unfold bindC
    exact bindC_get (i := i) (List.nodup_cons.mp nd).2 (by simpa using h1) (by simpa using h2) hk

def start (N : List Str) (vs : List V) : St := vs.map some ++ List.replicate (N.length - vs.length) none

def cxOf (CX : CXT) (P : Program) (w : World) (K : PySem.W.Frag) (mg : Str → Option Value) (base : Heap) (N : List Str) (qual : Str) (scope : Scope) (f : Addr) (cd : Value) (A : Around) (outer : List Env) (s : Shared) (H : Hp) (E : XK) : Cx where
  prog := P
  w := w
  K := K
  mg := mg
  base := base
  A := A.deeper (envOfC qual scope s.heap.objs.size f cd)
  N := N
  s₀ := s
  H₀ := H
  env := envOfC qual scope s.heap.objs.size f cd
  outer := outer
  stack := envOfC qual scope s.heap.objs.size f cd :: outer
  ex := []
  calm := true
  fn := fun _ => true
  pn := []
  xe := fun e s' => wpAny (model P w) (A.deeper (envOfC qual scope s.heap.objs.size f cd)) (leaving (envOfC qual scope s.heap.objs.size f cd) e) (fun _ s'' => CX outer H s E e s'') (fun e' s'' => CX outer H s E e' s'') s'

theorem cell_has {sc : Scope} {n : Nat} {x : Str} (h : sc.names.lookup x = some .cell) : ∃ c, (cellsFrom n sc.names []).lookup x = some c := by
  have q := PySem.W.cellsFrom_some sc.names n [] (.inl h)
  exact Option.isSome_iff_exists.mp q

theorem inv_start {CX : CXT} {P : Program} {w : World} {K : PySem.W.Frag} {mg : Str → Option Value} {base : Heap} {N ps : List Str} {qual : Str} {scope : Scope} {f : Addr} {cd : Value} {A : Around} {outer : List Env} {s s1 : Shared} {H : Hp} {E : XK} {us : List Value} {vs : List V}
    (S : FnScope N ps scope) (hd : A.handled = none) (e0 : Env0 P w K mg base A outer s H) (hl : vs.length = ps.length) (r : Vals vs us)
    (x : InCallC s s.heap.objs.size (bindL (envOfC qual scope s.heap.objs.size f cd).kindOf (ps.zip us) fun _ => none) (cellsFrom (s.heap.objs.size + 1) scope.names []) (bindC (envOfC qual scope s.heap.objs.size f cd).kindOf (ps.zip us) fun _ => none) s1) :
    Inv (cxOf CX P w K mg base N qual scope f cd A outer s H E) [] (start N vs) H s1 := by
  have hpl : ps.length ≤ N.length := by have := congrArg List.length S.pre; rw [List.length_take] at this; omega
  obtain ⟨h1, tk, rfl, hk⟩ := x.done
  have noA : ∀ b : Addr, b ∉ (cxOf CX P w K mg base N qual scope f cd A outer s H E).ex := fun b z => absurd (show b ∈ ([] : List Addr) from z) (by simp)
  refine ⟨⟨e0.mod, S.kind, rfl, rfl, Nat.le_refl _, fun y z c h1 h2 => ?_, fun y hy => ?_, fun y c _ h => ?_, fun _ => hd, Around.frames_deeper e0.frames, .inr ⟨rfl, rfl⟩, fun b z => absurd z (noA b), e0.bs, e0.bsz, fun b _ _ => noA b, fun b z => absurd z (noA b), e0.funs, e0.frf⟩,
    rfl, e0.bare, Un.kept hk, ⟨_, x.toInCall.ns, fun i y v h1 h2 h3 => ?_⟩, fun y c h => ⟨_, x.cell y c h⟩, e0.hok.fresh (Nat.le_refl _), fun y c h => ?_, fun p hp => absurd (show p ∈ ([] : List (Addr × Obj)) from hp) (by simp), e0.hok.kept hk, ?_⟩
  · exact name_of_addr x.apart (PySem.mem_of_lookup h1) (PySem.mem_of_lookup h2)
  · have hy : scope.names.lookup y = some .cell ∨ scope.names.lookup y = some .free := hy
    rcases hy with hy | hy
    · exact cell_has hy
    · exact absurd rfl (S.nofree _ (PySem.mem_of_lookup hy))
  · exact Nat.le_of_lt (x.above y c (PySem.mem_of_lookup h))
  · have hi : i < vs.length := by
      unfold start at h2
      by_cases hi : i < vs.length
      · exact hi
      · rw [List.getElem?_append_right (by simpa using hi)] at h2
        rw [List.getElem?_replicate] at h2
        split at h2 <;> cases h2
    have ha : vs[i]? = some v := by
      unfold start at h2
      rw [List.getElem?_append_left (by simpa using hi), List.getElem?_map] at h2
      cases e : vs[i]? with
      | none => rw [e] at h2; cases h2
      | some a => rw [e] at h2; cases h2; rfl
    obtain ⟨u, hu, rv⟩ := r.get ha
    have hp : ps[i]? = some y := by
      rw [← S.pre, List.getElem?_take_of_lt (by omega)]; exact h1
    have ndP : ps.Nodup := by rw [← S.pre]; exact S.nd.sublist (List.take_sublist _ _)
    refine ⟨u, rv, ?_⟩
    rcases S.par y (List.mem_of_getElem? hp) with k | k
    · exact .inl ⟨k, bindL_get ndP hp hu k⟩
    · obtain ⟨c, e⟩ := cell_has (n := s.heap.objs.size + 1) k
      refine .inr ⟨.inl k, c, e, ?_⟩
      have q := x.cell y c e
      rw [bindC_get ndP hp hu (by show scope.names.lookup y ≠ _; rw [k]; decide)] at q
      exact q
  · exact e0.hok.fresh (Nat.le_of_lt (x.above y c (PySem.mem_of_lookup h)))
  · unfold start
    show _ = N.length
    rw [List.length_append, List.length_map, List.length_replicate]
    omega

theorem fn_of {CX : CXT} {P : Program} {w : World} {K : PySem.W.Frag} {mg : Str → Option Value} {base : Heap} {k : Nat} {f : Addr} {name qual : Str} {params : Arguments} {body : List Stmt} {scope : Scope} {dV kV doc pm cdv ct oc : Value} {an od : Option Addr}
    {osl : Array (Option Value)} {N ps : List Str} {sp : Sp} (lk : K.lookup f = some ⟨oc, od, .func (PySem.W.fnOf name qual params body scope dV kV doc pm an cdv ct), osl⟩) (hcd : PySem.W.codeIn K cdv qual = true) (S : FnScope N ps scope)
    (len : ∀ vs H Q E, sp vs H Q E → vs.length = ps.length)
    (hbody : ∀ (A : Around) (outer : List Env) (s : Shared) (H : Hp) (vs : List V) (Q : VK) (E : XK), Room k (A.deeper (envOfC qual scope s.heap.objs.size f cdv)) → sp vs H Q E →
      ∃ t, PSs (cxOf CX P w K mg base N qual scope f cdv A outer s H E) body t ∧ t { nx := fun _ H' => Q .non H', rt := Q } (start N vs) H) :
    FnOk P w K mg base CX (k + 1) f (PySem.W.fnOf name qual params body scope dV kV doc pm an cdv ct) ps sp := by
  refine ⟨len, fun A outer s H args us vs Q E hr e0 hb r hsp => ?_⟩
  have hl := len _ _ _ _ hsp
  have KX : K.In s.heap := e0.mod.kin.keeps fun b o e => (e0.bs b o e).1
  have lim : s.heap.NoLimit := e0.mod.nolimit.keeps fun b o e => (e0.bs b o e).1
  have hkind : ∀ y ∈ ps.zip us, scope.names.lookup y.1 = some .local ∨ (scope.names.lookup y.1 = some .cell ∧ ((cellsFrom (s.heap.objs.size + 1) scope.names []).lookup y.1).isSome = true) := fun ⟨n, v⟩ hy => by
    rcases S.par n (List.of_mem_zip hy).1 with q | q
    · exact .inl q
    · exact .inr ⟨q, PySem.W.cellsFrom_some _ _ _ (.inl q)⟩
  refine codeAny_call_function hr.depth (KX _ _ lk) rfl S.co S.gen rfl (PySem.W.codeRec_of KX hcd) (hb _ _ _ _ ?_)
  refine wpAny_newFunctionEnv_cells S.kind hkind fun env he s1 x => ?_
  subst he
  refine ⟨lim.keeps x.toInCall.keep, codeAny_func ?_⟩
  obtain ⟨t, ht, hq⟩ := hbody A outer s H vs Q E (hr.deeper _) hsp
  have I : Inv (cxOf CX P w K mg base N qual scope f cdv A outer s H E) [] (start N vs) H s1 := inv_start S hr.hd e0 hl r x
  refine wpAny_mono (ht [] s1 (start N vs) H _ I hq) (fun fl s' hs => ?_) fun e s' hs => hs
  have fin : ∀ {σ' : St} {H' : Hp} {v : V} {u : Value}, Inv (cxOf CX P w K mg base N qual scope f cdv A outer s H E) [] σ' H' s' → RelV v u → Q v H' → CE outer P w H s Q u s' :=
    fun {σ' H' v u} J rv q => ⟨v, H', J.os, J.bare, J.base, J.hok, rv, q⟩
  cases fl with
  | ret u =>
    obtain ⟨v, σ', H', J, rv, q⟩ := hs
    exact fin J rv q
  | next =>
    obtain ⟨σ', H', J, q⟩ := hs
    exact fin (v := V.non) (u := Value.none) J rfl q
  | brk =>
    obtain ⟨_, _, _, q⟩ := hs
    exact False.elim q
  | cont =>
    obtain ⟨_, _, _, q⟩ := hs
    exact False.elim q
end L2

namespace L2
open PySem PySem.Spec PyProof.Rows
section
variable {X : Cx} {x : Str} {p pos : Pos} {e : Expr} {es : List Expr} {t : TA} {id T : String} {r : List V → Hp → VK → Prop}

def tCB (r : List V → Hp → VK → Prop) (t : TA) : TE := fun σ H Q => t σ H fun vs H1 => r vs H1 Q
theorem pe_callB (hc : CallR X (.builtin id) r) (hg : Gl X x) (hm : X.mg x = none) (hv : bootBuiltins x = some (.builtin id)) (ha : PA X (e :: es) t) (hn : x ≠ "__name__" := by decide) (hdb : (x == ("__debug__" : Str)) = false := by decide)
    (he : starEach (e :: es) X.env = (false, eval e X.env) :: starEach es X.env := by rfl) (hpl : (backTo pos (starEach es X.env)).any (·.1) = false := by rfl) : PE X (.Call (.Name x p) (e :: es) [] pos) (tCB r t) := by
  intro pins s σ H Q I h
  refine wpAny_Call_Name_kw (ld_blt I hg hm hv ?_ hn hdb)
  exact PyProof.Rows.callWith_builtin1 (thn (ha pos pins s σ H _ I h) fun us s1 ⟨vs, H1, I1, r1, q1⟩ => hc pins s1 σ H1 vs us Q I1 r1 q1) he hpl
theorem pe_callTy (hc : CallR X (.type T) r) (hg : Gl X x) (hm : X.mg x = none) (hv : bootBuiltins x = some (.type T)) (ha : PA X (e :: es) t) (hn : x ≠ "__name__" := by decide) (hdb : (x == ("__debug__" : Str)) = false := by decide)
    (he : starEach (e :: es) X.env = (false, eval e X.env) :: starEach es X.env := by rfl) (hpl : (backTo pos (starEach es X.env)).any (·.1) = false := by rfl) : PE X (.Call (.Name x p) (e :: es) [] pos) (tCB r t) := by
  intro pins s σ H Q I h
  refine wpAny_Call_Name_kw (ld_blt I hg hm hv ?_ hn hdb)
  exact PyProof.Rows.callWith_type1 (thn (ha pos pins s σ H _ I h) fun us s1 ⟨vs, H1, I1, r1, q1⟩ => hc pins s1 σ H1 vs us Q I1 r1 q1) he hpl
end
end L2

namespace HT
open PySem PyProof.Rows

def lexLt : List Int → List Int → Bool
  | [], [] => false
  | [], _ :: _ => true
  | _ :: _, [] => false
  | x :: xs, y :: ys => if x = y then lexLt xs ys else decide (x < y)
section
open PySem.SeqAt
open PySem.AutoSeq1 (wpAny_loadPart')
open PySem.MeetsSeq PySem.MeetsSeq2 PySem.MeetsSeq3

end

section
variable {prog : Program} {w : World} {A : Around} {E : Value → Shared → Prop} {s : Shared}

def sIx (n d : Nat) : Option Int → Nat
  | none => d
  | some v => if v < 0 then (v + (n : Int)).toNat else min v.toNat n
theorem sIx_le (n d : Nat) (hd : d ≤ n) (o : Option Int) : sIx n d o ≤ n := by
  cases o with
  | none => exact hd
  | some v =>
    show (if v < 0 then (v + (n : Int)).toNat else min v.toNat n) ≤ n
    by_cases hv : v < 0
    · rw [if_pos hv]; omega
    · rw [if_neg hv]; exact Nat.min_le_right _ _
end
end HT

namespace L2
open PySem PySem.Spec PyProof.Rows

abbrev TO := St → Hp → (Option Int → Hp → Prop) → Prop
def PO (X : Cx) (e : Option Expr) (t : TO) : Prop :=
  ∀ (pins : List (Addr × Obj)) (s : Shared) (σ : St) (H : Hp) (Q : Option Int → Hp → Prop), Inv X pins σ H s → t σ H Q →
    wpAny (model X.prog X.w) X.A (evalPart e X.env) (fun u s' => ∃ o H', Inv X pins σ H' s' ∧ IsPart u o ∧ Q o H') X.xe s
def tNoPart : TO := fun _ H Q => Q none H
def tPart (t : TE) : TO := fun σ H Q => t σ H fun x H1 => ∃ i, x = .int i ∧ Q (some i) H1

section
variable {X : Cx} {e : Expr} {te : TE} {lo hi : Option Expr} {tl th : TO} {pos p2 : Pos}

theorem po_none : PO X none tNoPart := by
  intro pins s σ H Q I h
  rw [evalPart_none]
  exact wpAny_pure ⟨none, H, I, .none, h⟩
theorem po_some (h : PE X e te) : PO X (some e) (tPart te) := by
  intro pins s σ H Q I hw
  rw [evalPart_some]
  refine thn (h pins s σ H _ I hw) fun u s1 ⟨x, H1, I1, r1, q1⟩ => ?_
  obtain ⟨i, rfl, q⟩ := q1
  obtain ⟨t, rfl⟩ := r1
  exact ⟨some i, H1, I1, .int i t, q⟩

def SlR (X : Cx) (r : V → Option Int → Option Int → Hp → VK → Prop) : Prop :=
  ∀ (pins : List (Addr × Obj)) (s : Shared) (σ : St) (H : Hp) (x : V) (v vl vu : Value) (lo hi : Option Int) (sl : Addr) (Q : VK), Inv X pins σ H s → RelV x v → s.heap.IsSliceOf sl vl vu .none → IsPart vl lo → IsPart vu hi → r x lo hi H Q →
    ∃ T id, typeLookup (.type T) "__getitem__" = pure (some (.builtin id)) ∧ s.TypeIs v T ∧ wpAny (model X.prog X.w) X.A (getItem v (.ref sl)) (EP X pins σ Q) X.xe s
def tSl (r : V → Option Int → Option Int → Hp → VK → Prop) (te : TE) (tl th : TO) : TE := fun σ H Q => te σ H fun x H1 => tl σ H1 fun l H2 => th σ H2 fun u H3 => r x l u H3 Q
theorem pe_slice {r : V → Option Int → Option Int → Hp → VK → Prop} (hr : SlR X r) (he : PE X e te) (hl : PO X lo tl) (hu : PO X hi th) : PE X (.Subscript e (.Slice lo hi none p2) pos) (tSl r te tl th) := by
  intro pins s σ H Q I h
  refine Subscript_ (thn (he pins s σ H _ I h) fun v s1 ⟨x, H1, I1, r1, q1⟩ => ?_)
  refine wpAny_Slice (thn (hl pins s1 σ H1 _ I1 q1) fun vl s2 ⟨l, H2, I2, pl, q2⟩ => thn (hu pins s2 σ H2 _ I2 q2) fun vu s3 ⟨u, H3, I3, pu, q3⟩ => ?_)
  rw [evalPart_none]
  refine wpAny_pure ?_
  have I4 : Inv X pins σ H3 { s3 with heap := s3.heap.push { cls := .type "slice", data := .fields #[vl, vu, .none] } } := I3.kept (t' := s3.toks) fun b ob q => Heap.get?_push_of_some _ q
  obtain ⟨T, id, hT, ht, hg⟩ := hr pins { s3 with heap := s3.heap.push { cls := .type "slice", data := .fields #[vl, vu, .none] } } σ H3 x v vl vu l u s3.heap.objs.size Q I4 r1 (Heap.IsSliceOf.new ..) pl pu q3
  show wpAny (model X.prog X.w) X.A (subscriptTail e (.Slice lo hi none p2) v (.ref s3.heap.objs.size)) (EP X pins σ Q) X.xe { s3 with heap := s3.heap.push { cls := .type "slice", data := .fields #[vl, vu, .none] } }
  exact tail_any (ops := [.ref s3.heap.objs.size, v]) ht hT hg (by with_unfolding_all rfl)

def cutV (xs : List V) (lo hi : Option Int) : List V := (xs.drop (HT.sIx xs.length 0 lo)).take (HT.sIx xs.length xs.length hi - HT.sIx xs.length 0 lo)
theorem cutV_length (xs : List V) (lo hi : Option Int) : (cutV xs lo hi).length ≤ xs.length := by
  unfold cutV
  rw [List.length_take, List.length_drop]
  omega
def rSlT (K : PySem.W.Frag) : V → Option Int → Option Int → Hp → VK → Prop := fun x lo hi H Q => ∃ a xs, x = .ref a ∧ SqT K H a xs ∧
  ¬ (HT.sIx xs.length 0 lo = 0 ∧ HT.sIx xs.length xs.length hi = xs.length) ∧ ∀ p, H p = none → Q (.ref p) (upd H p (.tup (cutV xs lo hi)))
def rLtT (K : PySem.W.Frag) : R2 := fun x y H Q => ∃ a b ns ms, x = .ref a ∧ y = .ref b ∧ SqT K H a (ns.map V.int) ∧ SqT K H b (ms.map V.int) ∧ Q (.bl (HT.lexLt ns ms)) H
def rCatT (K : PySem.W.Frag) : R2 := fun x y H Q => ∃ a b xs ys, x = .ref a ∧ y = .ref b ∧ SqT K H a xs ∧ SqT K H b ys ∧ xs ≠ [] ∧ xs.length + ys.length ≤ sizeLine ∧
  (ys = [] → Q (.ref a) H) ∧ (ys ≠ [] → ∀ p, H p = none → Q (.ref p) (upd H p (.tup (xs ++ ys))))
end
end L2

namespace L2
open PySem PySem.Spec PyProof.Rows

def ixN (n : Nat) (i : Int) : Option Nat := if 0 ≤ i then (if i < n then some i.toNat else none) else if -(n : Int) ≤ i then some (i + n).toNat else none
def atI {α : Type} (xs : List α) (i : Int) : Option α := (ixN xs.length i).bind fun j => xs[j]?
theorem ixN_seq {n : Nat} {i : Int} {j : Nat} (h : ixN n i = some j) : seqIndex? i n = some j ∧ j < n ∧ -(n : Int) ≤ i ∧ i < n := by
  unfold ixN at h
  by_cases h0 : 0 ≤ i
  · rw [if_pos h0] at h
    by_cases h1 : i < n
    · rw [if_pos h1] at h
      have e : i.toNat = j := Option.some.inj h
      exact ⟨by rw [seqIndex_of h0 h1, e], by omega, by omega, h1⟩
    · rw [if_neg h1] at h; cases h
  · rw [if_neg h0] at h
    by_cases h1 : -(n : Int) ≤ i
    · rw [if_pos h1] at h
      have e : (i + n).toNat = j := Option.some.inj h
      exact ⟨by rw [seqIndex_neg (by omega) h1, e], by omega, h1, by omega⟩
    · rw [if_neg h1] at h; cases h
theorem atI_get {α : Type} {xs : List α} {i : Int} {v : α} (h : atI xs i = some v) : ∃ j, seqIndex? i xs.length = some j ∧ xs[j]? = some v ∧ j < xs.length ∧ -(xs.length : Int) ≤ i ∧ i < xs.length := by
  unfold atI at h
  cases e : ixN xs.length i with
  | none => rw [e] at h; cases h
  | some j =>
    rw [e] at h
    obtain ⟨h1, h2, h3, h4⟩ := ixN_seq e
    exact ⟨j, h1, h, h2, h3, h4⟩
theorem atI_nat {α : Type} {xs : List α} {j : Nat} {v : α} (h : xs[j]? = some v) : atI xs (j : Int) = some v := by
  have hj : j < xs.length := (List.getElem?_eq_some_iff.mp h).1
  have e : ixN xs.length (j : Int) = some j := by
    unfold ixN
    rw [if_pos (by omega), if_pos (by omega)]; simp
  unfold atI; rw [e]; exact h
def PlainIx (b : Expr) : Prop := ∀ o i, subscripted b false o i = operate [o, i] (getItem o i)
def IxR (X : Cx) (r : R2) : Prop :=
  ∀ (value slice : Expr) (pins : List (Addr × Obj)) (s : Shared) (σ : St) (H : Hp) (x y : V) (v u : Value) (Q : VK), Inv X pins σ H s → RelV x v → RelV y u → r x y H Q →
    subscripted slice false v u = operate [v, u] (getItem v u) → wpAny (model X.prog X.w) X.A (subscriptTail value slice v u) (EP X pins σ Q) X.xe s
def MtR (X : Cx) (id : String) (r : V → List V → Hp → VK → Prop) : Prop :=
  ∀ (pins : List (Addr × Obj)) (s : Shared) (σ : St) (H : Hp) (x : V) (xs : List V) (v : Value) (us : List Value) (Q : VK), Inv X pins σ H s → RelV x v → Vals xs us → r x xs H Q →
    wpAny (model X.prog X.w) X.A (call (.builtin id) (v :: us)) (EP X pins σ Q) X.xe s
section
variable {X : Cx} {a b : Expr} {ta tb : TE} {pos : Pos}
theorem IxR.or {r r' : R2} (h : IxR X r) (h' : IxR X r') : IxR X (fun x y H Q => r x y H Q ∨ r' x y H Q) := by
  intro value slice pins s σ H x y v u Q I rx ry q hs
  rcases q with q | q
  · exact h value slice pins s σ H x y v u Q I rx ry q hs
  · exact h' value slice pins s σ H x y v u Q I rx ry q hs
theorem pe_ix {r : R2} (hr : IxR X r) (ha : PE X a ta) (hb : PE X b tb) (hs : PlainIx b) : PE X (.Subscript a b pos) (tOp r ta tb) := by
  intro pins s σ H Q I h
  exact Subscript_ (binT ha hb I h fun v u s2 x y H2 I2 rx ry q => hr a b pins s2 σ H2 x y v u Q I2 rx ry q (hs _ _))

def rIxL (K : PySem.W.Frag) : R2 := fun x y H Q => ∃ p xs i v, x = .ref p ∧ y = .int i ∧ SqL K H p xs ∧ atI xs i = some v ∧ Q v H
def rIxT (K : PySem.W.Frag) : R2 := fun x y H Q => ∃ p xs i v, x = .ref p ∧ y = .int i ∧ SqT K H p xs ∧ atI xs i = some v ∧ Q v H
def rIxS : R2 := fun x y H Q => ∃ z i c, x = .str z ∧ y = .int i ∧ z.length ≤ sizeLine ∧ atI z.cps.toList i = some c ∧ Q (.str ⟨#[c]⟩) H
theorem ix_list : IxR X (rIxL X.K) := by
  intro value slice pins s σ H x y v u Q I rx ry h hs
  obtain ⟨p, xs, i, z, rfl, rfl, hq, he, q⟩ := h
  cases rx
  obtain ⟨t, rfl⟩ := ry
  obtain ⟨its, r, pl, hz⟩ := I.list hq
  obtain ⟨j, h1, h2, h3, h4, h5⟩ := atI_get he
  obtain ⟨w, ew, rw'⟩ := r.get h2
  have hl := r.length
  have hn := line63
  have fin : EP X pins σ Q w s := ⟨z, H, I, rw', q⟩
  by_cases h0 : 0 ≤ i
  · have hj : i.toNat = j := by
      rw [seqIndex_of h0 h5] at h1
      exact Option.some.inj h1
    exact item_listR pl.isList h0 (by omega) (by rw [hj]; simpa using ew) fin hs
  · have hj : (i + (its.toArray.size : Int)).toNat = j := by
      rw [seqIndex_neg (by omega) h4] at h1
      rw [List.size_toArray, ← hl]
      exact Option.some.inj h1
    exact subscriptTail_builtinR (x := w) pl.isList.typeIs slot_list_getitem.lookup
      (wpAny_getItem_list_neg (Q := fun r s' => r = w ∧ EP X pins σ Q r s') pl.isList (by omega) (by rw [List.size_toArray] <;> omega) (by omega) (by rw [hj]; simpa using ew) ⟨rfl, fin⟩) hs
theorem ix_tup : IxR X (rIxT X.K) := by
  intro value slice pins s σ H x y v u Q I rx ry h hs
  obtain ⟨p, xs, i, z, rfl, rfl, hq, he, q⟩ := h
  cases rx
  obtain ⟨t, rfl⟩ := ry
  obtain ⟨its, r, pl, hz⟩ := I.tuple hq
  obtain ⟨j, h1, h2, h3, h4, h5⟩ := atI_get he
  obtain ⟨w, ew, rw'⟩ := r.get h2
  have hl := r.length
  have hn := line63
  have fin : EP X pins σ Q w s := ⟨z, H, I, rw', q⟩
  exact subscriptTail_builtinR (x := w) pl.typeIs slot_tuple_getitem.lookup
    (getItem_tuple (j := j) (Q := fun r s' => r = w ∧ EP X pins σ Q r s') pl (by omega) (by omega) (by rw [List.size_toArray, ← hl]; exact h1) (by simpa using ew) ⟨rfl, fin⟩) hs
theorem ix_str : IxR X rIxS := by
  intro value slice pins s σ H x y v u Q I rx ry h hs
  obtain ⟨z, i, c, rfl, rfl, hz, he, q⟩ := h
  obtain ⟨t, rfl⟩ := rx
  obtain ⟨t', rfl⟩ := ry
  obtain ⟨j, h1, h2, h3, h4, h5⟩ := atI_get he
  have hl : z.cps.toList.length = z.length := by simp [Str.length]
  rw [hl] at h1 h4 h5
  have hn := line63
  exact tail_any (typeIs_str s z t) slot_str_getitem.lookup (getItem_str (c := c) (by
    have e1 : decide (i < -(2 ^ 63 : Int)) = false := decide_eq_false (by omega)
    have e2 : decide (i ≥ 2 ^ 63) = false := decide_eq_false (by omega)
    rw [e1, e2, Bool.or_false]) (by rw [h1]; simpa using h2) ⟨.str ⟨#[c]⟩, H, I.tok _, ⟨_, rfl⟩, q⟩) hs
def rIx (K : PySem.W.Frag) : R2 := fun x y H Q => rIxL K x y H Q ∨ rIxT K x y H Q ∨ rIxS x y H Q
theorem ix_seq : IxR X (rIx X.K) := ix_list.or (ix_tup.or ix_str)

theorem mapSeq_set (its : List Value) (n j : Nat) (u : Value) : Obj.mapSeq (·.setIfInBounds j u) { cls := .type "list", data := .seq its.toArray n } = { cls := .type "list", data := .seq (its.set j u).toArray n } := by
  simp [Obj.mapSeq]
theorem Inv.lst {pins : List (Addr × Obj)} {σ : St} {H : Hp} {s : Shared} {p : Addr} {xs : List V} (I : Inv X pins σ H s) (h : H p = some (.lst xs)) :
    ∃ (its : List Value) (n : Nat), Vals xs its ∧ s.heap.get? p = some { cls := .type "list", data := .seq its.toArray n } ∧ xs.length ≤ sizeLine := by
  obtain ⟨z, its, n, r, e⟩ := I.hok p _ h
  exact ⟨its, n, r, e, z⟩
theorem Inv.lstUpd {pins : List (Addr × Obj)} {σ : St} {H : Hp} {s : Shared} {p : Addr} {xs ys : List V} {its its' : List Value} {n n' : Nat} {f : Obj → Obj} (I : Inv X pins σ H s) (h : H p = some (.lst xs))
    (ho : s.heap.get? p = some { cls := .type "list", data := .seq its.toArray n }) (hf : f { cls := .type "list", data := .seq its.toArray n } = { cls := .type "list", data := .seq its'.toArray n' }) (r : Vals ys its') (hz : ys.length ≤ sizeLine) (t : Nat) :
    Inv X pins σ (upd H p (.lst ys)) { s with heap := s.heap.update p f, toks := t } := by
  have e : (s.heap.update p f).get? p = some { cls := .type "list", data := .seq its'.toArray n' } := by
    rw [Heap.get?_update_self f ho (by rw [hf] <;> rfl), hf]
  refine I.write (x := p) (e := p) (by rw [h]; trivial) (.inl rfl) (fun b u hb q => (Heap.get?_update_other _ _ (Ne.symm hb)).trans q) ⟨_, e⟩ ?_
  exact ⟨hz, its', n', r, e⟩
def rSetL : V → V → V → Hp → (Hp → Prop) → Prop := fun o i v H Q => ∃ p xs k j, o = .ref p ∧ i = .int k ∧ H p = some (.lst xs) ∧ ixN xs.length k = some j ∧ Q (upd H p (.lst (xs.set j v)))
theorem set_list : PSet X rSetL := by
  intro pins s σ H o i v ov iv u Q I ro ri rv h
  obtain ⟨p, xs, k, j, rfl, rfl, hp, hj, q⟩ := h
  cases ro
  obtain ⟨t, rfl⟩ := ri
  obtain ⟨its, n, r, ho, hz⟩ := I.lst hp
  obtain ⟨h1, h2, h3, h4⟩ := ixN_seq hj
  have hl := r.length
  have hn := line63
  have I' : Inv X pins σ (upd H p (.lst (xs.set j v))) { s with heap := s.heap.update p (Obj.mapSeq (·.setIfInBounds j u)) } :=
    I.lstUpd hp ho (mapSeq_set its n j u) (r.set rv j) (by rw [List.length_set]; exact hz) s.toks
  by_cases h0 : 0 ≤ k
  · have hk : k.toNat = j := by
      rw [seqIndex_of h0 h4] at h1
      exact Option.some.inj h1
    exact PySem.W.ki_setAt ho h0 (by omega) (by rw [List.size_toArray, ← hl]; exact h4) (by rw [hk]; exact ⟨_, I', q⟩)
  · have hk : (k + (its.toArray.size : Int)).toNat = j := by
      rw [seqIndex_neg (by omega) h3] at h1
      rw [List.size_toArray, ← hl]
      exact Option.some.inj h1
    exact PySem.W.ki_setBack ho (by omega) (by rw [List.size_toArray, ← hl]; exact h3) (by omega) (by rw [hk]; exact ⟨_, I', q⟩)

theorem slice_bounds (lo hi : Option Int) (n : Nat) : (sliceBounds lo hi none n).1 = ((HT.sIx n 0 lo : Nat) : Int) ∧ (sliceBounds lo hi none n).2.1 = ((HT.sIx n n hi : Nat) : Int) ∧ (sliceBounds lo hi none n).2.2 = 1 := by
  refine ⟨?_, ?_, rfl⟩
  · cases lo with
    | none => simp [sliceBounds, HT.sIx]
    | some i =>
      simp only [sliceBounds, HT.sIx, Option.getD_none, show (1 : Int) > 0 by decide, if_true]
      by_cases h : i < 0
      · simp only [h, if_true] <;> omega
      · simp only [h, if_false] <;> omega
  · cases hi with
    | none => simp [sliceBounds, HT.sIx]
    | some i =>
      simp only [sliceBounds, HT.sIx, Option.getD_none, show (1 : Int) > 0 by decide, if_true]
      by_cases h : i < 0
      · simp only [h, if_true] <;> omega
      · simp only [h, if_false] <;> omega
theorem slicePick_cut (its : List Value) (lo hi : Option Int) : slicePick its.toArray lo hi none = ((its.drop (HT.sIx its.length 0 lo)).take (HT.sIx its.length its.length hi - HT.sIx its.length 0 lo)).toArray := by
  obtain ⟨h1, h2, h3⟩ := slice_bounds lo hi its.toArray.size
  unfold slicePick
  rw [h1, h2, h3]
  simp only [sliceRange_one, pick_run, List.size_toArray] <;> rfl
def rSlL (K : PySem.W.Frag) : V → Option Int → Option Int → Hp → VK → Prop := fun x lo hi H Q => ∃ a xs, x = .ref a ∧ SqL K H a xs ∧ ∀ p, H p = none → Q (.ref p) (upd H p (.lst (cutV xs lo hi)))
theorem sl_list : SlR X (rSlL X.K) := by
  intro pins s σ H x v vl vu lo hi sl Q I rx hs pl pu h
  obtain ⟨a, xs, rfl, hx, q⟩ := h
  cases rx
  obtain ⟨its, r, ht, hz⟩ := I.list hx
  have hlen := r.length
  refine ⟨"list", _, slot_list_getitem.lookup, ht.isList.typeIs, ?_⟩
  refine wpAny_getItem_list_slice ht.isList hs pl pu .none (by simp) ?_ (by rw [List.size_toArray] <;> omega)
  rw [slicePick_cut, ← hlen]
  refine ⟨.ref s.heap.objs.size, _, I.laid (t' := s.toks) (o := .lst (cutV xs lo hi)) (fun b ob q => Heap.get?_push_of_some _ q) (Nat.le_refl _) ?_, rfl, q _ (I.hok.fresh (Nat.le_refl _))⟩
  exact ⟨Nat.le_trans (cutV_length xs lo hi) hz, _, 0, (r.drop (HT.sIx xs.length 0 lo)).take (HT.sIx xs.length xs.length hi - HT.sIx xs.length 0 lo), Heap.get?_push_size _ rfl⟩

def flatV : V → Bool
  | .non => true
  | .bl _ => true
  | .int _ => true
  | .str _ => true
  | _ => false
def eqV : V → V → Bool
  | .non, .non => true
  | .bl a, .bl b => a == b
  | .bl a, .int b => (if a then 1 else 0) == b
  | .int a, .bl b => a == (if b then 1 else 0)
  | .int a, .int b => a == b
  | .str a, .str b => a == b
  | _, _ => false
theorem eqAt_V {A : Around} {s : Shared} {y x : V} {u v : Value} (ry : RelV y u) (rx : RelV x v) (fy : flatV y = true) (fx : flatV x = true) : SeqAt.EqAt A s u v (eqV y x) := by
  cases y with
  | non =>
    cases ry
    cases x with
    | non => cases rx; exact SeqAt.EqAt.same _
    | bl b => cases rx; exact SeqAt.EqAt.none_bool b
    | int b => obtain ⟨t, rfl⟩ := rx; exact SeqAt.EqAt.none_int b t
    | str b => obtain ⟨t, rfl⟩ := rx; exact SeqAt.EqAt.none_str b t
    | _ => exact absurd (show false = true from fx) Bool.false_ne_true
  | bl a =>
    cases ry
    cases x with
    | non => cases rx; exact SeqAt.EqAt.bool_none a
    | bl b => cases rx; exact SeqAt.EqAt.bool_bool a b
    | int b => obtain ⟨t, rfl⟩ := rx; exact SeqAt.EqAt.bool_int a b t
    | str b => obtain ⟨t, rfl⟩ := rx; exact SeqAt.EqAt.bool_str a b t
    | _ => exact absurd (show false = true from fx) Bool.false_ne_true
  | int a =>
    obtain ⟨t', rfl⟩ := ry
    cases x with
    | non => cases rx; exact SeqAt.EqAt.int_none a t'
    | bl b => cases rx; exact SeqAt.EqAt.int_bool a t' b
    | int b => obtain ⟨t, rfl⟩ := rx; exact SeqAt.EqAt.int_int a t' b t
    | str b => obtain ⟨t, rfl⟩ := rx; exact SeqAt.EqAt.int_str a t' b t
    | _ => exact absurd (show false = true from fx) Bool.false_ne_true
  | str a =>
    obtain ⟨t', rfl⟩ := ry
    cases x with
    | non => cases rx; exact SeqAt.EqAt.str_none a t'
    | bl b => cases rx; exact SeqAt.EqAt.str_bool a t' b
    | int b => obtain ⟨t, rfl⟩ := rx; exact SeqAt.EqAt.str_int a t' b t
    | str b => obtain ⟨t, rfl⟩ := rx; exact SeqAt.EqAt.str_str a t' b t
    | _ => exact absurd (show false = true from fx) Bool.false_ne_true
  | _ => exact absurd (show false = true from fy) Bool.false_ne_true
def eqU (x : V) (u : Value) : Bool := match u with
  | .none => eqV .non x
  | .bool b => eqV (.bl b) x
  | .int i _ => eqV (.int i) x
  | .str z _ => eqV (.str z) x
  | _ => false
theorem eqU_of {x y : V} {u : Value} (r : RelV y u) (f : flatV y = true) : eqU x u = eqV y x := by
  cases y with
  | non => cases r; rfl
  | bl b => cases r; rfl
  | int i => obtain ⟨t, rfl⟩ := r; rfl
  | str z => obtain ⟨t, rfl⟩ := r; rfl
  | _ => exact absurd (show false = true from f) Bool.false_ne_true
theorem any_eqU {x : V} : ∀ {xs : List V} {us : List Value}, Vals xs us → xs.all flatV = true → us.any (eqU x) = xs.any fun y => eqV y x
  | _, _, .nil, _ => rfl
  | y :: xs, u :: us, .cons r t, f => by
    rw [List.all_cons, Bool.and_eq_true] at f
    rw [List.any_cons, List.any_cons, eqU_of r f.1, any_eqU t f.2]
theorem mem_eqAt {A : Around} {s : Shared} {x : V} {v : Value} (rx : RelV x v) (fx : flatV x = true) : ∀ {xs : List V} {us : List Value}, Vals xs us → xs.all flatV = true → ∀ u ∈ us, SeqAt.EqAt A s u v (eqU x u)
  | _, _, .nil, _ => fun u hu => by cases hu
  | y :: xs, u :: us, .cons r t, f => fun u' hu => by
    rw [List.all_cons, Bool.and_eq_true] at f
    rcases List.mem_cons.mp hu with rfl | hu
    · rw [eqU_of r f.1]; exact eqAt_V r rx f.1 fx
    · exact mem_eqAt rx fx t f.2 u' hu
def inV (x : V) (xs : List V) : Bool := xs.any fun y => eqV y x
def rIn (K : PySem.W.Frag) (neg : Bool) : R2 := fun x y H Q => ∃ p xs, y = .ref p ∧ (SqL K H p xs ∨ SqT K H p xs) ∧ flatV x = true ∧ xs.all flatV = true ∧ Q (.bl (if neg then !inV x xs else inV x xs)) H
theorem op_in_seq : OpR X (compareOp .In) (rIn X.K false) := by
  intro pins s σ H x y v u Q I rx ry h
  obtain ⟨p, xs, rfl, hq, fx, fs, q⟩ := h
  cases ry
  rcases hq with hq | hq
  · obtain ⟨its, r, pl, hz⟩ := I.list hq
    refine SeqAt.in_listAt (eqU x) pl.isList (fun w hw => mem_eqAt rx fx r fs w (by simpa using hw)) ⟨.bl _, H, I, rfl, ?_⟩
    rw [show its.toArray.any (eqU x) = its.any (eqU x) by simp, any_eqU r fs]
    exact q
  · obtain ⟨its, r, pl, hz⟩ := I.tuple hq
    refine SeqAt.in_tupleAt (eqU x) pl (fun w hw => mem_eqAt rx fx r fs w (by simpa using hw)) ⟨.bl _, H, I, rfl, ?_⟩
    rw [show its.toArray.any (eqU x) = its.any (eqU x) by simp, any_eqU r fs]
    exact q
theorem call_len_seq : CallR X (.builtin "len") (fun xs H Q => ∃ p ys, xs = [.ref p] ∧ (SqL X.K H p ys ∨ SqT X.K H p ys) ∧ Q (.int ys.length) H) := by
  intro pins s σ H xs us Q I r h
  obtain ⟨p, ys, rfl, hq, q⟩ := h
  obtain ⟨u, rfl, rx⟩ := vals1 r
  cases rx
  have hn := line63
  rcases hq with hq | hq
  · obtain ⟨its, r', pl, hz⟩ := I.list hq
    have hlen := r'.length
    exact Calls.call_len_list pl.isList (by simp only [List.size_toArray] <;> omega) ⟨.int ys.length, H, I.tok _, ⟨s.toks + 1, by rw [List.size_toArray, hlen]⟩, q⟩
  · obtain ⟨its, r', pl, hz⟩ := I.tuple hq
    have hlen := r'.length
    exact len_tuple pl (by simp only [List.size_toArray] <;> omega) ⟨.int ys.length, H, I.tok _, ⟨s.toks + 1, by rw [List.size_toArray, hlen]⟩, q⟩
theorem call_list_of : CallR X (.type "list") (fun xs H Q => ∃ p ys, xs = [.ref p] ∧ (SqL X.K H p ys ∨ SqT X.K H p ys) ∧ ∀ l, H l = none → Q (.ref l) (upd H l (.lst ys))) := by
  intro pins s σ H xs us Q I r h
  obtain ⟨p, ys, rfl, hq, q⟩ := h
  obtain ⟨u, rfl, rx⟩ := vals1 r
  cases rx
  have fin : ∀ (its : List Value), Vals ys its → ys.length ≤ sizeLine → ∀ (h' : Heap) (c' : Nat), (∀ b o', s.heap.get? b = some o' → h'.get? b = some o') →
      h'.get? s.heap.objs.size = some { cls := .type "list", dict := none, data := .seq its.toArray c', slots := #[] } → EP X pins σ Q (.ref s.heap.objs.size) { s with heap := h' } := fun its r' hz h' c' kp e =>
    ⟨.ref s.heap.objs.size, _, I.laid (t' := s.toks) kp (Nat.le_refl _) (show ObjOk X.prog X.w _ h' _ (.lst ys) from ⟨hz, its, c', r', e⟩), rfl, q _ (I.hok.fresh (Nat.le_refl _))⟩
  rcases hq with hq | hq
  · obtain ⟨its, r', pl, hz⟩ := I.list hq
    have hlen := r'.length
    obtain ⟨o, ho, hc, n, hd⟩ := pl.isList
    exact call_list_seq p (.inl rfl) ho hc hd (fun h' c' kp e => fin its r' hz h' c' kp e) (by simp only [List.size_toArray] <;> omega)
  · obtain ⟨its, r', pl, hz⟩ := I.tuple hq
    have hlen := r'.length
    obtain ⟨o, ho, hc, n, hd⟩ := pl
    exact call_list_seq p (.inr rfl) ho hc hd (fun h' c' kp e => fin its r' hz h' c' kp e) (by simp only [List.size_toArray] <;> omega)
def tyV (K : PySem.W.Frag) (T : String) (x : V) (H : Hp) : Prop := match x with
  | .str _ => T = "str"
  | .int _ => T = "int"
  | .ref p => (T = "list" ∧ ∃ xs, SqL K H p xs) ∨ (T = "tuple" ∧ ∃ o, K.lookup p = some o ∧ o.cls = .type "tuple" ∧ o.dict = none) ∨
      (T = "dict" ∧ ((∃ kvs, H p = some (.dK kvs)) ∨ ∃ kvs, H p = some (.dT kvs))) ∨ (T = "set" ∧ ∃ S n, H p = some (.set S n))
  | _ => False
theorem tyV_is {pins : List (Addr × Obj)} {σ : St} {H : Hp} {s : Shared} {T : String} {x : V} {v : Value} (I : Inv X pins σ H s) (r : RelV x v) (ty : tyV X.K T x H) :
    s.TypeIs v T ∧ ∀ a, v = .ref a → ∃ ob, s.heap.get? a = some ob ∧ ob.dict = none := by
  cases x with
  | str z =>
    obtain ⟨t, rfl⟩ := r
    cases (show T = "str" from ty)
    exact ⟨typeIs_str s z t, fun _ e => nomatch e⟩
  | int i =>
    obtain ⟨t, rfl⟩ := r
    cases (show T = "int" from ty)
    exact ⟨typeIs_int s i t, fun _ e => nomatch e⟩
  | ref p =>
    cases r
    rcases ty with ⟨rfl, xs, hq⟩ | ⟨rfl, o, hk, hc, hd⟩ | ⟨rfl, hk⟩ | ⟨rfl, S, n, hk⟩
    · obtain ⟨its, _, pl, _⟩ := I.list hq
      refine ⟨pl.isList.typeIs, fun a e => ?_⟩
      cases e
      obtain ⟨o, n, e, c, hd, _⟩ := pl
      exact ⟨o, e, hd⟩
    · refine ⟨⟨o, I.kIn p o hk, hc⟩, fun a e => ?_⟩
      cases e
      exact ⟨o, I.kIn _ o hk, hd⟩
    · have z : ∃ o, s.heap.get? p = some o ∧ o.ExactDict := by
        rcases hk with ⟨kvs, hk⟩ | ⟨kvs, hk⟩
        · obtain ⟨_, _, _, _, o, _, _, e, ex, _⟩ := I.hok p _ hk
          exact ⟨o, e, ex⟩
        · obtain ⟨_, _, _, _, o, _, _, e, ex, _⟩ := I.hok p _ hk
          exact ⟨o, e, ex⟩
      obtain ⟨o, e, ex⟩ := z
      refine ⟨⟨o, e, ex.1⟩, fun a e2 => ?_⟩
      cases e2
      exact ⟨o, e, ex.2.1⟩
    · obtain ⟨o, _, _, _, e, ex, _⟩ := I.hok p _ hk
      refine ⟨⟨o, e, ex.1⟩, fun a e2 => ?_⟩
      cases e2
      exact ⟨o, e, ex.2.1⟩
  | _ => exact False.elim ty
def tBM0 (K : PySem.W.Frag) (T : String) (r : V → List V → Hp → VK → Prop) (to : TE) : TE := fun σ H Q => to σ H fun x H1 => tyV K T x H1 ∧ r x [] H1 Q
def tBM (K : PySem.W.Frag) (T : String) (r : V → List V → Hp → VK → Prop) (to : TE) (t : TA) : TE := fun σ H Q => to σ H fun x H1 => tyV K T x H1 ∧ t σ H1 fun xs H2 => r x xs H2 Q
variable {o e : Expr} {es : List Expr} {to : TE} {t : TA} {name : Str} {apos cpos : Pos} {T id : String} {r : V → List V → Hp → VK → Prop}
theorem pe_bm (pa : PlainAttrs T) (slot : Slot T name id) (hty : typeOf (.builtin id) = pure (.type "method_descriptor")) (hm : MtR X id r) (ho : PE X o to) (ha : PA X (e :: es) t)
    (hbase : attributeBase o name X.env (eval o X.env) = eval o X.env := by rfl)
    (hfew : ((backTo cpos (starEach (e :: es) X.env)).all (fun x => !x.1) && (backToKw cpos (keywordEach [] X.env)).all (fun x => x.1.isSome)
      && decide ((e :: es).length + ([] : List Keyword).length + (if ([] : List Keyword).isEmpty then 0 else 1) < 30)) = true := by rfl)
    (hline : (apos.endLine == cpos.line) = true := by rfl) (hs : starEach (e :: es) X.env = (false, eval e X.env) :: starEach es X.env := by rfl) (hplain : (backTo cpos (starEach es X.env)).any (·.1) = false := by rfl) :
    PE X (.Call (.Attribute o name apos) (e :: es) [] cpos) (tBM X.K T r to t) := by
  intro pins s σ H Q I h
  refine wpAny_Call_method_late hbase hfew hline rfl (thn (ho pins s σ H _ I h) fun v s1 ⟨x, H1, I1, r1, ty, q1⟩ => ?_)
  obtain ⟨h1, h2⟩ := tyV_is I1 r1 ty
  refine ⟨T, id, pa, slot, hty, h1, h2, ?_⟩
  have hA := ha cpos pins s1 σ H1 _ I1 q1
  rw [hs] at hA ⊢
  refine Calls.callWith_builtin (by show (false || (backTo cpos (starEach es X.env)).any (·.1)) = false; rw [hplain] <;> rfl) (Calls.evalArgs_plain ?_)
  exact thn hA fun us s2 ⟨vs, H2, I2, r2, q2⟩ => hm pins s2 σ H2 x vs v us Q I2 r1 r2 q2
end
end L2

namespace L2
open PySem PySem.Spec PyProof.Rows

def MtM (X : Cx) (id : String) (r : V → List V → Hp → VK → Prop) : Prop :=
  ∀ (pins : List (Addr × Obj)) (s : Shared) (σ : St) (H : Hp) (x : V) (xs : List V) (v : Value) (us : List Value) (Q : VK), Inv X pins σ H s → RelV x v → Vals xs us → r x xs H Q →
    wpAny (model X.prog X.w) X.A (call (.builtin id) (v :: us)) (EP X pins σ Q) X.xe s

theorem Vals.one : ∀ {x : V} {us : List Value}, Vals [x] us → ∃ u, us = [u] ∧ RelV x u
  | _, _, .cons r .nil => ⟨_, rfl, r⟩
theorem Vals.rep {xs : List V} {us : List Value} (h : Vals xs us) : ∀ k : Nat, Vals (List.replicate k xs).flatten (List.replicate k us).flatten
  | 0 => .nil
  | k + 1 => by
    rw [List.replicate_succ, List.replicate_succ, List.flatten_cons, List.flatten_cons]
    exact Vals.append h (Vals.rep h k)
theorem foldl_rep (its : List Value) : ∀ (k : Nat) (acc : List Value),
    List.foldl (fun x1 x2 => x1 ++ x2) acc.toArray (List.replicate k its.toArray) = (acc ++ (List.replicate k its).flatten).toArray
  | 0, acc => by simp
  | k + 1, acc => by
    have e : acc.toArray ++ its.toArray = (acc ++ its).toArray := by simp
    have e2 : (acc ++ its) ++ (List.replicate k its).flatten = acc ++ (List.replicate (k + 1) its).flatten := by
      rw [List.replicate_succ, List.flatten_cons, List.append_assoc]
    rw [← e2, ← foldl_rep its k (acc ++ its), ← e, List.replicate_succ, List.foldl_cons]

section
variable {X : Cx} {pins : List (Addr × Obj)} {σ : St} {H : Hp} {s : Shared} {l b : Addr} {xs ys zs : List V}

theorem Inv.lset {its its' : List Value} {n : Nat} {f : Array Value → Array Value} {t' : Nat} (I : Inv X pins σ H s) (hH : H l = some (.lst xs))
    (e : s.heap.get? l = some { cls := .type "list", data := .seq its.toArray n }) (hf : f its.toArray = its'.toArray) (hv : Vals ys its') (hz : ys.length ≤ sizeLine) :
    Inv X pins σ (upd H l (.lst ys)) { s with heap := s.heap.update l (Obj.mapSeq f), toks := t' } := by
  have q := PySem.IsL.update e f
  rw [hf] at q
  refine I.write (x := l) (e := l) (by rw [hH]; exact trivial) (.inl rfl) (fun b' u hb hu => (Heap.get?_update_other s.heap (Obj.mapSeq f) (Ne.symm hb)).trans hu) ⟨_, q⟩ ?_
  exact ⟨hz, its', _, hv, q⟩
theorem Inv.lnew {its : List Value} {t' : Nat} (I : Inv X pins σ H s) (hv : Vals ys its) (hz : ys.length ≤ sizeLine) :
    Inv X pins σ (upd H s.heap.objs.size (.lst ys)) { s with heap := s.heap.push { cls := .type "list", data := .seq its.toArray }, toks := t' } :=
  I.laid (fun _ _ q => Heap.get?_push_of_some _ q) (Nat.le_refl _) ⟨hz, its, 0, hv, Heap.get?_push_size _ rfl⟩
theorem Inv.fresh (I : Inv X pins σ H s) : H s.heap.objs.size = none := I.hok.fresh (Nat.le_refl _)
theorem Inv.lstM (I : Inv X pins σ H s) (hH : H l = some (.lst xs)) : xs.length ≤ sizeLine ∧ ∃ (its : List Value) (n : Nat), Vals xs its ∧ xs.length = its.length ∧ s.heap.get? l = some { cls := .type "list", data := .seq its.toArray n } := by
  obtain ⟨z, its, n, r, e⟩ := I.hok l _ hH
  exact ⟨z, its, n, r, r.length, e⟩

theorem notLongL {n : Nat} (h : n ≤ sizeLine) : Builtin.List.listTooLong n = false := by
  unfold Builtin.List.listTooLong
  exact decide_eq_false (by omega)
end

section
variable {X : Cx}

def rAppend : V → List V → Hp → VK → Prop := fun x vs H Q => ∃ l xs y, x = .ref l ∧ vs = [y] ∧ H l = some (.lst xs) ∧ xs.length < sizeLine ∧ Q .non (upd H l (.lst (xs ++ [y])))
theorem mt_append : MtM X "list.append" rAppend := by
  intro pins s σ H x vs v us Q I rx rv h
  obtain ⟨l, xs, y, rfl, rfl, hH, hz, q⟩ := h
  cases rx
  obtain ⟨u, rfl, ru⟩ := rv.one
  obtain ⟨z, its, n, r, hl, e⟩ := I.lstM hH
  refine call_meets F.slot_list_append ⟨_, e, rfl⟩ F.entry_list_append (F.args_list_append_2 _ _) (PySem.list_append l its.toArray n u (by rw [List.size_toArray]; omega)) ⟨e, ?_⟩
  refine ⟨.non, _, I.lset (its' := its ++ [u]) hH e (by simp) (r.append (.cons ru .nil)) ?_, rfl, q⟩
  rw [List.length_append, List.length_singleton]
  omega

def rExtend : V → List V → Hp → VK → Prop := fun x vs H Q => ∃ l b xs zs, x = .ref l ∧ vs = [.ref b] ∧ H l = some (.lst xs) ∧ H b = some (.lst zs) ∧ xs.length + zs.length ≤ sizeLine ∧ Q .non (upd H l (.lst (xs ++ zs)))
theorem mt_extend : MtM X "list.extend" rExtend := by
  intro pins s σ H x vs v us Q I rx rv h
  obtain ⟨l, b, xs, zs, rfl, rfl, hH, hB, hz, q⟩ := h
  cases rx
  obtain ⟨u, rfl, ru⟩ := rv.one
  cases ru
  obtain ⟨z, its, n, r, hl, e⟩ := I.lstM hH
  obtain ⟨z2, its2, n2, r2, hl2, e2⟩ := I.lstM hB
  have hsz : its.toArray.size + its2.toArray.size ≤ sizeLine := by rw [List.size_toArray, List.size_toArray]; omega
  have hlong : ¬ (!its.toArray.isEmpty && Builtin.List.listTooLong (its.toArray.size + its2.toArray.size)) = true := by
    rw [notLongL hsz, Bool.and_false]
    exact Bool.false_ne_true
  refine call_meets F.slot_list_extend ⟨_, e, rfl⟩ F.entry_list_extend (F.args_list_extend_2 _ _)
    (AutoSeq1.list_extend_list_list_0 l its.toArray n b its2.toArray n2 hlong (by rw [List.size_toArray]; omega) (by omega)) ⟨e, e2, ?_⟩
  refine ⟨.non, _, I.lset (its' := its ++ its2) hH e (by simp) (r.append r2) ?_, rfl, q⟩
  rw [List.length_append]
  omega

def rPop : V → List V → Hp → VK → Prop := fun x vs H Q => ∃ l xs y, x = .ref l ∧ vs = [] ∧ H l = some (.lst xs) ∧ xs[xs.length - 1]? = some y ∧ Q y (upd H l (.lst xs.dropLast))
def rPopAt : V → List V → Hp → VK → Prop := fun x vs H Q => ∃ l xs i k y, x = .ref l ∧ vs = [.int i] ∧ H l = some (.lst xs) ∧ -(2 ^ 63) ≤ i ∧ i < 2 ^ 63 ∧ seqIndex? i xs.length = some k ∧ xs[k]? = some y ∧ Q y (upd H l (.lst (xs.eraseIdx k)))
def rReverse : V → List V → Hp → VK → Prop := fun x vs H Q => ∃ l xs, x = .ref l ∧ vs = [] ∧ H l = some (.lst xs) ∧ Q .non (upd H l (.lst xs.reverse))
def rClear : V → List V → Hp → VK → Prop := fun x vs H Q => ∃ l xs, x = .ref l ∧ vs = [] ∧ H l = some (.lst xs) ∧ Q .non (upd H l (.lst []))
def rCat : R2 := fun x y H Q => ∃ l b xs zs, x = .ref l ∧ y = .ref b ∧ H l = some (.lst xs) ∧ H b = some (.lst zs) ∧ xs.length + zs.length ≤ sizeLine ∧ ∀ p, H p = none → Q (.ref p) (upd H p (.lst (xs ++ zs)))
theorem op_cat : OpR X (binaryOp .Add) rCat := by
  intro pins s σ H x y v u Q I rx ry h
  obtain ⟨l, b, xs, zs, rfl, rfl, hH, hB, hz, q⟩ := h
  cases rx
  cases ry
  obtain ⟨z, its, n, r, hl, e⟩ := I.lstM hH
  obtain ⟨z2, its2, n2, r2, hl2, e2⟩ := I.lstM hB
  refine PySem.P.add_list e e2 ?_ (by rw [List.size_toArray, List.size_toArray]; omega)
  have ea : its.toArray ++ its2.toArray = (its ++ its2).toArray := by simp
  rw [ea]
  exact ⟨.ref _, _, I.lnew (t' := s.toks) (r.append r2) (by rw [List.length_append]; omega), rfl, q _ I.fresh⟩
def rRep : R2 := fun x y H Q => ∃ l k xs, x = .ref l ∧ y = .int k ∧ H l = some (.lst xs) ∧ -(2 ^ 63) ≤ k ∧ k < 2 ^ 63 ∧ xs.length * k.toNat ≤ sizeLine ∧
  ∀ p, H p = none → Q (.ref p) (upd H p (.lst (List.replicate k.toNat xs).flatten))
theorem len_rep {α : Type} (xs : List α) (k : Nat) : (List.replicate k xs).flatten.length = k * xs.length := by
  induction k with
  | zero => simp
  | succ k ih => rw [List.replicate_succ, List.flatten_cons, List.length_append, ih, Nat.succ_mul, Nat.add_comm]
theorem op_rep : OpR X (binaryOp .Mult) rRep := by
  intro pins s σ H x y v u Q I rx ry h
  obtain ⟨l, k, xs, rfl, rfl, hH, h1, h2, hz, q⟩ := h
  cases rx
  obtain ⟨t, rfl⟩ := ry
  obtain ⟨z, its, n, r, hl, e⟩ := I.lstM hH
  have hlen : its.toArray.size * k.toNat ≤ sizeLine := by rw [List.size_toArray, ← hl]; exact hz
  have hcap : ¬ its.toArray.size * k.toNat > (2 ^ 63 - 1) / 8 := by
    have : (sizeLine : Nat) ≤ (2 ^ 63 - 1) / 8 := by decide
    omega
  have hfit : ¬ (!Builtin.List.listFitsIndex k) = true := by
    rw [fitsIndex_both h1 h2]
    exact Bool.false_ne_true
  have hlong : ¬ Builtin.List.listTooLong (its.toArray.size * k.toNat) = true := by
    rw [notLongL hlen]
    exact Bool.false_ne_true
  have hnew : List.foldl (fun x1 x2 => x1 ++ x2) #[] (List.replicate (if its.toArray.isEmpty = true then 0 else k.toNat) its.toArray) = (List.replicate k.toNat its).flatten.toArray := by
    have f0 : ∀ m : Nat, List.foldl (fun x1 x2 => x1 ++ x2) #[] (List.replicate m its.toArray) = (List.replicate m its).flatten.toArray := fun m => by
      have := foldl_rep its m []
      rw [List.nil_append] at this
      exact this
    rw [f0]
    cases its with
    | nil => simp
    | cons a r' => rw [if_neg (by simp)]
  refine wpAny_binaryOp_repeat_ref (T := "list") (U := "int") (by decide) ⟨_, e, rfl⟩ (fun s' => typeIs_int s' k t) noFill_list_mul F.fills_int_mul F.slot_int_rmul repeat_list F.slot_int_index.lookup
    (call_meets F.slot_int_rmul (typeIs_int s k t) F.entry_int_rmul (F.args_int_rmul_2 _ _) (int___rmul___int_list k t l its.toArray n)
      ⟨e, rfl, ⟨_, e, rfl⟩, call_meets F.slot_list_mul ⟨_, e, rfl⟩ F.entry_list_mul (F.args_list_mul_2 _ _) (AutoListH.list___mul___list_int_3 l its.toArray n k t hfit hcap hlong) ⟨e, ?_⟩⟩)
  rw [hnew]
  exact ⟨.ref _, _, I.lnew (t' := s.toks) (r.rep k.toNat) (by rw [len_rep, Nat.mul_comm]; exact hz), rfl, q _ I.fresh⟩

end

section
variable {prog : Program} {w : World} {A : Around} {E : Value → Shared → Prop} {s : Shared}
end

section
variable {X : Cx}
end
end L2

namespace Att
open PySem PySem.W PySem.Calls PyProof.Rows

theorem ints_of_wellAll {P : Params} {h : Heap} : ∀ (ns : List Int) (vs : List Value), WellAll P h vs (ns.map WData.int) → IntsAre vs ns := by
  intro ns
  induction ns with
  | nil =>
    intro vs w
    rw [List.map_nil] at w
    cases w
    exact .nil
  | cons n ns ih =>
    intro vs w
    rw [List.map_cons] at w
    cases w with
    | cons a b =>
      cases a
      exact .cons _ _ (ih _ b)

theorem script_of {l : OpenLaw} {n : Nat} (hn : l.most = some n) {P : Params} {h : Heap} {args : List WData} {vals : List Value}
    (hpre : l.row.toRowW.claim.pre args = true) (hwl : WellAll P h vals args) :
    ∃ a vs ns, vals = [Value.ref a] ∧ args = [WData.list (ns.map WData.int)] ∧ h.get? a = some { cls := .type "list", data := .seq vs.toArray } ∧ IntsAre vs ns ∧ ns.length ≤ n := by
  have hsh : WShape.hasAll [] args [.list .int] = true := (pre_splitW hpre).1
  have hc : l.pre.holds [] { args := args } = true := (pre_splitW hpre).2
  obtain ⟨d, r, rfl, h1, h2⟩ := hasAllW_cons hsh
  obtain rfl := hasAllW_nil h2
  obtain ⟨xs, rfl, h3⟩ := hasW_list h1
  obtain ⟨ns, rfl⟩ := items_int h3
  have hlen : ns.length ≤ n := by
    unfold OpenLaw.pre at hc
    have h4 : (WTm.not (.lt (.lit (.int (n : Int))) (.len (.arg 0)))).holds [] { args := [.list (ns.map .int)] } = true := by
      have h4 := (holds_andW hc).1
      rw [hn] at h4
      exact h4
    have h5 := condW_of h4 (w_not (w_lt w_lit (w_len_list (w_arg rfl))))
    rw [List.length_map] at h5
    refine Nat.le_of_not_lt fun q => ?_
    have q' : (n : Int) < ((ns.length : Nat) : Int) := by omega
    first
      | (rw [decide_eq_true q'] at h5; exact absurd h5 (by decide))
      | (simp at h5; omega)
  cases hwl with
  | cons w1 w2 =>
    cases w2
    cases w1 with
    | list ho hall => exact ⟨_, _, ns, rfl, rfl, ho, ints_of_wellAll ns _ hall, hlen⟩

theorem post_true (l : OpenLaw) (args : List WData) : l.row.toRowW.claim.post args (.bool true) args = true :=
  postW_of (r := l.row.toRowW) (X := (true == true))
    (show WShape.has [] (.bool true) .bool = true by first | rfl | decide | simp [WShape.has, WShape.arms, WShape.armsAll])
    (show (WTm.eq .res (.lit (.bool true))).value [] { args := args, res := some (.bool true), after := args } = some (.bool (true == true)) from w_eq_bool (w_res rfl) w_lit) rfl

theorem attach_call {l : OpenLaw} {n : Nat} {q : Program} {loose : List Str} {XP : (Str → Option Value) → Heap → Prop} {YP : World → Heap → Prop} {d : DefRec}
    (hn : l.most = some n) (hdf : d.params.defaults = [])
    (call : ∀ (w : World) (s₀ s₁ : Shared) (mg mb : Str → Option Value) (fa : Addr) (o : Obj) (pm cd doc : Value) (a : Addr) (vs : List Value) (ns : List Int),
      Ground q loose [] XP w s₀ mg mb s₁.heap → YP w s₁.heap →
      s₁.heap.get? fa = some o → o.data = .func (docDef d.name d.params d.body d.scope pm cd doc) → s₁.heap.CodeRec cd d.name → mg d.name = some (.ref fa) →
      s₁.heap.get? a = some { cls := .type "list", data := .seq vs.toArray } → IntsAre vs ns → ns.length ≤ n → s₁.gens = #[] →
      codeAny (model l.prog w) callerA (.call (.ref fa) ⟨[.ref a], []⟩) (fun r s' => r = .ok (.ret (.bool true)) ∧ OldK s₁.heap s'.heap ∧ s'.os = s₁.os ∧ AllBare s'.gens) s₁) :
    WalkO q loose XP YP l.row.toRowW d [] (fun f vs => PySem.call f vs) := by
  intro w s₀ s₁ mg mb G Y fa o pm cd doc dV kV ho hd hcd hD hmg hg args vals as hpre hlay hrd hwl hlo
  obtain rfl : dV = .none := Dflts.none hD hdf
  obtain rfl : kV = .none := Dflts.noKw hD
  obtain ⟨a, vs, ns, rfl, rfl, hobj, hints, hlen⟩ := script_of hn hpre hwl
  refine enter_call (codeAny_mono (call w s₀ s₁ mg mb fa o pm cd doc a vs ns G Y ho (fd_plain hd) hcd hmg hobj hints hlen hg) fun r s' hq => ?_)
  obtain ⟨rfl, h2, h3, h4⟩ := hq
  exact ⟨.inl ⟨.bool true, .bool true, [], rfl, fun _ => rfl, .bool true, post_true l _, fun _ => ⟨List.Pairwise.nil, fun _ hm => (nomatch hm)⟩⟩, h2, h3, h4⟩

section
variable {prog : Program} {w : World} {A : Around} {E : Value → Shared → Prop} {s : Shared} {K : Frag}

def noObjs (h : Heap) : Heap := { h with objs := #[] }
def ledger (h : Heap) (L d : Addr) : List (Addr × Obj) := (List.range h.objs.size).filterMap fun a => if a = L ∨ a = d then none else (h.get? a).map fun o => (a, o)
end
end Att

namespace L2
open PySem PySem.Spec PyProof.Rows

theorem vals_ints : ∀ {vs : List Value} {ns : List Int}, IntsAre vs ns → Vals (ns.map V.int) vs
  | _, _, .nil => .nil
  | _, _, .cons n t h => .cons ⟨t, rfl⟩ (vals_ints h)

def Only (H : Hp) : Prop := ∀ b, H b = none ∨ ∃ o xs, H b = some (.frz o (.lst xs))

theorem law_call {P : Program} {w : World} {K : PySem.W.Frag} {mg mb : Str → Option Value} {CX : CXT} {k : Nat} {fa a : Addr} {fd : FuncData} {x : Str} {sp : Sp} {s₁ : Shared} {vs : List Value} {ns : List Int}
    (KX : K.In s₁.heap) (hns : s₁.heap.Ns mainGlobals mg) (hb : s₁.heap.Ns builtinsNs mb) (hbb : ∀ x : Str, x ≠ "__name__" → mb x = bootBuiltins x) (hlim : s₁.heap.NoLimit) (hg : s₁.gens = #[])
    (ha : s₁.heap.get? a = some { cls := .type "list", data := .seq vs.toArray }) (hi : IntsAre vs ns) (hl : ns.length ≤ sizeLine) (hr : Room k callerA)
    (F : ∀ base : Heap, K.In base → base.Ns mainGlobals mg → FnOk P w K mg base CX k fa fd [x] sp) (hbind : ∀ (s : Shared) (u : Value), BindsTo s fd ⟨[u], []⟩ [(x, u)])
    (hsp : ∀ H : Hp, Only H → SqL K H a (ns.map V.int) → sp [.ref a] H (fun v _ => v = .bl true) fun _ _ _ => False)
    (hCX : ∀ H e s', CX [] H s₁ (fun _ _ _ => False) e s' → False) :
    codeAny (model P w) callerA (.call (.ref fa) ⟨[.ref a], []⟩) (fun r s' => r = .ok (.ret (.bool true)) ∧ OldK s₁.heap s'.heap ∧ s'.os = s₁.os ∧ AllBare s'.gens) s₁ := by
  have rv := vals_ints hi
  have lenV := hi.length
  -- from an abstract heap in which nothing but the script may be tracked
  have core : ∀ H : Hp, Only H → SqL K H a (ns.map V.int) → HOk P w H s₁.heap → (∀ b, H b ≠ none → b = a) → (H a ≠ none → K.lookup a = none) →
      codeAny (model P w) callerA (.call (.ref fa) ⟨[.ref a], []⟩) (fun r s' => r = .ok (.ret (.bool true)) ∧ OldK s₁.heap s'.heap ∧ s'.os = s₁.os ∧ AllBare s'.gens) s₁ := by
    intro H hO hS hok hA hK
    have base_of : ∀ {b : Addr} {o : Obj}, s₁.heap.get? b = some o → H b = none → (hidT s₁.heap H).get? b = some o := fun e n => hidT_get e n
    have noA : ∀ {b : Addr} {o : Obj} {es : Array DictEntry} {ep : Nat}, s₁.heap.get? b = some o → o.data = .dict es ep → H b = none := fun {b o es ep} e d => by
      cases q : H b with
      | none => rfl
      | some u =>
        have e' : b = a := hA b (by rw [q]; simp)
        subst e'
        rw [ha] at e; cases e
        have d' : Data.seq vs.toArray _ = Data.dict es ep := d
        cases d'
    have nsK : ∀ {b : Addr} {m : Str → Option Value}, s₁.heap.Ns b m → (hidT s₁.heap H).Ns b m := fun {b m} ⟨o, es, ep, e, d, r⟩ => ⟨o, es, ep, base_of e (noA e d), d, r⟩
    have hKb : K.In (hidT s₁.heap H) := fun b o e => base_of (KX b o e) (by
      cases q : H b with
      | none => rfl
      | some u =>
        have e' : b = a := hA b (by rw [q]; simp)
        subst e'
        rw [hK (by rw [q]; simp)] at e; cases e)
    have hM : Mod K mg (hidT s₁.heap H) := ⟨hKb, nsK hns, ⟨mb, nsK hb, hbb⟩, let ⟨mc, h1, h2⟩ := hlim; ⟨mc, nsK h1, h2⟩⟩
    have e0 : Env0 P w K mg (hidT s₁.heap H) callerA [] s₁ H := ⟨rfl, hM, fun b o e => of_hidT e, Nat.le_of_eq (hidT_size _ _), trivial, fun b hb => absurd (show b ∈ ([] : List Addr) from hb) (by simp), hok, .of_eq hg⟩
    refine codeAny_mono ((F _ hKb (nsK hns)).run callerA [] s₁ H ⟨[.ref a], []⟩ [.ref a] [.ref a] _ _ hr e0 (hbind s₁ (.ref a)) (.cons rfl .nil) (hsp H hO hS)) fun r s' h => ?_
    cases r with
    | error e => exact (hCX H e s' h).elim
    | ok fl =>
      cases fl with
      | next => exact False.elim h
      | brk => exact False.elim h
      | cont => exact False.elim h
      | ret u =>
        obtain ⟨v, H', os, bare, un, hok', r', q⟩ := h
        have q' : v = .bl true := q
        subst q'
        obtain rfl : u = Value.bool true := r'
        refine ⟨rfl, OldK.of_keep fun b o e => ?_, os, bare⟩
        cases q : H b with
        | none => exact un.keep b o e q (by intro z; exact absurd (show b ∈ ([] : List Addr) from z) (by simp)) (by simp)
        | some u =>
          rcases hO b with z | ⟨ob, xs, z⟩
          · rw [q] at z; cases z
          · have z2 := un.frzs b ob _ z
            obtain ⟨e1, _⟩ := hok b _ z
            obtain ⟨e2, _⟩ := hok' b _ z2
            rw [e] at e1; cases e1
            exact e2
  cases hk : K.lookup a with
  | some o =>
    -- the script is one of the module's own objects
    have e := KX a o hk
    rw [ha] at e
    cases e
    refine core (fun _ => none) (fun _ => .inl rfl) (.inr ⟨_, vs.toArray, _, hk, rfl, rfl, rfl, by rw [List.size_toArray, lenV]; exact hl, by simpa using rv⟩) (fun b u z => by have z' : (none : Option HO) = some u := z; cases z') (fun b z => absurd rfl z) fun z => absurd rfl z
  | none =>
    refine core (fun b => if b = a then some (.frz { cls := .type "list", data := .seq vs.toArray } (.lst (ns.map V.int))) else none) (fun b => ?_) (.inl (.inr ⟨{ cls := .type "list", data := .seq vs.toArray }, if_pos rfl⟩)) (fun b u z => ?_) (fun b z => ?_) fun _ => hk
    · by_cases hb : b = a
      · exact .inr ⟨_, _, if_pos hb⟩
      · exact .inl (if_neg hb)
    · by_cases hb : b = a
      · have z' := (if_pos hb).symm.trans z
        cases z'
        subst hb
        exact ⟨ha, by rw [List.length_map]; exact hl, vs, _, rv, ha⟩
      · have z' := (if_neg hb).symm.trans z
        cases z'
    · by_cases hb : b = a
      · exact hb
      · exact absurd (if_neg hb) z
end L2

namespace L2
open PySem PySem.Spec PyProof.Rows

abbrev KOf {K : PySem.W.Frag} {h : Heap} (_ : K.In h) : PySem.W.Frag := K

theorem walk_of {l : PySem.W.OpenLaw} {n k : Nat} {q : Program} {loose : List Str} {XP : (Str → Option Value) → Heap → Prop} {YP : World → Heap → Prop} {d : DefRec} {K : Params → PySem.W.Frag} {CX : World → CXT} {sp : World → Sp} {x : Str}
    (hn : l.most = some n) (hn2 : n ≤ sizeLine) (hdf : d.params.defaults = []) (hr : Room k callerA)
    (hY : ∀ (w : World) (h : Heap), YP w h → (K w.params).In h)
    (F : ∀ (w : World) (mg : Str → Option Value) (fa : Addr) (h : Heap), (K w.params).In h → h.Ns mainGlobals mg → mg d.name = some (.ref fa) →
      ∃ fd : FuncData, (∀ (s : Shared) (u : Value), BindsTo s fd ⟨[u], []⟩ [(x, u)]) ∧
        ∀ base : Heap, (K w.params).In base → base.Ns mainGlobals mg → FnOk l.prog w (K w.params) mg base (CX w) k fa fd [x] (sp w))
    (hsp : ∀ (w : World) (H : Hp) (a : Addr) (ns : List Int), ns.length ≤ n → Only H → SqL (K w.params) H a (ns.map V.int) → sp w [.ref a] H (fun v _ => v = .bl true) fun _ _ _ => False)
    (hCX : ∀ (w : World) (H : Hp) (s : Shared) (e : Value) (s' : Shared), CX w [] H s (fun _ _ _ => False) e s' → False) :
    PySem.W.WalkO q loose XP YP l.row.toRowW d [] (fun f vs => PySem.call f vs) := by
  refine Att.attach_call hn hdf fun w s₀ s₁ mg mb fa o pm cd doc a vs ns G Y ho hd hcd hmg hobj hints hlen hg => ?_
  have KX := hY w _ Y
  obtain ⟨fd, hb, hF⟩ := F w mg fa _ KX G.T.g hmg
  exact law_call KX G.T.g G.T.b G.T.builtins G.T.nolimit hg hobj hints (Nat.le_trans hlen hn2) hr hF hb (fun H hO hS => hsp w H a ns hlen hO hS) fun H e s' => hCX w H s₁ e s'
end L2


namespace L2
open PySem PySem.Spec PyProof.Rows

def inClass (s : Stmt) (j : Nat) : Stmt := match s with
  | .ClassDef _ _ _ body _ _ _ _ _ _ _ => body.getD j (.Pass ⟨0, 0, 0, 0⟩)
  | _ => .Pass ⟨0, 0, 0, 0⟩
def defArgs (s : Stmt) : Arguments := match s with
  | .FunctionDef _ a _ _ _ _ _ _ _ _ => a
  | _ => { posonlyargs := [], args := [], vararg := none, kwonlyargs := [], kw_defaults := [], kwarg := none, defaults := [] }
def defBody (s : Stmt) : List Stmt := match s with
  | .FunctionDef _ _ b _ _ _ _ _ _ _ => b
  | _ => []
def defScope (s : Stmt) : Scope := match s with
  | .FunctionDef _ _ _ _ _ _ sc _ _ _ => sc
  | _ => { kind := .function, names := [], isGenerator := false, isCoroutine := false }

abbrev CX0 : CXT := fun _ _ _ _ _ _ => False
abbrev E0 : XK := fun _ _ _ => False
structure Fun (K : PySem.W.Frag) (x qual : Str) (st : Stmt) (f : Addr) (fd : FuncData) : Prop where
  ex : ∃ (oc : Value) (od : Option Addr) (kV doc pm : Value) (an : Option Addr) (cdv ct : Value) (osl : Array (Option Value)),
    fd = PySem.W.fnOf x qual (defArgs st) (defBody st) (defScope st) .none kV doc pm an cdv ct ∧ K.lookup f = some ⟨oc, od, .func fd, osl⟩ ∧ PySem.W.codeIn K cdv qual = true
  kp : PySem.W.keepIn K (.ref f) = true
section
variable {P : Program} {w : World} {K : PySem.W.Frag} {mg : Str → Option Value} {base : Heap}
theorem Fun.binds {x qual : Str} {st : Stmt} {f : Addr} {fd : FuncData} {ps : List Str} (F : Fun K x qual st f fd)
    (h : ∀ (kV doc pm : Value) (an : Option Addr) (cdv ct : Value) (us : List Value), us.length = ps.length → bindArgs (PySem.W.fnOf x qual (defArgs st) (defBody st) (defScope st) .none kV doc pm an cdv ct) ⟨us, []⟩ = pure (ps.zip us)) : Binds K fd ps [] := by
  obtain ⟨oc, od, kV, doc, pm, an, cdv, ct, osl, rfl, lk, hcd⟩ := F.ex
  exact .all (h kV doc pm an cdv ct)
theorem fun_mk {x qual : Str} {st : Stmt} {f : Addr} {oc : Value} {od an : Option Addr} {osl : Array (Option Value)} {kV doc pm cdv ct : Value} (l : K.lookup f = some ⟨oc, od, .func (PySem.W.fnOf x qual (defArgs st) (defBody st) (defScope st) .none kV doc pm an cdv ct), osl⟩)
    (c : PySem.W.codeIn K cdv qual = true) (k : PySem.W.keepIn K (.ref f) = true) : Fun K x qual st f (PySem.W.fnOf x qual (defArgs st) (defBody st) (defScope st) .none kV doc pm an cdv ct) := ⟨⟨oc, od, kV, doc, pm, an, cdv, ct, osl, rfl, l, c⟩, k⟩
end
theorem hu_of {A : Around} {k : Nat} (hr : Room k A) : A.units + 1 < cLine := Nat.lt_of_le_of_lt (Nat.add_le_add_left (by decide : 1 ≤ 64) _) hr.units
section
variable {X : Cx}
theorem pv (i : Nat) {x : Str} {pos : Pos} (hN : X.N[i]? = some x := by rfl) (hv : Vis X.env.scope x := by first | exact Or.inl rfl | exact Or.inr (Or.inl rfl) | exact Or.inr (Or.inr rfl)) (hd : (x == ("__debug__" : Str)) = false := by decide)
    (hcd : (x == ("__classdict__" : Str)) = false := by decide) : PE X (.Name x pos) (tVar i) := pe_var hN hv hd hcd
end

theorem iteF {A B : Prop} (h : B) : if false = true then A else B := by
  rw [if_neg Bool.false_ne_true]
  exact h
theorem iteT {A B : Prop} (h : A) : if true = true then A else B := by
  rw [if_pos rfl]
  exact h
theorem ite2 {c A B : Prop} [Decidable c] (h1 : c → A) (h2 : ¬ c → B) : if c then A else B := by
  by_cases h : c
  · rw [if_pos h]
    exact h1 h
  · rw [if_neg h]
    exact h2 h
def Same (H H' : Hp) : Prop := ∀ b o, H b = some o → H' b = some o
theorem Same.refl (H : Hp) : Same H H := fun _ _ h => h
theorem Same.trans {H H1 H2 : Hp} (a : Same H H1) (b : Same H1 H2) : Same H H2 := fun c o h => b c o (a c o h)
theorem Same.free {H H' : Hp} (e : Same H H') {l : Addr} (h : H' l = Option.none) : H l = Option.none := by
  cases q : H l with
  | none => rfl
  | some o =>
    rw [e l o q] at h
    cases h
theorem Same.seq {K : PySem.W.Frag} {H H' : Hp} {a : Addr} {xs : List V} (e : Same H H') (h : SqL K H a xs) : SqL K H' a xs := by
  rcases h with (h | ⟨o, h⟩) | h
  · exact .inl (.inl (e _ _ h))
  · exact .inl (.inr ⟨o, e _ _ h⟩)
  · exact .inr h

end L2

namespace L2
open PySem PySem.Spec PyProof.Rows

end L2

namespace L2
open PySem PySem.Spec PyProof.Rows





end L2

namespace L2
open PySem PySem.Spec PyProof.Rows

section
variable {X : Cx} {pins : List (Addr × Obj)} {σ : List (Option V)} {H H' : Hp} {s : Shared} {h' : Heap}

end

end L2

namespace L2
open PySem PySem.Spec PyProof.Rows
section
variable {X : Cx}

variable {a b : Expr} {ta tb : TE} {pos : Pos}
variable {tA tB' : TT} {rest : List Expr}
end
end L2

namespace L2
open PySem PySem.Spec PyProof.Rows






end L2

namespace L2
open PySem PySem.Spec PyProof.Rows

end L2

namespace L2
open PySem PySem.Spec PyProof.Rows

section
variable {X : Cx} {a b c : Expr} {ta tb tc : TE} {pos : Pos}

end

end L2

namespace L2
open PySem PySem.Spec PyProof.Rows

section
variable {prog : Program} {w : World} {A : Around} {E : Value → Shared → Prop} {s : Shared} {K : PySem.W.Frag} {x dx C f : Addr} {mA : Str → Option Value} {name : Str} {v : Value}

end


section
variable {X : Cx} {pins : List (Addr × Obj)} {σ : St} {H : Hp} {s : Shared} {a C dx : Addr} {fs : List (Str × V)} {f : Str} {v : V} {A : Around} {E : Value → Shared → Prop}

end


end L2

namespace L2
open PySem PySem.Spec PyProof.Rows



section
variable {X : Cx} {CX : CXT} {k : Nat} {f C : Addr} {fd : FuncData} {ps : List Str} {sp : Sp} {dvs : List V} {ds : List Value} {E : XK} {x m : Str} {p pos apos : Pos} {e o : Expr} {es : List Expr} {ta : TE} {t : TA}

end


end L2

namespace L2
open PySem PySem.Spec PyProof.Rows
section
variable {X : Cx} {x : Str} {p pos : Pos} {e : Expr} {es : List Expr} {t : TA} {id T : String} {r : List V → Hp → VK → Prop}

end
end L2

namespace L2
open PySem PySem.Spec PyProof.Rows

section
variable {κ : Type} [DecidableEq κ]
def valV (kvs : List (κ × V)) (k : κ) : Option V := (kvs.find? fun kv => decide (kv.1 = k)).map (·.2)
def putK (kvs : List (κ × V)) (k : κ) (v : V) : List (κ × V) :=
  if (kvs.any fun kv => decide (kv.1 = k)) = true then kvs.map (fun kv => if kv.1 = k then (kv.1, v) else kv) else kvs ++ [(k, v)]
def dropK (kvs : List (κ × V)) (k : κ) : List (κ × V) := kvs.filter fun kv => decide (kv.1 ≠ k)

theorem valV_pos {p : κ × V} {r : List (κ × V)} {k : κ} (e : p.1 = k) : valV (p :: r) k = some p.2 := by simp [valV, List.find?_cons, e]
theorem valV_neg {p : κ × V} {r : List (κ × V)} {k : κ} (e : ¬ p.1 = k) : valV (p :: r) k = valV r k := by simp [valV, List.find?_cons, e]
theorem valV_any (k : κ) : ∀ kvs : List (κ × V), (kvs.any fun kv => decide (kv.1 = k)) = (valV kvs k).isSome
  | [] => rfl
  | p :: r => by
    rw [List.any_cons]
    by_cases e : p.1 = k
    · simp only [valV_pos e, decide_eq_true e, Bool.true_or, Option.isSome_some]
    · rw [valV_neg e, decide_eq_false e, Bool.false_or]; exact valV_any k r
theorem length_putK (kvs : List (κ × V)) (k : κ) (v : V) : (putK kvs k v).length ≤ kvs.length + 1 := by
  unfold putK
  split
  · rw [List.length_map]; omega
  · rw [List.length_append, List.length_cons, List.length_nil]; omega
theorem RelO.isSome_eq {o : Option V} {u : Option Value} (r : RelO o u) : o.isSome = u.isSome := by
  cases o with
  | none => cases u with
    | none => rfl
    | some _ => exact (show False from r).elim
  | some _ => cases u with
    | none => exact (show False from r).elim
    | some _ => rfl
theorem KV.any {kvs : List (κ × V)} {vs : List (κ × Value)} (r : KV kvs vs) (k : κ) : (kvs.any fun kv => decide (kv.1 = k)) = vs.any fun kv => decide (kv.1 = k) := by
  unfold KV at r
  induction r with
  | nil => rfl
  | cons h t ih => rw [List.any_cons, List.any_cons, ih, h.1]
theorem KV.repl {kvs : List (κ × V)} {vs : List (κ × Value)} (r : KV kvs vs) (k : κ) {y : V} {u : Value} (ry : RelV y u) :
    KV (kvs.map fun kv => if kv.1 = k then (kv.1, y) else kv) (vs.map fun kv => if kv.1 = k then (kv.1, u) else kv) := by
  unfold KV at r ⊢
  induction r with
  | nil => exact .nil
  | @cons p q ps qs h t ih =>
    rw [List.map_cons, List.map_cons]
    refine .cons ?_ ih
    obtain ⟨h1, h2⟩ := h
    by_cases e : p.1 = k
    · rw [if_pos e, if_pos (h1.symm.trans e)]; exact ⟨h1, ry⟩
    · rw [if_neg e, if_neg (fun z => e (h1.trans z))]; exact ⟨h1, h2⟩
theorem KV.put {kvs : List (κ × V)} {vs : List (κ × Value)} (r : KV kvs vs) (k : κ) {y : V} {u : Value} (ry : RelV y u) : KV (putK kvs k y) (stored vs k u) := by
  unfold putK stored
  rw [r.any k]
  by_cases e : (vs.any fun kv => decide (kv.1 = k)) = true
  · rw [if_pos e, if_pos e]; exact r.repl k ry
  · rw [if_neg e, if_neg e]; exact Paired.snoc r ⟨rfl, ry⟩
theorem KV.length {kvs : List (κ × V)} {vs : List (κ × Value)} (r : KV kvs vs) : kvs.length = vs.length := Paired.length r
end


theorem kV_is {P : Program} {w : World} {k : Key} {u : Value} (r : RelV (kV k) u) : (mixKind P w).is k u = true := by
  cases k with
  | inl i => obtain ⟨t, e⟩ := (show ∃ t, u = Value.int i t from r); subst e; exact mixKind_int P w i t
  | inr x => obtain ⟨t, e⟩ := (show ∃ t, u = Value.str x t from r); subst e; exact mixKind_str P w x t
theorem items_are {P : Program} {w : World} : ∀ {ks : List Key} {us : List Value}, Vals (ks.map kV) us → ItemsAre (mixKind P w) ks us
  | [], _, r => by rw [List.map_nil] at r; cases r; exact .nil
  | k :: ks, _, r => by
    rw [List.map_cons] at r
    cases r with
    | cons h t => exact .cons (kV_is h) (items_are t)

abbrev KT (H : Hp) : List (List Key × V) → List (List Key × Addr × Value) → Prop := Paired fun p q => p.1 = q.1 ∧ H q.2.1 = some (.tup (p.1.map kV)) ∧ RelV p.2 q.2.2
theorem KT.val {H : Hp} {kvs : List (List Key × V)} {xs : List (List Key × Addr × Value)} (r : KT H kvs xs) (k : List Key) : RelO (valV kvs k) ((atKey xs k).map (·.2)) := by
  induction r with
  | nil => exact True.intro
  | @cons p q ps qs h t ih =>
    obtain ⟨h1, _, h2⟩ := h
    by_cases e : p.1 = k
    · have e' : q.1 = k := h1.symm.trans e
      have b : atKey (q :: qs) k = some q.2 := by simp [atKey, List.find?_cons, e']
      rw [valV_pos e, b]; exact h2
    · have e' : ¬ q.1 = k := fun z => e (h1.trans z)
      have b : atKey (q :: qs) k = atKey qs k := by simp [atKey, List.find?_cons, e']
      rw [valV_neg e, b]; exact ih
theorem KT.repl {H : Hp} {kvs : List (List Key × V)} {xs : List (List Key × Addr × Value)} (r : KT H kvs xs) (k : List Key) {y : V} {u : Value} (ry : RelV y u) :
    KT H (kvs.map fun kv => if kv.1 = k then (kv.1, y) else kv) (xs.map (putAt k u)) := by
  induction r with
  | nil => exact .nil
  | @cons p q ps qs h t ih =>
    rw [List.map_cons, List.map_cons]
    refine .cons ?_ ih
    obtain ⟨h1, h2, h3⟩ := h
    unfold putAt
    by_cases e : p.1 = k
    · rw [if_pos e, if_pos (h1.symm.trans e)]; exact ⟨h1, h2, ry⟩
    · rw [if_neg e, if_neg (fun z => e (h1.trans z))]; exact ⟨h1, h2, h3⟩
theorem KT.put {H : Hp} {kvs : List (List Key × V)} {xs : List (List Key × Addr × Value)} (r : KT H kvs xs) (k : List Key) {b : Addr} {y : V} {u : Value} (hb : H b = some (.tup (k.map kV))) (ry : RelV y u) :
    KT H (putK kvs k y) (storedH xs k b u) := by
  have e : (kvs.any fun kv => decide (kv.1 = k)) = (atKey xs k).isSome := by
    rw [valV_any, (r.val k).isSome_eq, Option.isSome_map]
  unfold putK storedH
  rw [e]
  by_cases q : (atKey xs k).isSome = true
  · rw [if_pos q, if_pos q]; exact r.repl k ry
  · rw [if_neg q, if_neg q]; exact Paired.snoc r ⟨rfl, hb, ry⟩
theorem KT.keeps {H H' : Hp} {kvs : List (List Key × V)} {xs : List (List Key × Addr × Value)} (r : KT H kvs xs) (ht : ∀ b ys, H b = some (.tup ys) → H' b = some (.tup ys)) : KT H' kvs xs :=
  Paired.mapP r fun _ _ z => ⟨z.1, ht _ _ z.2.1, z.2.2⟩

section
variable {P : Program} {w : World} {H : Hp} {h : Heap} {a : Addr}
theorem rd_of {u : HO} (ok : HOk P w H h) (e : Rd H a u) : ObjOk P w H h a u := e.ok ok
theorem dk_rd {kvs : List (Key × V)} (ok : HOk P w H h) (e : Rd H a (.dK kvs)) : kvs.length ≤ sizeLine ∧ (a == sysModules) = false ∧ ∃ vs, KV kvs vs ∧ h.DictOf (mixKind P w) a vs :=
  show ObjOk P w H h a (.dK kvs) from rd_of ok e
theorem dk_of {kvs : List (Key × V)} (ok : HOk P w H h) (e : H a = some (.dK kvs)) : kvs.length ≤ sizeLine ∧ (a == sysModules) = false ∧ ∃ vs, KV kvs vs ∧ h.DictOf (mixKind P w) a vs := dk_rd ok (.inl e)
theorem key_of {ks : List Key} (ok : HOk P w H h) (e : H a = some (.tup (ks.map kV))) : (tupleKind (mixKind P w)).is h ks a := by
  obtain ⟨_, its, r, o, h1, h2, n, h3⟩ := (show ObjOk P w H h a (.tup (ks.map kV)) from ok a _ e)
  exact ⟨o, its.toArray, n, h1, h2, h3, by simpa using items_are r⟩
theorem dt_rd {kvs : List (List Key × V)} (ok : HOk P w H h) (e : Rd H a (.dT kvs)) : kvs.length ≤ sizeLine ∧ (a == sysModules) = false ∧
    ∃ xs, KT H kvs xs ∧ h.DictOfH (tupleKind (mixKind P w)) a xs := by
  obtain ⟨z, y, xs, r, o, es, ep, h1, h2, h3, h4, h5⟩ := (show ObjOk P w H h a (.dT kvs) from rd_of ok e)
  refine ⟨z, y, xs, r, o, es, ep, h1, h2, h3, h4, fun x hx => ?_, h5⟩
  have all : ∀ {l : List (List Key × V)} {m : List (List Key × Addr × Value)}, KT H l m → ∀ x ∈ m, (tupleKind (mixKind P w)).is h x.1 x.2.1 := by
    intro l m q
    induction q with
    | nil => intro x hx; exact nomatch hx
    | @cons p q ps qs hq t ih =>
      intro x hx
      rcases List.mem_cons.mp hx with e | hx
      · subst e
        exact key_of ok (by rw [← hq.1]; exact hq.2.1)
      · exact ih x hx
  exact all r x hx
theorem dt_of {kvs : List (List Key × V)} (ok : HOk P w H h) (e : H a = some (.dT kvs)) : kvs.length ≤ sizeLine ∧ (a == sysModules) = false ∧
    ∃ xs, KT H kvs xs ∧ h.DictOfH (tupleKind (mixKind P w)) a xs := dt_rd ok (.inl e)
end

def DGet (H : Hp) (a : Addr) (y : V) (r : Option V) : Prop :=
  (∃ kvs k, Rd H a (.dK kvs) ∧ y = kV k ∧ r = valV kvs k) ∨ ∃ kvs k b, Rd H a (.dT kvs) ∧ y = .ref b ∧ H b = some (.tup (k.map kV)) ∧ r = valV kvs k
def DPut (H : Hp) (a : Addr) (y v : V) (H' : Hp) : Prop :=
  (∃ kvs k, H a = some (.dK kvs) ∧ y = kV k ∧ kvs.length < sizeLine ∧ H' = upd H a (.dK (putK kvs k v))) ∨
  ∃ kvs k b, H a = some (.dT kvs) ∧ y = .ref b ∧ H b = some (.tup (k.map kV)) ∧ kvs.length < sizeLine ∧ H' = upd H a (.dT (putK kvs k v))
theorem DPut.k {H : Hp} {a : Addr} {kvs : List (Key × V)} {k : Key} {v : V} (e : H a = some (.dK kvs)) (hl : kvs.length < sizeLine) : DPut H a (kV k) v (upd H a (.dK (putK kvs k v))) := .inl ⟨kvs, k, e, rfl, hl, rfl⟩
section
variable {X : Cx} {pins : List (Addr × Obj)} {σ : St} {H : Hp} {s : Shared} {a : Addr} {y v : V} {u r : Value} {o : Option V} {A : Around} {E : Value → Shared → Prop}

theorem Inv.big (I : Inv X pins σ H s) : sysModules < s.heap.objs.size := by
  have h : mainGlobals < s.heap.objs.size := (I.mod.glob.keeps I.bk).lt
  exact Nat.lt_trans (by decide) h

theorem d_write {h' : Heap} {t' : Nat} {ob : HO} (I : Inv X pins σ H s) (mu : Mut (H a)) (hs : Heap.SameBut a s.heap h') (he : ∃ q, h'.get? a = some q) (new : ObjOk X.prog X.w (upd H a ob) h' a ob) :
    Inv X pins σ (upd H a ob) { s with heap := h', toks := t' } :=
  I.write (x := a) (e := a) mu (.inl rfl) (fun b q hb z => (hs.2 b hb).trans z) he new
theorem dk_new {P : Program} {w : World} {H' : Hp} {h' : Heap} {kvs : List (Key × V)} {vs : List (Key × Value)} (z : kvs.length ≤ sizeLine) (hd : (a == sysModules) = false) (rel : KV kvs vs) (dd : h'.DictOf (mixKind P w) a vs) :
    ObjOk P w H' h' a (.dK kvs) := ⟨z, hd, vs, rel, dd⟩
theorem d_setItem {H' : Hp} {Q : Unit → Shared → Prop} (hu : A.units + 1 < cLine) (I : Inv X pins σ H s) (g : DPut H a y v H') (ry : RelV y u) (rv : RelV v r) (h : ∀ s', Inv X pins σ H' s' → Q () s') :
    wpAny (model X.prog X.w) A (setItem (.ref a) u r) Q E s := by
  rcases g with ⟨kvs, k, e, ey, l, eH⟩ | ⟨kvs, k, b, e, ey, eb, l, eH⟩
  · subst ey eH
    obtain ⟨z, hd, vs, rel, dd⟩ := dk_of I.hok e
    have hz : vs.length ≤ sizeLine := by rw [← rel.length]; exact z
    have hl : (putK kvs k v).length ≤ sizeLine := by have := length_putK kvs k v; omega
    refine wpAny_setItem_pairs (hsz := hz) (kV_is ry) dd fun h' dd' hs => h _ ?_
    have he : ∃ q, h'.get? a = some q := let ⟨q, _, _, hq, _⟩ := dd'; ⟨q, hq⟩
    exact d_write I (by rw [e]; exact True.intro) hs he (dk_new hl hd (rel.put k rv) dd')
  · subst ey eH
    cases (show u = Value.ref b from ry)
    obtain ⟨z, hd, xs, rel, dd⟩ := dt_of I.hok e
    have hz : xs.length ≤ sizeLine := by rw [← Paired.length rel]; exact z
    have hl : (putK kvs k v).length ≤ sizeLine := by have := length_putK kvs k v; omega
    refine wpAny_setItem_heap (hsz := hz) (tupleKind_room_in1 hu) (key_of I.hok eb) dd fun h' dd' hs => h _ ?_
    obtain ⟨q, es, ep, hq, h2, h3, h4, _, h5⟩ := dd'
    refine d_write I (by rw [e]; exact True.intro) hs ⟨q, hq⟩ ⟨hl, hd, _, (rel.put k eb rv).keeps fun c ys ec => ?_, q, es, ep, hq, h2, h3, h4, h5⟩
    rw [upd_ne (ne_of ec e (fun z => nomatch z))]
    exact ec
end

section
variable {X : Cx} {pins : List (Addr × Obj)} {σ : St} {H : Hp} {s : Shared} {a : Addr} {kvs : List (Key × V)} {k : Key} {u : Value} {A : Around} {E : Value → Shared → Prop}
end


def NoSl (i : Expr) : Prop := ∀ ov iv, subscripted i false ov iv = operate [ov, iv] (getItem ov iv)
def tDGet (td ty : TE) : TE := fun σ H Q => td σ H fun x H1 => ty σ H1 fun y H2 => ∃ a v, x = .ref a ∧ DGet H2 a y (some v) ∧ Q v H2
def tDIn (ty td : TE) : TE := fun σ H Q => ty σ H fun y H1 => td σ H1 fun x H2 => ∃ a o, x = .ref a ∧ DGet H2 a y o ∧ Q (.bl o.isSome) H2
def tDNotIn (ty td : TE) : TE := fun σ H Q => ty σ H fun y H1 => td σ H1 fun x H2 => ∃ a o, x = .ref a ∧ DGet H2 a y o ∧ Q (.bl (!o.isSome)) H2
def sDPut (td ty tv : TE) : TS := fun D σ H => tv σ H fun v H1 => td σ H1 fun x H2 => ty σ H2 fun y H3 => ∃ a H4, x = .ref a ∧ DPut H3 a y v H4 ∧ D.nx σ H4
def sDAug (td ty tv : TE) (rd : V → V → Hp → VK → Prop) : TS := fun D σ H => td σ H fun x H1 => ty σ H1 fun y H2 => ∃ a v, x = .ref a ∧ DGet H2 a y (some v) ∧
  tv σ H2 fun y2 H3 => rd v y2 H3 fun z H4 => ∃ H5, DPut H4 a y z H5 ∧ D.nx σ H5
def sDDel (td ty : TE) : TS := fun D σ H => td σ H fun x H1 => ty σ H1 fun y H2 => ∃ a kvs k, x = .ref a ∧ H2 a = some (.dK kvs) ∧ y = kV k ∧ (valV kvs k).isSome = true ∧ D.nx σ (upd H2 a (.dK (dropK kvs k)))

section
variable {X : Cx} {o i e value : Expr} {pos pos' tpos : Pos} {td ty tv : TE}
theorem ps_dput (hu : X.A.units + 1 < cLine) (ho : PE X o td) (hi : PE X i ty) (hv : PE X value tv) (hs : swapsWith value (some (.Subscript o i pos')) pos.line X.env = pure false) :
    PS X (.Assign [.Subscript o i pos'] value pos) (sDPut td ty tv) := by
  intro pins s σ H D I h
  refine wpAny_Assign_Subscript (thn (hv pins s σ H _ I h) fun r s1 ⟨v, H1, I1, rv, q1⟩ => thn (ho pins s1 σ H1 _ I1 q1) fun u s2 ⟨x, H2, I2, rx, q2⟩ => thn (hi pins s2 σ H2 _ I2 q2) fun iv s3 ⟨y, H3, I3, ry, a, H4, ex, g, q3⟩ => ?_) hs
  subst ex
  obtain rfl : u = Value.ref a := rx
  exact d_setItem hu I3 g ry rv fun s4 I4 => ⟨σ, H4, I4, q3⟩
end


theorem dk_empty {P : Program} {w : World} {H : Hp} (h : Heap) (hb : sysModules < h.objs.size) : ObjOk P w H (h.push { cls := .type "dict", data := .dict #[] }) h.objs.size (.dK []) :=
  ⟨Nat.zero_le _, beq_eq_false_iff_ne.mpr (Ne.symm (Nat.ne_of_lt hb)), [], .nil, Heap.DictOf.new h⟩
def tDNewK : TE := fun _ H Q => ∀ p, H p = none → Q (.ref p) (upd H p (.dK []))
def tDNewT : TE := fun _ H Q => ∀ p, H p = none → Q (.ref p) (upd H p (.dT []))
section
variable {X : Cx} {pos : Pos}
theorem pe_dnewK : PE X (.Dict [] [] pos) tDNewK := fun pins s σ H Q I h =>
  wpAny_Dict_empty ⟨.ref s.heap.objs.size, _, I.laid (a := s.heap.objs.size) (o := .dK []) (t' := s.toks) (fun _ _ q => Heap.get?_push_of_some _ q) (Nat.le_refl _) (dk_empty s.heap I.big), rfl, h _ (I.hok.fresh (Nat.le_refl _))⟩
end

def tPairs : List (TE × TE) → St → Hp → (List (V × V) → Hp → Prop) → Prop
  | [], _, H, Q => Q [] H
  | (tk, tv) :: r, σ, H, Q => tk σ H fun x H1 => tv σ H1 fun y H2 => tPairs r σ H2 fun ps H3 => Q ((x, y) :: ps) H3
abbrev VV : List (V × V) → List (Value × Value) → Prop := Paired fun p q => RelV p.1 q.1 ∧ RelV p.2 q.2
def PPs (X : Cx) (pos : Pos) (keys : List (Option Expr)) (values : List Expr) (trs : List (TE × TE)) : Prop :=
  ∀ (pins : List (Addr × Obj)) (s : Shared) (σ : St) (H : Hp) (Q : List (V × V) → Hp → Prop), Inv X pins σ H s → tPairs trs σ H Q →
    wpAny (model X.prog X.w) X.A (evalPairs (pairTrees keys values X.env pos)) (fun vs s' => ∃ ps H', Inv X pins σ H' s' ∧ VV ps vs ∧ Q ps H') X.xe s
def mergeK (kvs more : List (Key × V)) : List (Key × V) := more.foldl (fun acc kv => putK acc kv.1 kv.2) kvs
def tDisp (trs : List (TE × TE)) : TE := fun σ H Q => ∀ p, H p = none → tPairs trs σ (upd H p (.dK [])) fun ps H2 => H2 p = some (.dK []) ∧ ∃ kvs : List (Key × V), ps = kvs.map (fun kv => (kV kv.1, kv.2)) ∧ kvs.length ≤ 15 ∧ Q (.ref p) (upd H2 p (.dK (mergeK [] kvs)))
structure M1 (X : Cx) (o : Expr) (m : Str) (apos : Pos) (e : Expr) (cpos : Pos) : Prop where
  base : attributeBase o m X.env (eval o X.env) = eval o X.env
  few : ((backTo cpos (starEach [e] X.env)).all (fun x => !x.1) && (backToKw cpos (keywordEach [] X.env)).all (fun x => x.1.isSome)
    && decide (([e] : List Expr).length + ([] : List Keyword).length + (if ([] : List Keyword).isEmpty then 0 else 1) < 30)) = true
  line : (apos.endLine == cpos.line) = true
  trees : backTo cpos (starEach [e] X.env) = [(false, eval e X.env)]
structure M2 (X : Cx) (o : Expr) (m : Str) (apos : Pos) (e f : Expr) (cpos : Pos) : Prop where
  base : attributeBase o m X.env (eval o X.env) = eval o X.env
  few : ((backTo cpos (starEach [e, f] X.env)).all (fun x => !x.1) && (backToKw cpos (keywordEach [] X.env)).all (fun x => x.1.isSome)
    && decide (([e, f] : List Expr).length + ([] : List Keyword).length + (if ([] : List Keyword).isEmpty then 0 else 1) < 30)) = true
  line : (apos.endLine == cpos.line) = true
  trees : backTo cpos (starEach [e, f] X.env) = [(false, eval e X.env), (false, eval f X.env)]

def IsD (H : Hp) (a : Addr) : Prop := (∃ kvs, Rd H a (.dK kvs)) ∨ ∃ kvs, Rd H a (.dT kvs)
theorem isD_at {X : Cx} {pins : List (Addr × Obj)} {σ : St} {H : Hp} {s : Shared} {a : Addr} (I : Inv X pins σ H s) (d : IsD H a) :
    s.TypeIs (.ref a) "dict" ∧ (∀ b, Value.ref a = .ref b → ∃ ob, s.heap.get? b = some ob ∧ ob.dict = none) ∧ (a == sysModules) = false := by
  rcases d with ⟨kvs, e⟩ | ⟨kvs, e⟩
  · obtain ⟨_, hd, vs, _, dd⟩ := dk_rd I.hok e
    refine ⟨dd.typeIs, fun b q => ?_, hd⟩
    cases q
    obtain ⟨ob, _, _, h1, h2, _⟩ := dd
    exact ⟨ob, h1, h2.2.1⟩
  · obtain ⟨_, hd, xs, _, dd⟩ := dt_rd I.hok e
    refine ⟨dd.typeIs, fun b q => ?_, hd⟩
    cases q
    obtain ⟨ob, _, _, h1, h2, _⟩ := dd
    exact ⟨ob, h1, h2.2.1⟩

section
variable {X : Cx} {pins : List (Addr × Obj)} {σ : St} {H : Hp} {s : Shared} {a : Addr} {y d : V} {u r : Value} {o : Option V} {A : Around} {E : Value → Shared → Prop}
end

def tDGet1 (td ty : TE) : TE := fun σ H Q => td σ H fun x H1 => ∃ a, x = .ref a ∧ IsD H1 a ∧ ty σ H1 fun y H2 => ∃ o, DGet H2 a y o ∧ Q (o.getD .non) H2
def tDGet2 (td ty tx : TE) : TE := fun σ H Q => td σ H fun x H1 => ∃ a, x = .ref a ∧ IsD H1 a ∧ ty σ H1 fun y H2 => tx σ H2 fun z H3 => ∃ o, DGet H3 a y o ∧ Q (o.getD z) H3
def tDPop1 (td ty : TE) : TE := fun σ H Q => td σ H fun x H1 => ∃ a, x = .ref a ∧ IsD H1 a ∧ ty σ H1 fun y H2 => ∃ kvs k v, H2 a = some (.dK kvs) ∧ y = kV k ∧ valV kvs k = some v ∧ Q v (upd H2 a (.dK (dropK kvs k)))
def tDPop2 (td ty tx : TE) : TE := fun σ H Q => td σ H fun x H1 => ∃ a, x = .ref a ∧ IsD H1 a ∧ ty σ H1 fun y H2 => tx σ H2 fun z H3 => ∃ kvs k, H3 a = some (.dK kvs) ∧ y = kV k ∧
  (∀ v, valV kvs k = some v → Q v (upd H3 a (.dK (dropK kvs k)))) ∧ (valV kvs k = none → Q z H3)
section
variable {X : Cx} {o e f : Expr} {apos cpos : Pos} {td ty tx : TE}
end

section
variable {X : Cx} {pins : List (Addr × Obj)} {σ : St} {H : Hp} {s : Shared} {a : Addr} {kvs : List (Key × V)} {A : Around} {E : Value → Shared → Prop}
end


section
variable {X : Cx} {pins : List (Addr × Obj)} {σ : St} {H : Hp} {s : Shared} {a : Addr} {y : V} {u : Value} {A : Around} {E : Value → Shared → Prop}
end
end L2

namespace Att
open PySem PySem.W PySem.Calls PyProof.Rows

section
variable {prog : Program} {w : World} {A : Around} {E : Value → Shared → Prop} {s : Shared} {K : Frag}

end
end Att

namespace L2
open PySem PySem.Spec PyProof.Rows

end L2

namespace L2
open PySem PySem.Spec PyProof.Rows

end L2

namespace L2
open PySem PySem.Spec PyProof.Rows

section
variable {X : Cx}
end

section
variable {κ : Type} [DecidableEq κ]
end
end L2


set_option maxHeartbeats 40000000
namespace G
open PySem L2
section
variable {D : Ends} {σ : St} {H H1 : Hp} {Q : VK} {t u : TS} {ta tb tc te : TE} {n : St → Hp → Prop} {r : VK} {b c : St → Hp → Prop}
theorem i_seq (h : t ⟨u ⟨n, r, b, c⟩, r, b, c⟩ σ H) : tSeq t u ⟨n, r, b, c⟩ σ H := h
theorem i_next (h : n σ H) : tNext ⟨n, r, b, c⟩ σ H := h
theorem i_drop (h : te σ H fun _ H1 => n σ H1) : tDrop te ⟨n, r, b, c⟩ σ H := h
theorem i_ret (h : te σ H r) : tRet te ⟨n, r, b, c⟩ σ H := h
theorem i_if {c' : TT} (h : c' σ H fun k H1 => if k = true then t ⟨n, r, b, c⟩ σ H1 else u ⟨n, r, b, c⟩ σ H1) : tIfS c' t u ⟨n, r, b, c⟩ σ H := h
theorem i_asg {g : TG} (h : te σ H fun x H1 => g x σ H1 n) : tAsg te g ⟨n, r, b, c⟩ σ H := h
theorem i_C {v : V} (h : Q v H) : tC v σ H Q := h
theorem i_op {f : R2} (h : ta σ H fun x H1 => tb σ H1 fun y H2 => f x y H2 Q) : tOp f ta tb σ H Q := h
def kB (q : Bool → Hp → Prop) : VK := fun x H' => ∃ k, x = .bl k ∧ q k H'
theorem i_B {k : Bool} {q : Bool → Hp → Prop} (h : q k H) : kB q (.bl k) H := ⟨k, rfl, h⟩
theorem i_test {q : Bool → Hp → Prop} (h : te σ H (kB q)) : tTest te σ H q := h
theorem i_tB {q : Bool → Hp → Prop} (h : te σ H (kB q)) : tB te σ H q := h
theorem i_and {t u : TT} {q : Bool → Hp → Prop} (h : t σ H fun k H1 => if k = true then u σ H1 q else q false H1) : tAnd t u σ H q := h
theorem i_or {t u : TT} {q : Bool → Hp → Prop} (h : t σ H fun k H1 => if k = true then q true H1 else u σ H1 q) : tOr t u σ H q := h
theorem i_not {t : TT} {q : Bool → Hp → Prop} (h : t σ H fun k H1 => q (!k) H1) : tNot t σ H q := h
theorem i_andV (h : ta σ H (kB fun k H1 => if k = true then tb σ H1 Q else Q (.bl false) H1)) : tAndV ta tb σ H Q := h
theorem i_orV (h : ta σ H (kB fun k H1 => if k = true then Q (.bl true) H1 else tb σ H1 Q)) : tOrV ta tb σ H Q := h
theorem i_notV (h : ta σ H (kB fun k H1 => Q (.bl (!k)) H1)) : tNotV ta σ H Q := h
theorem i_I0 {g : Int → Int → V} {i j : Int} (h : Q (g i j) H) : rI0 g (.int i) (.int j) H Q := ⟨i, j, rfl, rfl, h⟩
theorem i_I {C : Int → Int → Prop} {g : Int → Int → V} {i j : Int} (hc : C i j) (h : Q (g i j) H) : rI C g (.int i) (.int j) H Q := ⟨i, j, rfl, rfl, hc, h⟩
theorem i_eqI {i j : Int} (h : Q (.bl (decide (i = j))) H) : rEq (.int i) (.int j) H Q := ⟨rfl, by rw [show decide (V.int i = V.int j) = decide (i = j) from decide_eq_decide.mpr ⟨fun e => V.int.inj e, fun e => by rw [e]⟩]; exact h⟩
theorem i_eqS {i j : Str} (h : Q (.bl (decide (i = j))) H) : rEq (.str i) (.str j) H Q := ⟨rfl, by rw [show decide (V.str i = V.str j) = decide (i = j) from decide_eq_decide.mpr ⟨fun e => V.str.inj e, fun e => by rw [e]⟩]; exact h⟩
theorem i_neI {i j : Int} (h : Q (.bl (!decide (i = j))) H) : rNe (.int i) (.int j) H Q := ⟨rfl, by rw [show decide (V.int i = V.int j) = decide (i = j) from decide_eq_decide.mpr ⟨fun e => V.int.inj e, fun e => by rw [e]⟩]; exact h⟩
theorem i_neS {i j : Str} (h : Q (.bl (!decide (i = j))) H) : rNe (.str i) (.str j) H Q := ⟨rfl, by rw [show decide (V.str i = V.str j) = decide (i = j) from decide_eq_decide.mpr ⟨fun e => V.str.inj e, fun e => by rw [e]⟩]; exact h⟩
def rIsN : R2 := fun x y H Q => y = .non ∧ Q (.bl (decide (x = .non))) H
def rNotN : R2 := fun x y H Q => y = .non ∧ Q (.bl (!decide (x = .non))) H
theorem i_isN0 (h : Q (.bl true) H) : rIsN .non .non H Q := ⟨rfl, h⟩
theorem i_isN1 {i : Int} (h : Q (.bl false) H) : rIsN (.int i) .non H Q := ⟨rfl, h⟩
theorem i_isN2 {i : Str} (h : Q (.bl false) H) : rIsN (.str i) .non H Q := ⟨rfl, h⟩
theorem i_isN3 {i : Addr} (h : Q (.bl false) H) : rIsN (.ref i) .non H Q := ⟨rfl, h⟩
theorem i_isN4 {i : Bool} (h : Q (.bl false) H) : rIsN (.bl i) .non H Q := ⟨rfl, h⟩
theorem i_iteT {A B : Prop} (h : A) : if true = true then A else B := iteT h
theorem i_iteF {A B : Prop} (h : B) : if false = true then A else B := iteF h
theorem i_iteNT {A B : Prop} (h : B) : if (!true) = true then A else B := iteF h
theorem i_iteNF {A B : Prop} (h : A) : if (!false) = true then A else B := iteT h
theorem ifd {p A B : Prop} [Decidable p] (h1 : p → A) (h2 : ¬ p → B) : if decide p = true then A else B := ite2 (fun e => h1 (of_decide_eq_true e)) (fun e => h2 (fun q => e (decide_eq_true q)))
theorem ifnd {p A B : Prop} [Decidable p] (h1 : ¬ p → A) (h2 : p → B) : if (!decide p) = true then A else B := ite2 (fun e => h1 (by simpa using e)) (fun e => h2 (by simpa using e))
theorem i_nil {q : List V → Hp → Prop} (h : q [] H) : tNil σ H q := h
theorem i_cons {q : List V → Hp → Prop} {t : TA} (h : ta σ H fun x H1 => t σ H1 fun xs H2 => q (x :: xs) H2) : tCons ta t σ H q := h
theorem i_lst {t : TA} (h : t σ H fun xs H1 => xs.length ≤ sizeLine ∧ ∀ p, H1 p = none → Q (.ref p) (upd H1 p (.lst xs))) : tLst t σ H Q := h
theorem i_tup {t : TA} (h : t σ H fun xs H1 => xs.length ≤ sizeLine ∧ ∀ p, H1 p = none → Q (.ref p) (upd H1 p (.tup xs))) : tTup t σ H Q := h
theorem i_call {t : TA} {sp : Sp} {dvs : List V} {E : XK} (h : t σ H fun vs H1 => sp (vs ++ dvs) H1 Q E) : tCall sp dvs E t σ H Q := h
theorem i_CB {t : TA} {f : List V → Hp → VK → Prop} (h : t σ H fun vs H1 => f vs H1 Q) : tCB f t σ H Q := h
theorem i_make {t : TA} {sp : Sp} {dvs : List V} {E : XK} {C : Addr} (h : t σ H fun vs H1 => ∀ x dx, H1 x = none → H1 dx = none → dx ≠ x → sp (.ref x :: (vs ++ dvs)) (upd (upd H1 dx (.own x)) x (.ins C dx [])) (fun v H2 => v = .non ∧ Q (.ref x) H2) E) : tMake C sp dvs E t σ H Q := h
def kFld (K : PySem.W.Frag) (f : Str) (Q : VK) : VK := fun x H1 => ∃ a C dx fs v, x = .ref a ∧ H1 a = some (.ins C dx fs) ∧ Cls K C ∧ NoAttr K C f ∧ fs.lookup f = some v ∧ Q v H1
theorem i_fld {K : PySem.W.Frag} {f : Str} (h : ta σ H (kFld K f Q)) : tFld K ta f σ H Q := h
theorem i_fldK {K : PySem.W.Frag} {f : Str} {a C dx : Addr} {fs : List (Str × V)} {v : V} (h : H a = some (.ins C dx fs)) (hc : Cls K C) (hn : NoAttr K C f) (hl : fs.lookup f = some v) (q : Q v H) : kFld K f Q (.ref a) H := ⟨a, C, dx, fs, v, rfl, h, hc, hn, hl, q⟩
theorem i_sfld {K : PySem.W.Frag} {f : Str} {tv : TE} (h : tv σ H fun y H1 => ta σ H1 fun x H2 => ∃ a C dx fs, x = .ref a ∧ H2 a = some (.ins C dx fs) ∧ Cls K C ∧ NoAttr K C f ∧ fs.length < 1000 ∧ n σ (upd H2 a (.ins C dx (putF f y fs)))) : sFld K ta tv f ⟨n, r, b, c⟩ σ H := h
theorem i_meth {C : Addr} {m : Str} {sp : Sp} {dvs : List V} {E : XK} {t : TA} (h : ta σ H fun x H1 => ∃ a dx fs, x = .ref a ∧ H1 a = some (.ins C dx fs) ∧ fs.lookup m = none ∧ t σ H1 fun vs H2 => sp (x :: (vs ++ dvs)) H2 Q E) : tMeth C m sp dvs E ta t σ H Q := h
theorem i_noPart {q : Option Int → Hp → Prop} (h : q none H) : tNoPart σ H q := h
def kI (q : Int → Hp → Prop) : VK := fun x H1 => ∃ i, x = .int i ∧ q i H1
theorem i_part {q : Option Int → Hp → Prop} (h : te σ H (kI fun i => q (some i))) : tPart te σ H q := h
theorem i_kI {i : Int} {q : Int → Hp → Prop} (h : q i H) : kI q (.int i) H := ⟨i, rfl, h⟩
theorem i_sl {f : V → Option Int → Option Int → Hp → VK → Prop} {tl th : TO} (h : te σ H fun x H1 => tl σ H1 fun l H2 => th σ H2 fun u H3 => f x l u H3 Q) : tSl f te tl th σ H Q := h
theorem i_bm {K : PySem.W.Frag} {T : String} {f : V → List V → Hp → VK → Prop} {to : TE} {t : TA} (h : to σ H fun x H1 => tyV K T x H1 ∧ t σ H1 fun xs H2 => f x xs H2 Q) : tBM K T f to t σ H Q := h
theorem i_for {wi : TI} {g : TG} {tb : TS} (h : wi σ H fun J H1 => ∃ W : Nat → Nat → St → Hp → Prop, (∃ m, W 0 m σ H1) ∧ ∀ i m σ H, W i m σ H →
  (J.stop i H ∧ n σ H) ∨ (J.go i H ∧ ∃ N : St → Hp → Prop, (∀ σ' H', N σ' H' → ∃ m', m' < m ∧ W (i + 1) m' σ' H') ∧ ∀ x H', J.yld i H x H' → g x σ H' fun σ2 H2 => tb ⟨N, r, n, N⟩ σ2 H2)) : tFor wi g tb ⟨n, r, b, c⟩ σ H := h
theorem i_iL {K : PySem.W.Frag} {R : It → Hp → Prop} (h : te σ H fun x H1 => ∃ a, x = .ref a ∧ (∃ xs, SqL K H1 a xs) ∧ R (Itl K a) H1) : iList K te σ H R := h
theorem i_iR {ta : TA} {R : It → Hp → Prop} (h : ta σ H fun vs H1 => ∃ j : Int, vs = [.int j] ∧ -(2 ^ 62) ≤ j ∧ j < 2 ^ 62 ∧ R (Itr 0 j.toNat) H1) : iRng1 ta σ H R := h
end
theorem i_v0 {v : V} {l : St} {H : Hp} {Q : VK} (h : Q v H) : tVar 0 (some v :: l) H Q := ⟨v, rfl, h⟩
theorem i_v1 {x0 : Option V} {v : V} {l : St} {H : Hp} {Q : VK} (h : Q v H) : tVar 1 (x0 :: some v :: l) H Q := ⟨v, rfl, h⟩
theorem i_g1 {x0 : Option V} {y : Option V} {v : V} {l : St} {H : Hp} {Q : St → Hp → Prop} (h : Q (x0 :: some v :: l) H) : gName 1 v (x0 :: y :: l) H Q := h
theorem i_v2 {x0 x1 : Option V} {v : V} {l : St} {H : Hp} {Q : VK} (h : Q v H) : tVar 2 (x0 :: x1 :: some v :: l) H Q := ⟨v, rfl, h⟩
theorem i_g2 {x0 x1 : Option V} {y : Option V} {v : V} {l : St} {H : Hp} {Q : St → Hp → Prop} (h : Q (x0 :: x1 :: some v :: l) H) : gName 2 v (x0 :: x1 :: y :: l) H Q := h
theorem i_v3 {x0 x1 x2 : Option V} {v : V} {l : St} {H : Hp} {Q : VK} (h : Q v H) : tVar 3 (x0 :: x1 :: x2 :: some v :: l) H Q := ⟨v, rfl, h⟩
theorem i_g3 {x0 x1 x2 : Option V} {y : Option V} {v : V} {l : St} {H : Hp} {Q : St → Hp → Prop} (h : Q (x0 :: x1 :: x2 :: some v :: l) H) : gName 3 v (x0 :: x1 :: x2 :: y :: l) H Q := h
theorem i_v4 {x0 x1 x2 x3 : Option V} {v : V} {l : St} {H : Hp} {Q : VK} (h : Q v H) : tVar 4 (x0 :: x1 :: x2 :: x3 :: some v :: l) H Q := ⟨v, rfl, h⟩
theorem i_g4 {x0 x1 x2 x3 : Option V} {y : Option V} {v : V} {l : St} {H : Hp} {Q : St → Hp → Prop} (h : Q (x0 :: x1 :: x2 :: x3 :: some v :: l) H) : gName 4 v (x0 :: x1 :: x2 :: x3 :: y :: l) H Q := h
theorem i_v5 {x0 x1 x2 x3 x4 : Option V} {v : V} {l : St} {H : Hp} {Q : VK} (h : Q v H) : tVar 5 (x0 :: x1 :: x2 :: x3 :: x4 :: some v :: l) H Q := ⟨v, rfl, h⟩
theorem i_g5 {x0 x1 x2 x3 x4 : Option V} {y : Option V} {v : V} {l : St} {H : Hp} {Q : St → Hp → Prop} (h : Q (x0 :: x1 :: x2 :: x3 :: x4 :: some v :: l) H) : gName 5 v (x0 :: x1 :: x2 :: x3 :: x4 :: y :: l) H Q := h
theorem i_v6 {x0 x1 x2 x3 x4 x5 : Option V} {v : V} {l : St} {H : Hp} {Q : VK} (h : Q v H) : tVar 6 (x0 :: x1 :: x2 :: x3 :: x4 :: x5 :: some v :: l) H Q := ⟨v, rfl, h⟩
theorem i_g6 {x0 x1 x2 x3 x4 x5 : Option V} {y : Option V} {v : V} {l : St} {H : Hp} {Q : St → Hp → Prop} (h : Q (x0 :: x1 :: x2 :: x3 :: x4 :: x5 :: some v :: l) H) : gName 6 v (x0 :: x1 :: x2 :: x3 :: x4 :: x5 :: y :: l) H Q := h
theorem i_v7 {x0 x1 x2 x3 x4 x5 x6 : Option V} {v : V} {l : St} {H : Hp} {Q : VK} (h : Q v H) : tVar 7 (x0 :: x1 :: x2 :: x3 :: x4 :: x5 :: x6 :: some v :: l) H Q := ⟨v, rfl, h⟩
theorem i_g7 {x0 x1 x2 x3 x4 x5 x6 : Option V} {y : Option V} {v : V} {l : St} {H : Hp} {Q : St → Hp → Prop} (h : Q (x0 :: x1 :: x2 :: x3 :: x4 :: x5 :: x6 :: some v :: l) H) : gName 7 v (x0 :: x1 :: x2 :: x3 :: x4 :: x5 :: x6 :: y :: l) H Q := h
theorem i_v8 {x0 x1 x2 x3 x4 x5 x6 x7 : Option V} {v : V} {l : St} {H : Hp} {Q : VK} (h : Q v H) : tVar 8 (x0 :: x1 :: x2 :: x3 :: x4 :: x5 :: x6 :: x7 :: some v :: l) H Q := ⟨v, rfl, h⟩
theorem i_g8 {x0 x1 x2 x3 x4 x5 x6 x7 : Option V} {y : Option V} {v : V} {l : St} {H : Hp} {Q : St → Hp → Prop} (h : Q (x0 :: x1 :: x2 :: x3 :: x4 :: x5 :: x6 :: x7 :: some v :: l) H) : gName 8 v (x0 :: x1 :: x2 :: x3 :: x4 :: x5 :: x6 :: x7 :: y :: l) H Q := h
theorem i_v9 {x0 x1 x2 x3 x4 x5 x6 x7 x8 : Option V} {v : V} {l : St} {H : Hp} {Q : VK} (h : Q v H) : tVar 9 (x0 :: x1 :: x2 :: x3 :: x4 :: x5 :: x6 :: x7 :: x8 :: some v :: l) H Q := ⟨v, rfl, h⟩
theorem i_g9 {x0 x1 x2 x3 x4 x5 x6 x7 x8 : Option V} {y : Option V} {v : V} {l : St} {H : Hp} {Q : St → Hp → Prop} (h : Q (x0 :: x1 :: x2 :: x3 :: x4 :: x5 :: x6 :: x7 :: x8 :: some v :: l) H) : gName 9 v (x0 :: x1 :: x2 :: x3 :: x4 :: x5 :: x6 :: x7 :: x8 :: y :: l) H Q := h
theorem i_v10 {x0 x1 x2 x3 x4 x5 x6 x7 x8 x9 : Option V} {v : V} {l : St} {H : Hp} {Q : VK} (h : Q v H) : tVar 10 (x0 :: x1 :: x2 :: x3 :: x4 :: x5 :: x6 :: x7 :: x8 :: x9 :: some v :: l) H Q := ⟨v, rfl, h⟩
theorem i_g10 {x0 x1 x2 x3 x4 x5 x6 x7 x8 x9 : Option V} {y : Option V} {v : V} {l : St} {H : Hp} {Q : St → Hp → Prop} (h : Q (x0 :: x1 :: x2 :: x3 :: x4 :: x5 :: x6 :: x7 :: x8 :: x9 :: some v :: l) H) : gName 10 v (x0 :: x1 :: x2 :: x3 :: x4 :: x5 :: x6 :: x7 :: x8 :: x9 :: y :: l) H Q := h
theorem i_v11 {x0 x1 x2 x3 x4 x5 x6 x7 x8 x9 x10 : Option V} {v : V} {l : St} {H : Hp} {Q : VK} (h : Q v H) : tVar 11 (x0 :: x1 :: x2 :: x3 :: x4 :: x5 :: x6 :: x7 :: x8 :: x9 :: x10 :: some v :: l) H Q := ⟨v, rfl, h⟩
theorem i_g11 {x0 x1 x2 x3 x4 x5 x6 x7 x8 x9 x10 : Option V} {y : Option V} {v : V} {l : St} {H : Hp} {Q : St → Hp → Prop} (h : Q (x0 :: x1 :: x2 :: x3 :: x4 :: x5 :: x6 :: x7 :: x8 :: x9 :: x10 :: some v :: l) H) : gName 11 v (x0 :: x1 :: x2 :: x3 :: x4 :: x5 :: x6 :: x7 :: x8 :: x9 :: x10 :: y :: l) H Q := h
theorem i_v12 {x0 x1 x2 x3 x4 x5 x6 x7 x8 x9 x10 x11 : Option V} {v : V} {l : St} {H : Hp} {Q : VK} (h : Q v H) : tVar 12 (x0 :: x1 :: x2 :: x3 :: x4 :: x5 :: x6 :: x7 :: x8 :: x9 :: x10 :: x11 :: some v :: l) H Q := ⟨v, rfl, h⟩
theorem i_g12 {x0 x1 x2 x3 x4 x5 x6 x7 x8 x9 x10 x11 : Option V} {y : Option V} {v : V} {l : St} {H : Hp} {Q : St → Hp → Prop} (h : Q (x0 :: x1 :: x2 :: x3 :: x4 :: x5 :: x6 :: x7 :: x8 :: x9 :: x10 :: x11 :: some v :: l) H) : gName 12 v (x0 :: x1 :: x2 :: x3 :: x4 :: x5 :: x6 :: x7 :: x8 :: x9 :: x10 :: x11 :: y :: l) H Q := h
theorem i_v13 {x0 x1 x2 x3 x4 x5 x6 x7 x8 x9 x10 x11 x12 : Option V} {v : V} {l : St} {H : Hp} {Q : VK} (h : Q v H) : tVar 13 (x0 :: x1 :: x2 :: x3 :: x4 :: x5 :: x6 :: x7 :: x8 :: x9 :: x10 :: x11 :: x12 :: some v :: l) H Q := ⟨v, rfl, h⟩
theorem i_g13 {x0 x1 x2 x3 x4 x5 x6 x7 x8 x9 x10 x11 x12 : Option V} {y : Option V} {v : V} {l : St} {H : Hp} {Q : St → Hp → Prop} (h : Q (x0 :: x1 :: x2 :: x3 :: x4 :: x5 :: x6 :: x7 :: x8 :: x9 :: x10 :: x11 :: x12 :: some v :: l) H) : gName 13 v (x0 :: x1 :: x2 :: x3 :: x4 :: x5 :: x6 :: x7 :: x8 :: x9 :: x10 :: x11 :: x12 :: y :: l) H Q := h
end G
namespace G
open PySem L2
theorem same_new {H : Hp} {p : Addr} (h : H p = none) (o : HO) : Same H (upd H p o) := fun b u q => by rw [upd_ne (ne_of_none q h)]; exact q
def hide (k : Addr) (H : Hp) : Hp := fun b => if b = k then none else H b
def tyN (H : Hp) : V → Option String
  | .non => some "NoneType"
  | .bl _ => some "bool"
  | .int _ => some "int"
  | .str _ => some "str"
  | .ref a => match H a with
    | some (.lst _) => some "list"
    | some (.frz _ (.lst _)) => some "list"
    | some (.tup _) => some "tuple"
    | some (.dK _) => some "dict"
    | some (.dT _) => some "dict"
    | _ => none
  | _ => none
def isK (t n : String) : Option Bool := if ["int", "bool", "str", "list", "tuple", "dict"].contains n then some (t == n || (t == "bool" && n == "int")) else none
def cIsi : List V → Hp → VK → Prop := fun xs H Q => ∃ x n t k, xs = [x, .ty n] ∧ tyN H x = some t ∧ isK t n = some k ∧ Q (.bl k) H
theorem isK_int_int : isK "int" "int" = some true := by decide +kernel
theorem isK_int_bool : isK "int" "bool" = some false := by decide +kernel
theorem isK_int_str : isK "int" "str" = some false := by decide +kernel
theorem isK_int_list : isK "int" "list" = some false := by decide +kernel
theorem isK_int_tuple : isK "int" "tuple" = some false := by decide +kernel
theorem isK_int_dict : isK "int" "dict" = some false := by decide +kernel
theorem isK_bool_int : isK "bool" "int" = some true := by decide +kernel
theorem isK_bool_bool : isK "bool" "bool" = some true := by decide +kernel
theorem isK_bool_str : isK "bool" "str" = some false := by decide +kernel
theorem isK_bool_list : isK "bool" "list" = some false := by decide +kernel
theorem isK_bool_tuple : isK "bool" "tuple" = some false := by decide +kernel
theorem isK_bool_dict : isK "bool" "dict" = some false := by decide +kernel
theorem isK_str_int : isK "str" "int" = some false := by decide +kernel
theorem isK_str_bool : isK "str" "bool" = some false := by decide +kernel
theorem isK_str_str : isK "str" "str" = some true := by decide +kernel
theorem isK_str_list : isK "str" "list" = some false := by decide +kernel
theorem isK_str_tuple : isK "str" "tuple" = some false := by decide +kernel
theorem isK_str_dict : isK "str" "dict" = some false := by decide +kernel
theorem isK_NoneType_int : isK "NoneType" "int" = some false := by decide +kernel
theorem isK_NoneType_bool : isK "NoneType" "bool" = some false := by decide +kernel
theorem isK_NoneType_str : isK "NoneType" "str" = some false := by decide +kernel
theorem isK_NoneType_list : isK "NoneType" "list" = some false := by decide +kernel
theorem isK_NoneType_tuple : isK "NoneType" "tuple" = some false := by decide +kernel
theorem isK_NoneType_dict : isK "NoneType" "dict" = some false := by decide +kernel
theorem isK_list_int : isK "list" "int" = some false := by decide +kernel
theorem isK_list_bool : isK "list" "bool" = some false := by decide +kernel
theorem isK_list_str : isK "list" "str" = some false := by decide +kernel
theorem isK_list_list : isK "list" "list" = some true := by decide +kernel
theorem isK_list_tuple : isK "list" "tuple" = some false := by decide +kernel
theorem isK_list_dict : isK "list" "dict" = some false := by decide +kernel
theorem isK_tuple_int : isK "tuple" "int" = some false := by decide +kernel
theorem isK_tuple_bool : isK "tuple" "bool" = some false := by decide +kernel
theorem isK_tuple_str : isK "tuple" "str" = some false := by decide +kernel
theorem isK_tuple_list : isK "tuple" "list" = some false := by decide +kernel
theorem isK_tuple_tuple : isK "tuple" "tuple" = some true := by decide +kernel
theorem isK_tuple_dict : isK "tuple" "dict" = some false := by decide +kernel
theorem isK_dict_int : isK "dict" "int" = some false := by decide +kernel
theorem isK_dict_bool : isK "dict" "bool" = some false := by decide +kernel
theorem isK_dict_str : isK "dict" "str" = some false := by decide +kernel
theorem isK_dict_list : isK "dict" "list" = some false := by decide +kernel
theorem isK_dict_tuple : isK "dict" "tuple" = some false := by decide +kernel
theorem isK_dict_dict : isK "dict" "dict" = some true := by decide +kernel
theorem i_isiI_int {i : Int} {H : Hp} {Q : VK} (h : Q (.bl true) H) : cIsi [.int i, .ty "int"] H Q := ⟨_, _, _, _, rfl, rfl, isK_int_int, h⟩
theorem i_isiI_bool {i : Int} {H : Hp} {Q : VK} (h : Q (.bl false) H) : cIsi [.int i, .ty "bool"] H Q := ⟨_, _, _, _, rfl, rfl, isK_int_bool, h⟩
theorem i_isiS_int {i : Str} {H : Hp} {Q : VK} (h : Q (.bl false) H) : cIsi [.str i, .ty "int"] H Q := ⟨_, _, _, _, rfl, rfl, isK_str_int, h⟩
theorem i_isiS_str {i : Str} {H : Hp} {Q : VK} (h : Q (.bl true) H) : cIsi [.str i, .ty "str"] H Q := ⟨_, _, _, _, rfl, rfl, isK_str_str, h⟩
theorem i_isiL_int {a : Addr} {H : Hp} {Q : VK} {xs : List V} (hp : H a = some (.lst xs)) (h : Q (.bl false) H) : cIsi [.ref a, .ty "int"] H Q := ⟨_, _, _, _, rfl, (by show (match H a with | some (.lst _) => some "list" | some (.frz _ (.lst _)) => some "list" | some (.tup _) => some "tuple" | some (.dK _) => some "dict" | some (.dT _) => some "dict" | _ => none) = some "list"; rw [hp]), isK_list_int, h⟩
theorem i_isiT_int {a : Addr} {H : Hp} {Q : VK} {xs : List V} (hp : H a = some (.tup xs)) (h : Q (.bl false) H) : cIsi [.ref a, .ty "int"] H Q := ⟨_, _, _, _, rfl, (by show (match H a with | some (.lst _) => some "list" | some (.frz _ (.lst _)) => some "list" | some (.tup _) => some "tuple" | some (.dK _) => some "dict" | some (.dT _) => some "dict" | _ => none) = some "tuple"; rw [hp]), isK_tuple_int, h⟩
theorem i_isiL_str {a : Addr} {H : Hp} {Q : VK} {xs : List V} (hp : H a = some (.lst xs)) (h : Q (.bl false) H) : cIsi [.ref a, .ty "str"] H Q := ⟨_, _, _, _, rfl, (by show (match H a with | some (.lst _) => some "list" | some (.frz _ (.lst _)) => some "list" | some (.tup _) => some "tuple" | some (.dK _) => some "dict" | some (.dT _) => some "dict" | _ => none) = some "list"; rw [hp]), isK_list_str, h⟩
theorem i_isiT_str {a : Addr} {H : Hp} {Q : VK} {xs : List V} (hp : H a = some (.tup xs)) (h : Q (.bl false) H) : cIsi [.ref a, .ty "str"] H Q := ⟨_, _, _, _, rfl, (by show (match H a with | some (.lst _) => some "list" | some (.frz _ (.lst _)) => some "list" | some (.tup _) => some "tuple" | some (.dK _) => some "dict" | some (.dT _) => some "dict" | _ => none) = some "tuple"; rw [hp]), isK_tuple_str, h⟩
theorem i_isiL_list {a : Addr} {H : Hp} {Q : VK} {xs : List V} (hp : H a = some (.lst xs)) (h : Q (.bl true) H) : cIsi [.ref a, .ty "list"] H Q := ⟨_, _, _, _, rfl, (by show (match H a with | some (.lst _) => some "list" | some (.frz _ (.lst _)) => some "list" | some (.tup _) => some "tuple" | some (.dK _) => some "dict" | some (.dT _) => some "dict" | _ => none) = some "list"; rw [hp]), isK_list_list, h⟩
theorem i_isiT_list {a : Addr} {H : Hp} {Q : VK} {xs : List V} (hp : H a = some (.tup xs)) (h : Q (.bl false) H) : cIsi [.ref a, .ty "list"] H Q := ⟨_, _, _, _, rfl, (by show (match H a with | some (.lst _) => some "list" | some (.frz _ (.lst _)) => some "list" | some (.tup _) => some "tuple" | some (.dK _) => some "dict" | some (.dT _) => some "dict" | _ => none) = some "tuple"; rw [hp]), isK_tuple_list, h⟩
theorem i_isiL_tuple {a : Addr} {H : Hp} {Q : VK} {xs : List V} (hp : H a = some (.lst xs)) (h : Q (.bl false) H) : cIsi [.ref a, .ty "tuple"] H Q := ⟨_, _, _, _, rfl, (by show (match H a with | some (.lst _) => some "list" | some (.frz _ (.lst _)) => some "list" | some (.tup _) => some "tuple" | some (.dK _) => some "dict" | some (.dT _) => some "dict" | _ => none) = some "list"; rw [hp]), isK_list_tuple, h⟩
theorem i_isiT_tuple {a : Addr} {H : Hp} {Q : VK} {xs : List V} (hp : H a = some (.tup xs)) (h : Q (.bl true) H) : cIsi [.ref a, .ty "tuple"] H Q := ⟨_, _, _, _, rfl, (by show (match H a with | some (.lst _) => some "list" | some (.frz _ (.lst _)) => some "list" | some (.tup _) => some "tuple" | some (.dK _) => some "dict" | some (.dT _) => some "dict" | _ => none) = some "tuple"; rw [hp]), isK_tuple_tuple, h⟩
def cLenL (K : PySem.W.Frag) : List V → Hp → VK → Prop := fun xs H Q => ∃ p ys, xs = [.ref p] ∧ (SqL K H p ys ∨ SqT K H p ys) ∧ Q (.int ys.length) H
theorem i_lenL {K : PySem.W.Frag} {a : Addr} {H : Hp} {Q : VK} {xs : List V} (hp : SqL K H a xs) (h : Q (.int xs.length) H) : cLenL K [.ref a] H Q := ⟨a, xs, rfl, .inl hp, h⟩
def cLenS : List V → Hp → VK → Prop := fun xs H Q => ∃ z, xs = [.str z] ∧ z.length ≤ sizeLine ∧ Q (.int z.length) H
theorem i_ixL {K : PySem.W.Frag} {a : Addr} {H : Hp} {Q : VK} {xs : List V} {i : Int} {v : V} (hp : SqL K H a xs) (hi : atI xs i = some v) (h : Q v H) : rIxL K (.ref a) (.int i) H Q := ⟨a, xs, i, v, rfl, rfl, hp, hi, h⟩
section
variable {K : PySem.W.Frag} {a : Addr} {xs : List V} {g : TG} {tb : TS} {σ : St} {H : Hp} {n : St → Hp → Prop} {r : VK}
theorem forL (xs : List V) (Pv : Nat → St → Hp → Prop) (h0 : Pv 0 σ H) (hl : ∀ i σ H, i ≤ xs.length → Pv i σ H → SqL K H a xs)
    (hs : ∀ i x σ H, xs[i]? = some x → Pv i σ H → g x σ H fun σ2 H2 => tb ⟨Pv (i + 1), r, n, Pv (i + 1)⟩ σ2 H2) (hd : ∀ σ H, Pv xs.length σ H → n σ H) :
    ∃ W : Nat → Nat → St → Hp → Prop, (∃ m, W 0 m σ H) ∧ ∀ i m σ H, W i m σ H →
      ((Itl K a).stop i H ∧ n σ H) ∨ ((Itl K a).go i H ∧ ∃ N : St → Hp → Prop, (∀ σ' H', N σ' H' → ∃ m', m' < m ∧ W (i + 1) m' σ' H') ∧ ∀ x H', (Itl K a).yld i H x H' → g x σ H' fun σ2 H2 => tb ⟨N, r, n, N⟩ σ2 H2) :=
  for_list (D := ⟨n, r, fun _ _ => False, fun _ _ => False⟩) Pv h0 hl hs hd
theorem forR {lo : Int} {k : Nat} (Pv : Nat → St → Hp → Prop) (h0 : Pv 0 σ H)
    (hs : ∀ i σ H, i < k → Pv i σ H → g (.int (lo + i)) σ H fun σ2 H2 => tb ⟨Pv (i + 1), r, n, Pv (i + 1)⟩ σ2 H2) (hd : ∀ σ H, Pv k σ H → n σ H) :
    ∃ W : Nat → Nat → St → Hp → Prop, (∃ m, W 0 m σ H) ∧ ∀ i m σ H, W i m σ H →
      ((Itr lo k).stop i H ∧ n σ H) ∨ ((Itr lo k).go i H ∧ ∃ N : St → Hp → Prop, (∀ σ' H', N σ' H' → ∃ m', m' < m ∧ W (i + 1) m' σ' H') ∧ ∀ x H', (Itr lo k).yld i H x H' → g x σ H' fun σ2 H2 => tb ⟨N, r, n, N⟩ σ2 H2) :=
  for_range (D := ⟨n, r, fun _ _ => False, fun _ _ => False⟩) Pv h0 hs hd
end
theorem len_ok {n : Nat} (h : n ≤ 1000000) : n ≤ sizeLine := Nat.le_trans h (by decide)
end G
namespace G
open PySem L2
def rCatS : R2 := fun x y H Q => ∃ i j, x = .str i ∧ y = .str j ∧ i.length + j.length ≤ sizeLine ∧ Q (.str (i ++ j)) H
theorem i_catS {i j : Str} {H : Hp} {Q : VK} (hz : i.length + j.length ≤ sizeLine) (h : Q (.str (i ++ j)) H) : rCatS (.str i) (.str j) H Q := ⟨i, j, rfl, rfl, hz, h⟩
theorem i_ixS {z : Str} {i : Int} {c : Nat} {H : Hp} {Q : VK} (hz : z.length ≤ sizeLine) (hi : atI z.cps.toList i = some c) (h : Q (.str ⟨#[c]⟩) H) : rIxS (.str z) (.int i) H Q := ⟨z, i, c, rfl, rfl, hz, hi, h⟩
theorem i_ixSx {z : Str} {i : Int} {H : Hp} {Q : VK} (hz : z.length ≤ sizeLine) (h0 : 0 ≤ i) (h1 : i < z.length) (h : ∀ c : Nat, Q (.str ⟨#[c]⟩) H) : rIxS (.str z) (.int i) H Q := by
  have hk : i.toNat < z.cps.toList.length := by rw [Array.length_toList]; exact (Int.toNat_lt h0).mpr h1
  have ek : i = ((i.toNat : Nat) : Int) := by omega
  have q : atI z.cps.toList ((i.toNat : Nat) : Int) = some z.cps.toList[i.toNat] := atI_nat (List.getElem?_eq_getElem hk)
  rw [← ek] at q
  exact i_ixS hz q (h _)
def cutS (z : Str) (lo hi : Option Int) : Str := ⟨((z.cps.toList.drop (HT.sIx z.length 0 lo)).take (HT.sIx z.length z.length hi - HT.sIx z.length 0 lo)).toArray⟩
theorem cutS_length (z : Str) (lo hi : Option Int) : (cutS z lo hi).length ≤ z.length := by
  show (List.toArray _).size ≤ z.cps.size
  rw [List.size_toArray, List.length_take, List.length_drop, Array.length_toList]
  omega
def rSlS : V → Option Int → Option Int → Hp → VK → Prop := fun x lo hi H Q => ∃ z, x = .str z ∧ z.length ≤ sizeLine ∧ Q (.str (cutS z lo hi)) H
theorem i_slS {z : Str} {lo hi : Option Int} {H : Hp} {Q : VK} (hz : z.length ≤ sizeLine) (h : Q (.str (cutS z lo hi)) H) : rSlS (.str z) lo hi H Q := ⟨z, rfl, hz, h⟩
def rInS : R2 := fun x y H Q => ∃ c j, x = .str ⟨#[c]⟩ ∧ y = .str j ∧ Q (.bl (decide (c ∈ j.cps.toList))) H
def rNotInS : R2 := fun x y H Q => ∃ c j, x = .str ⟨#[c]⟩ ∧ y = .str j ∧ Q (.bl (!decide (c ∈ j.cps.toList))) H
def find1 (l : List Nat) (c : Nat) : Int := if c ∈ l then (l.idxOf c : Int) else -1
def r_find : V → List V → Hp → VK → Prop := fun x xs H Q => ∃ z c, x = .str z ∧ xs = [.str ⟨#[c]⟩] ∧ Q (.int (find1 z.cps.toList c)) H
def Its (z : Str) : It := ⟨fun i _ => i < z.length, fun i H x H' => H' = H ∧ ∃ c, z.cps.toList[i]? = some c ∧ x = .str ⟨#[c]⟩, fun i _ => z.length ≤ i⟩
def iStr (te : TE) : TI := fun σ H R => te σ H fun x H1 => ∃ z, x = .str z ∧ R (Its z) H1
theorem str_len (z : Str) : z.cps.toList.length = z.length := Array.length_toList
def pick (σ : St) (j : Nat) : Option V := match σ[j]? with
  | some v => v
  | none => none
def tLC (wi : TI) (caps : List Nat) (tc : TT) (te : TE) : TE := fun σ H Q => wi σ H fun J H1 => ∃ W : Nat → Nat → List V → Hp → Prop, (∃ m, W 0 m [] H1) ∧ ∀ i m ys H, W i m ys H →
  (J.stop i H ∧ ∀ p, H p = none → Q (.ref p) (upd H p (.lst ys))) ∨
  (J.go i H ∧ ys.length < sizeLine ∧ ∀ x H', J.yld i H x H' → tc (some x :: caps.map (pick σ)) H' fun k H2 => if k = true then te (some x :: caps.map (pick σ)) H2 (fun y H3 => ∃ m', m' < m ∧ W (i + 1) m' (ys ++ [y]) H3) else ∃ m', m' < m ∧ W (i + 1) m' ys H2)
def tTrue : TT := fun _ H Q => Q true H
theorem i_true {σ : St} {H : Hp} {Q : Bool → Hp → Prop} (h : Q true H) : tTrue σ H Q := h
def cAll (K : PySem.W.Frag) : List V → Hp → VK → Prop := fun xs H Q => ∃ (p : Addr) (bs : List Bool), xs = [.ref p] ∧ SqL K H p (bs.map V.bl) ∧ Q (.bl (bs.all id)) H
end G
namespace G
open PySem L2
def CMulB (i j : Int) : Prop := CMul i j ∨ (i.natAbs < 2 ^ 256 ∧ j.natAbs < 2 ^ 256)
def cStrI : List V → Hp → VK → Prop := fun xs H Q => ∃ i : Int, xs = [.int i] ∧ i.natAbs.log2 < 1920 ∧ Q (.str (Str.ofString (toString i))) H
def dval (l : List Nat) : Int := l.foldl (fun (v : Int) (c : Nat) => v * 10 + ((c : Int) - 48)) 0
def cIntS : List V → Hp → VK → Prop := fun xs H Q => ∃ z : Str, xs = [.str z] ∧ 1 ≤ z.length ∧ z.length ≤ 640 ∧ (∀ c ∈ z.cps.toList, 48 ≤ c ∧ c ≤ 57) ∧ Q (.int (dval z.cps.toList)) H
def repS (z : Str) (n : Int) : Str := ⟨(List.replicate n.toNat z.cps.toList).flatten.toArray⟩
def rRepS : R2 := fun x y H Q => ∃ z k, x = .str z ∧ y = .int k ∧ 0 ≤ k ∧ k ≤ 1000 ∧ z.length ≤ 1000 ∧ ∀ t : Str, t.length ≤ 1000000 → t = repS z k → Q (.str t) H
def r_startswith : V → List V → Hp → VK → Prop := fun x xs H Q => ∃ z c, x = .str z ∧ xs = [.str ⟨#[c]⟩] ∧ Q (.bl (decide (z.cps.toList[0]? = some c))) H
def cMax : List V → Hp → VK → Prop := fun xs H Q => ∃ i j, xs = [.int i, .int j] ∧ Q (.int (if j > i then j else i)) H
def cMin : List V → Hp → VK → Prop := fun xs H Q => ∃ i j, xs = [.int i, .int j] ∧ Q (.int (if j < i then j else i)) H
end G
namespace G
open PySem L2
structure EqD (K : PySem.W.Frag) (C : Addr) : Prop where
  eq : PySem.W.findIn K (.ref C) "__eq__" = some (some (.builtin "object.__eq__"))
  ob : PySem.W.mroIn K C (.type "object") = some true
end G
namespace G
open PySem L2
def xobj (a : Addr) (cls : Value) : HO := .ext fun h => ∃ o vs, h.get? a = some o ∧ o.cls = cls ∧ o.data = .fields vs
def tRaise (C : Addr) (E : XK) (ta : TA) : TS := fun _ σ H => ta σ H fun vs H1 => vs.length ≤ 100 ∧ E (.ref C) none H1
def tCallX (sp : Sp) (dvs : List V) (E : St → XK) (t : TA) : TE := fun σ H Q => t σ H fun vs H1 => sp (vs ++ dvs) H1 Q (E σ)
def tMethX (C : Addr) (m : Str) (sp : Sp) (dvs : List V) (E : St → XK) (ta : TE) (t : TA) : TE := fun σ H Q => ta σ H fun x H1 => ∃ a dx fs, x = .ref a ∧ H1 a = some (.ins C dx fs) ∧ fs.lookup m = none ∧
  t σ H1 fun vs H2 => sp (x :: (vs ++ dvs)) H2 Q (E σ)
def tTry (Mt : Value → Prop) (tb : (St → XK) → TS) (th : TS) : TS := fun D σ H => tb (fun σ' cls _ H' => Mt cls ∧ th D σ' H') D σ H
def tTryAs (Mt : Value → Prop) (i : Nat) (tb : (St → XK) → TS) (th : TS) : TS := fun D σ H =>
  tb (fun σ' cls _ H' => Mt cls ∧ ∀ ea, H' ea = none → th ⟨fun σ2 H2 => D.nx (σ2.set i none) H2, D.rt, fun σ2 H2 => D.bk (σ2.set i none) H2, fun σ2 H2 => D.ct (σ2.set i none) H2⟩ (σ'.set i (some (.ref ea))) (upd H' ea (xobj ea cls))) D σ H
section
variable {σ : St} {H : Hp} {Q : VK} {n : St → Hp → Prop} {r : VK} {b c : St → Hp → Prop} {te : TE} {t : TA}
theorem i_raise {C : Addr} {E : XK} (h : t σ H fun vs H1 => vs.length ≤ 100 ∧ E (.ref C) none H1) : tRaise C E t ⟨n, r, b, c⟩ σ H := h
end
theorem i_gsub {to ti : TE} {ts : TSet} {x : V} {σ : St} {H : Hp} {Q : St → Hp → Prop} (h : to σ H fun o H1 => ti σ H1 fun i H2 => ts o i x H2 fun H3 => Q σ H3) : gSub to ti ts x σ H Q := h
def anyK (isk : Value → Value → Option Bool) (t : Value) : List Value → Option Bool
  | [] => some false
  | c :: r => match isk t c with
    | some true => some true
    | some false => anyK isk t r
    | none => none
def cIsiX (Cs : List Addr) (isk : Value → Value → Option Bool) : List V → Hp → VK → Prop := fun xs H Q => ∃ a c C k, (∃ v, xs = [.ref a, v] ∧ RelV v c) ∧ C ∈ Cs ∧ H a = some (xobj a (.ref C)) ∧ isk (.ref C) c = some k ∧ Q (.bl k) H
def cIsiXT (Cs : List Addr) (isk : Value → Value → Option Bool) : List V → Hp → VK → Prop := fun xs H Q => ∃ (a t : Addr) (Ds : List Addr) (C : Addr) (k : Bool), xs = [.ref a, .ref t] ∧ C ∈ Cs ∧ H a = some (xobj a (.ref C)) ∧ H t = some (.tup (Ds.map V.ref)) ∧ anyK isk (.ref C) (Ds.map Value.ref) = some k ∧ Q (.bl k) H
def cSum (K : PySem.W.Frag) : List V → Hp → VK → Prop := fun xs H Q => ∃ (p : Addr) (ns : List Int), xs = [.ref p] ∧ SqL K H p (ns.map V.int) ∧ Q (.int ns.sum) H
def cListL (K : PySem.W.Frag) : List V → Hp → VK → Prop := fun xs H Q => ∃ (p : Addr) (ys : List V), xs = [.ref p] ∧ SqL K H p ys ∧ ∀ l, H l = none → Q (.ref l) (upd H l (.lst ys))
theorem i_listL {K : PySem.W.Frag} {H : Hp} {Q : VK} {p : Addr} {ys : List V} (h1 : SqL K H p ys) (h : ∀ l, H l = none → Q (.ref l) (upd H l (.lst ys))) : cListL K [.ref p] H Q := ⟨p, ys, rfl, h1, h⟩
def cMinL (K : PySem.W.Frag) : List V → Hp → VK → Prop := fun xs H Q => ∃ (p : Addr) (ns : List Int), xs = [.ref p] ∧ SqL K H p (ns.map V.int) ∧ ns ≠ [] ∧ ∀ m, m ∈ ns → (∀ a ∈ ns, m ≤ a) → Q (.int m) H
def OkN (K : PySem.W.Frag) (H : Hp) (xs : List V) : Prop := ∀ y ∈ xs, y = .non ∨ ∃ a C dx fs, y = .ref a ∧ H a = some (.ins C dx fs) ∧ Cls K C ∧ EqD K C
def rInN (K : PySem.W.Frag) (neg : Bool) : R2 := fun x y H Q => ∃ p xs, x = .non ∧ y = .ref p ∧ SqL K H p xs ∧ OkN K H xs ∧ Q (.bl (if neg then !decide (V.non ∈ xs) else decide (V.non ∈ xs))) H
theorem i_notInN {K : PySem.W.Frag} {H : Hp} {Q : VK} {p : Addr} {xs : List V} (h1 : SqL K H p xs) (h2 : OkN K H xs) (h : Q (.bl (!decide (V.non ∈ xs))) H) : rInN K true .non (.ref p) H Q := ⟨p, xs, rfl, rfl, h1, h2, h⟩
def rIndexN (K : PySem.W.Frag) : V → List V → Hp → VK → Prop := fun x vs H Q => ∃ p xs, x = .ref p ∧ vs = [.non] ∧ SqL K H p xs ∧ OkN K H xs ∧ V.non ∈ xs ∧ Q (.int (xs.idxOf V.non)) H
def eqL (xs ys : List V) : Bool := xs.length == ys.length && (xs.zip ys).all fun p => eqV p.1 p.2
def rEqL (K : PySem.W.Frag) (neg : Bool) : R2 := fun x y H Q => ∃ p q xs ys, x = .ref p ∧ y = .ref q ∧ SqL K H p xs ∧ SqL K H q ys ∧ (xs.length = ys.length → xs.all flatV = true ∧ ys.all flatV = true) ∧ Q (.bl (if neg then !eqL xs ys else eqL xs ys)) H
def Fm (S : List Addr) (H H' : Hp) : Prop := ∀ b o, H b = some o → b ∉ S → H' b = some o
theorem Fm.same {H H' : Hp} (a : Fm [] H H') : Same H H' := fun c o h => a c o h (fun z => nomatch z)
def fz (S : List Addr) (H : Hp) : Hp := fun b => if b ∈ S then none else H b
def LCg (J : It) (caps : List Nat) (tc : TT) (te : TE) (σ : St) (H : Hp) (Q : VK) : Prop := ∃ W : Nat → Nat → List V → Hp → Prop, (∃ m, W 0 m [] H) ∧ ∀ i m ys H, W i m ys H →
  (J.stop i H ∧ ∀ p, H p = none → Q (.ref p) (upd H p (.lst ys))) ∨
  (J.go i H ∧ ys.length < sizeLine ∧ ∀ x H', J.yld i H x H' → tc (some x :: caps.map (pick σ)) H' fun k H2 => if k = true then te (some x :: caps.map (pick σ)) H2 (fun y H3 => ∃ m', m' < m ∧ W (i + 1) m' (ys ++ [y]) H3) else ∃ m', m' < m ∧ W (i + 1) m' ys H2)
theorem i_lcg {wi : TI} {caps : List Nat} {tc : TT} {te : TE} {σ : St} {H : Hp} {Q : VK} (h : wi σ H fun J H1 => LCg J caps tc te σ H1 Q) : tLC wi caps tc te σ H Q := h
theorem ixN_nat {n i : Nat} (h : i < n) : ixN n (i : Int) = some i := by
  unfold ixN
  rw [if_pos (by omega), if_pos (by omega)]; simp
theorem ixN_int {n : Nat} {i : Int} (h0 : 0 ≤ i) (h : i.toNat < n) : ixN n i = some i.toNat := by
  have e : i = ((i.toNat : Nat) : Int) := by omega
  have := ixN_nat h
  rw [← e] at this; exact this
theorem atI_int {α : Type} {xs : List α} {i : Int} {v : α} (h0 : 0 ≤ i) (h : xs[i.toNat]? = some v) : atI xs i = some v := by
  have e : i = ((i.toNat : Nat) : Int) := by omega
  have := atI_nat h
  rw [← e] at this; exact this
end G
namespace G
open PySem L2
inductive Al {α β : Type} (P : α → β → Prop) : List α → List β → Prop
  | nil : Al P [] []
  | cons {x : α} {y : β} {xs : List α} {ys : List β} : P x y → Al P xs ys → Al P (x :: xs) (y :: ys)
section
variable {α β : Type} {P P' : α → β → Prop} {xs : List α} {ys : List β}
theorem Al.length (h : Al P xs ys) : xs.length = ys.length := by
  induction h with
  | nil => rfl
  | cons _ _ ih => rw [List.length_cons, List.length_cons, ih]
theorem Al.mono (h : Al P xs ys) (f : ∀ x y, P x y → P' x y) : Al P' xs ys := by
  induction h with
  | nil => exact .nil
  | cons p _ ih => exact .cons (f _ _ p) ih
theorem Al.get (h : Al P xs ys) : ∀ {i : Nat} {y : β}, ys[i]? = some y → ∃ x, xs[i]? = some x ∧ P x y := by
  induction h with
  | nil => intro i y e; simp at e
  | cons p _ ih =>
    intro i y e
    cases i with
    | zero => simp at e; subst e; exact ⟨_, rfl, p⟩
    | succ i =>
      obtain ⟨x, e1, e2⟩ := ih (i := i) (y := y) (by simpa using e)
      exact ⟨x, by simpa using e1, e2⟩
end
end G
namespace G
open PySem L2
abbrev Tg := Addr → Nat × Nat
def WT (H : Hp) (T : Tg) : Prop := ∀ b, H b = none → T b = (0, 0)
structure Stp (s : Nat) (H H' : Hp) (T T' : Tg) : Prop where
  kp : ∀ b o, H b = some o → (T b).1 ≠ s → H' b = some o
  al : ∀ b o, H b = some o → ∃ o', H' b = some o'
  tg : ∀ b o, H b = some o → T' b = T b
  wt : WT H' T'
def setT (T : Tg) (a : Addr) (v : Nat × Nat) : Tg := fun x => if x = a then v else T x
theorem setT_same {T : Tg} {a : Addr} {v : Nat × Nat} : setT T a v a = v := by unfold setT; rw [if_pos rfl]
theorem setT_ne {T : Tg} {a b : Addr} {v : Nat × Nat} (h : b ≠ a) : setT T a v b = T b := by unfold setT; rw [if_neg h]
theorem WT.same {H H' : Hp} {T : Tg} (w : WT H T) (s : Same H H') : WT H' T := fun b h => w b (s.free h)
theorem Stp.refl {s : Nat} {H : Hp} {T : Tg} (w : WT H T) : Stp s H H T T := ⟨fun _ _ h _ => h, fun _ o h => ⟨o, h⟩, fun _ _ _ => rfl, w⟩
theorem Stp.trans {s : Nat} {H H1 H2 : Hp} {T T1 T2 : Tg} (a : Stp s H H1 T T1) (b : Stp s H1 H2 T1 T2) : Stp s H H2 T T2 where
  kp := fun x o h n => b.kp x o (a.kp x o h n) (by rw [a.tg x o h]; exact n)
  al := fun x o h => by
    obtain ⟨o1, h1⟩ := a.al x o h
    exact b.al x o1 h1
  tg := fun x o h => by
    obtain ⟨o1, h1⟩ := a.al x o h
    rw [b.tg x o1 h1, a.tg x o h]
  wt := b.wt
theorem Stp.upd {s : Nat} {H : Hp} {T : Tg} {a : Addr} {o o' : HO} (w : WT H T) (ha : H a = some o) (ht : (T a).1 = s) : Stp s H (L2.upd H a o') T T where
  kp := fun x u h n => by
    have : x ≠ a := fun e => n (by rw [e]; exact ht)
    rw [upd_ne this]; exact h
  al := fun x u h => by
    by_cases e : x = a
    · exact ⟨o', by rw [e, upd_same]⟩
    · exact ⟨u, by rw [upd_ne e]; exact h⟩
  tg := fun _ _ _ => rfl
  wt := fun b h => w b (by
    by_cases e : b = a
    · rw [e, upd_same] at h; cases h
    · rw [upd_ne e] at h; exact h)
theorem ne_tag {T : Tg} {a b : Addr} {x y : Nat × Nat} (ha : T a = x) (hb : T b = y) (h : x ≠ y) : a ≠ b := fun e => h (by rw [← ha, ← hb, e])
end G
namespace G
open PySem L2
theorem lc_new {J : It} {caps : List Nat} {tc : TT} {te : TE} {σ : St} {H : Hp} {Q : VK} (k : Nat) (hz : k ≤ 1000000) (R : Nat → V → Hp → Prop) (mono : ∀ i y H1 H2, R i y H1 → Same H1 H2 → R i y H2)
    (hstop : ∀ H', Same H H' → J.stop k H') (hgo : ∀ i H', i < k → Same H H' → J.go i H')
    (hy : ∀ i x H1 H', i < k → Same H H1 → J.yld i H1 x H' → H' = H1 ∧ (∀ q : Bool → Hp → Prop, q true H1 → tc (some x :: caps.map (pick σ)) H1 q) ∧ ∀ q : VK, (∀ y H2, Same H1 H2 → R i y H2 → q y H2) → te (some x :: caps.map (pick σ)) H1 q)
    (q : ∀ ys H', Same H H' → ys.length = k → (∀ (i : Nat) y, ys[i]? = some y → R i y H') → ∀ p, H' p = none → Q (.ref p) (upd H' p (.lst ys))) :
    LCg J caps tc te σ H Q := by
  refine ⟨fun i m ys H' => Same H H' ∧ i ≤ k ∧ m = k - i ∧ ys.length = i ∧ ∀ (j : Nat) y, ys[j]? = some y → R j y H', ⟨k, Same.refl _, Nat.zero_le _, rfl, rfl, fun j y e => by simp at e⟩, ?_⟩
  rintro i m ys H1 ⟨s1, hi, rfl, hl, hr⟩
  by_cases hk : i = k
  · subst hk
    exact .inl ⟨hstop H1 s1, q ys H1 s1 hl hr⟩
  · have hlt : i < k := by omega
    refine .inr ⟨hgo i H1 hlt s1, Nat.lt_of_le_of_lt (show ys.length ≤ 1000000 by omega) (show 1000000 < sizeLine by decide), fun x H' y => ?_⟩
    obtain ⟨rfl, h1, h2⟩ := hy i x H1 H' hlt s1 y
    refine h1 _ (iteT (h2 _ fun y H2 s2 r => ⟨k - (i + 1), by omega, s1.trans s2, by omega, rfl, by rw [List.length_append, hl]; rfl, fun j z e => ?_⟩))
    by_cases hj : j < ys.length
    · rw [List.getElem?_append_left hj] at e
      exact mono j z _ _ (hr j z e) s2
    · have hj' := (List.getElem?_eq_some_iff.mp e).1
      rw [List.length_append, List.length_singleton] at hj'
      have ej : j = ys.length := by omega
      subst ej
      rw [List.getElem?_append_right (Nat.le_refl _), Nat.sub_self] at e
      cases e
      rw [hl]
      exact r
theorem lc_newD {J : It} {caps : List Nat} {tc : TT} {te : TE} {σ : St} {H : Hp} {Q : VK} (k : Nat) (hz : k ≤ 1000000) (R : Nat → Addr → Hp → Prop) (mono : ∀ i y H1 H2, R i y H1 → Same H1 H2 → R i y H2) (al : ∀ i y H1, R i y H1 → ∃ o, H1 y = some o)
    (hstop : ∀ H', Same H H' → J.stop k H') (hgo : ∀ i H', i < k → Same H H' → J.go i H')
    (hy : ∀ i x H1 H', i < k → Same H H1 → J.yld i H1 x H' → H' = H1 ∧ (∀ q : Bool → Hp → Prop, q true H1 → tc (some x :: caps.map (pick σ)) H1 q) ∧ ∀ q : VK, (∀ r H2, Same H1 H2 → H1 r = none → R i r H2 → q (.ref r) H2) → te (some x :: caps.map (pick σ)) H1 q)
    (q : ∀ (rs : List Addr) H', Same H H' → rs.length = k → rs.Nodup → (∀ r ∈ rs, H r = none) → (∀ (i : Nat) r, rs[i]? = some r → R i r H') → ∀ p, H' p = none → Q (.ref p) (upd H' p (.lst (rs.map V.ref)))) :
    LCg J caps tc te σ H Q := by
  refine ⟨fun i m ys H' => ∃ rs : List Addr, ys = rs.map V.ref ∧ Same H H' ∧ i ≤ k ∧ m = k - i ∧ rs.length = i ∧ rs.Nodup ∧ (∀ r ∈ rs, H r = none) ∧ ∀ (j : Nat) r, rs[j]? = some r → R j r H', ⟨k, [], rfl, Same.refl _, Nat.zero_le _, rfl, rfl, List.nodup_nil, fun r hr => (nomatch hr), fun j y e => by simp at e⟩, ?_⟩
  rintro i m _ H1 ⟨rs, rfl, s1, hi, rfl, hl, nd, nn, hr⟩
  by_cases hk : i = k
  · subst hk
    exact .inl ⟨hstop H1 s1, q rs H1 s1 hl nd nn hr⟩
  · have hlt : i < k := by omega
    refine .inr ⟨hgo i H1 hlt s1, Nat.lt_of_le_of_lt (show (rs.map V.ref).length ≤ 1000000 by rw [List.length_map]; omega) (show 1000000 < sizeLine by decide), fun x H' y => ?_⟩
    obtain ⟨rfl, h1, h2⟩ := hy i x H1 H' hlt s1 y
    refine h1 _ (iteT (h2 _ fun r H2 s2 nr rr => ⟨k - (i + 1), by omega, rs ++ [r], by rw [List.map_append]; rfl, s1.trans s2, by omega, rfl, by rw [List.length_append, hl]; rfl, ?_, fun z hz => ?_, fun j z e => ?_⟩))
    · rw [List.nodup_append]
      refine ⟨nd, by simp, fun a ha b hb e => ?_⟩
      rw [List.mem_singleton.mp hb] at e
      subst e
      obtain ⟨j, hj, ej⟩ := List.getElem_of_mem ha
      obtain ⟨o, ho⟩ := al j a _ (hr j a (by rw [List.getElem?_eq_getElem hj, ej]))
      rw [nr] at ho; cases ho
    · rcases List.mem_append.mp hz with hz | hz
      · exact nn z hz
      · rw [List.mem_singleton.mp hz]; exact s1.free nr
    · by_cases hj : j < rs.length
      · rw [List.getElem?_append_left hj] at e
        exact mono j z _ _ (hr j z e) s2
      · have hj' := (List.getElem?_eq_some_iff.mp e).1
        rw [List.length_append, List.length_singleton] at hj'
        have ej : j = rs.length := by omega
        subst ej
        rw [List.getElem?_append_right (Nat.le_refl _), Nat.sub_self] at e
        cases e
        rw [hl]
        exact rr
theorem lc_newDL {K : PySem.W.Frag} {a : Addr} {xs : List V} {caps : List Nat} {tc : TT} {te : TE} {σ : St} {H : Hp} {Q : VK} (hs : SqL K H a xs) (hz : xs.length ≤ 1000000) (R : Nat → Addr → Hp → Prop) (mono : ∀ i y H1 H2, R i y H1 → Same H1 H2 → R i y H2) (al : ∀ i y H1, R i y H1 → ∃ o, H1 y = some o)
    (htc : ∀ x H1, ∀ q : Bool → Hp → Prop, q true H1 → tc (some x :: caps.map (pick σ)) H1 q)
    (hte : ∀ (i : Nat) x H1, xs[i]? = some x → Same H H1 → ∀ q : VK, (∀ r H2, Same H1 H2 → H1 r = none → R i r H2 → q (.ref r) H2) → te (some x :: caps.map (pick σ)) H1 q)
    (q : ∀ (rs : List Addr) H', Same H H' → rs.length = xs.length → rs.Nodup → (∀ r ∈ rs, H r = none) → (∀ (i : Nat) r, rs[i]? = some r → R i r H') → ∀ p, H' p = none → Q (.ref p) (upd H' p (.lst (rs.map V.ref)))) : LCg (Itl K a) caps tc te σ H Q := by
  refine lc_newD xs.length hz R mono al (fun H' s => ⟨xs, s.seq hs, Nat.le_refl _⟩) (fun i H' hi s => ⟨xs, xs[i], s.seq hs, List.getElem?_eq_getElem hi⟩) (fun i x H1 H' hi s1 y => ?_) q
  obtain ⟨e1, e2⟩ := y
  exact ⟨e1, htc x H1, fun q hq => hte i x H1 (e2 xs (s1.seq hs)) s1 q hq⟩
end G
namespace G
open PySem L2 PySem.Spec PyProof.Rows
theorem boot_isinstance : bootBuiltins "isinstance" = some (.builtin "isinstance") := by decide +kernel
theorem boot_len : bootBuiltins "len" = some (.builtin "len") := by decide +kernel
theorem boot_int : bootBuiltins "int" = some (.type "int") := by decide +kernel
theorem boot_str : bootBuiltins "str" = some (.type "str") := by decide +kernel
theorem boot_bool : bootBuiltins "bool" = some (.type "bool") := by decide +kernel
theorem boot_list : bootBuiltins "list" = some (.type "list") := by decide +kernel
theorem boot_tuple : bootBuiltins "tuple" = some (.type "tuple") := by decide +kernel
structure FunD (K : PySem.W.Frag) (x qual : Str) (st : Stmt) (f : Addr) (fd : FuncData) : Prop where
  ex : ∃ (oc : Value) (od : Option Addr) (dV kV doc pm : Value) (an : Option Addr) (cdv ct : Value) (osl : Array (Option Value)),
    fd = PySem.W.fnOf x qual (defArgs st) (defBody st) (defScope st) dV kV doc pm an cdv ct ∧ K.lookup f = some ⟨oc, od, .func fd, osl⟩ ∧ PySem.W.codeIn K cdv qual = true
  kp : PySem.W.keepIn K (.ref f) = true
section
variable {P : Program} {w : World} {K : PySem.W.Frag} {mg : Str → Option Value} {base : Heap}
theorem funD_mk {x qual : Str} {st : Stmt} {f : Addr} {oc dV : Value} {od an : Option Addr} {osl : Array (Option Value)} {kV doc pm cdv ct : Value} (l : K.lookup f = some ⟨oc, od, .func (PySem.W.fnOf x qual (defArgs st) (defBody st) (defScope st) dV kV doc pm an cdv ct), osl⟩)
    (c : PySem.W.codeIn K cdv qual = true) (k : PySem.W.keepIn K (.ref f) = true) : FunD K x qual st f (PySem.W.fnOf x qual (defArgs st) (defBody st) (defScope st) dV kV doc pm an cdv ct) := ⟨⟨oc, od, dV, kV, doc, pm, an, cdv, ct, osl, rfl, l, c⟩, k⟩
theorem bindsD {f td : Addr} {oc tc : Value} {od to_ : Option Addr} {osl ts : Array (Option Value)} {fd : FuncData} {items : Array Value} {tn : Nat} {ps : List Str} {ds : List Value} (_ : K.lookup f = some ⟨oc, od, .func fd, osl⟩) (t : K.lookup td = some ⟨tc, to_, .seq items tn, ts⟩)
    (h : ∀ us : List Value, us.length + ds.length = ps.length → ∃ k, bindArgs fd ⟨us, []⟩ = seqItems? (.ref td) >>= k ∧ k (some items) = pure (ps.zip (us ++ ds))) (hd : fd.defaults = .ref td := by rfl) : Binds K fd ps ds := by
  intro s us KX hl
  obtain ⟨k, h1, h2⟩ := h us (by rw [List.length_append] at hl; exact hl)
  exact BindsTo.of_defaults hd (KX _ _ t) rfl (by rw [h1, hd]) h2
end
section
variable {X : Cx}
theorem op_isN_ : OpR X (compareOp .Is) rIsN := op_isN
theorem call_lenL : CallR X (.builtin "len") (cLenL X.K) := call_len_seq
def kk (t n : String) : Option Bool := if (Value.type t == Value.type n) = true then some true else if PySem.W.kitMeta n = true then (fastBuiltinMro t).map (·.contains (.type n)) else none
theorem kit_kk (K : PySem.W.Frag) (t n : String) : PySem.W.kitOne K (.type t) (.type n) = kk t n := rfl
theorem kk_int_int : kk "int" "int" = some true := by decide +kernel
theorem kk_int_bool : kk "int" "bool" = some false := by decide +kernel
theorem kk_int_str : kk "int" "str" = some false := by decide +kernel
theorem kk_int_list : kk "int" "list" = some false := by decide +kernel
theorem kk_int_tuple : kk "int" "tuple" = some false := by decide +kernel
theorem kk_int_dict : kk "int" "dict" = some false := by decide +kernel
theorem kk_bool_int : kk "bool" "int" = some true := by decide +kernel
theorem kk_bool_bool : kk "bool" "bool" = some true := by decide +kernel
theorem kk_bool_str : kk "bool" "str" = some false := by decide +kernel
theorem kk_bool_list : kk "bool" "list" = some false := by decide +kernel
theorem kk_bool_tuple : kk "bool" "tuple" = some false := by decide +kernel
theorem kk_bool_dict : kk "bool" "dict" = some false := by decide +kernel
theorem kk_str_int : kk "str" "int" = some false := by decide +kernel
theorem kk_str_bool : kk "str" "bool" = some false := by decide +kernel
theorem kk_str_str : kk "str" "str" = some true := by decide +kernel
theorem kk_str_list : kk "str" "list" = some false := by decide +kernel
theorem kk_str_tuple : kk "str" "tuple" = some false := by decide +kernel
theorem kk_str_dict : kk "str" "dict" = some false := by decide +kernel
theorem kk_NoneType_int : kk "NoneType" "int" = some false := by decide +kernel
theorem kk_NoneType_bool : kk "NoneType" "bool" = some false := by decide +kernel
theorem kk_NoneType_str : kk "NoneType" "str" = some false := by decide +kernel
theorem kk_NoneType_list : kk "NoneType" "list" = some false := by decide +kernel
theorem kk_NoneType_tuple : kk "NoneType" "tuple" = some false := by decide +kernel
theorem kk_NoneType_dict : kk "NoneType" "dict" = some false := by decide +kernel
theorem kk_list_int : kk "list" "int" = some false := by decide +kernel
theorem kk_list_bool : kk "list" "bool" = some false := by decide +kernel
theorem kk_list_str : kk "list" "str" = some false := by decide +kernel
theorem kk_list_list : kk "list" "list" = some true := by decide +kernel
theorem kk_list_tuple : kk "list" "tuple" = some false := by decide +kernel
theorem kk_list_dict : kk "list" "dict" = some false := by decide +kernel
theorem kk_tuple_int : kk "tuple" "int" = some false := by decide +kernel
theorem kk_tuple_bool : kk "tuple" "bool" = some false := by decide +kernel
theorem kk_tuple_str : kk "tuple" "str" = some false := by decide +kernel
theorem kk_tuple_list : kk "tuple" "list" = some false := by decide +kernel
theorem kk_tuple_tuple : kk "tuple" "tuple" = some true := by decide +kernel
theorem kk_tuple_dict : kk "tuple" "dict" = some false := by decide +kernel
theorem kk_dict_int : kk "dict" "int" = some false := by decide +kernel
theorem kk_dict_bool : kk "dict" "bool" = some false := by decide +kernel
theorem kk_dict_str : kk "dict" "str" = some false := by decide +kernel
theorem kk_dict_list : kk "dict" "list" = some false := by decide +kernel
theorem kk_dict_tuple : kk "dict" "tuple" = some false := by decide +kernel
theorem kk_dict_dict : kk "dict" "dict" = some true := by decide +kernel
theorem tyN_in {H : Hp} {x : V} {t : String} (e : tyN H x = some t) : t = "int" ∨ t = "bool" ∨ t = "str" ∨ t = "NoneType" ∨ t = "list" ∨ t = "tuple" ∨ t = "dict" := by
  unfold tyN at e
  split at e <;> (first | (cases e; simp) | (split at e <;> (first | (cases e; simp) | cases e)) | cases e)
theorem isK_in {t n : String} {k : Bool} (e : isK t n = some k) : n = "int" ∨ n = "bool" ∨ n = "str" ∨ n = "list" ∨ n = "tuple" ∨ n = "dict" := by
  unfold isK at e
  by_cases h : (["int", "bool", "str", "list", "tuple", "dict"].contains n) = true
  · simpa using h
  · rw [if_neg h] at e; cases e
theorem kk_of {H : Hp} {x : V} {t n : String} {k : Bool} (ht : tyN H x = some t) (e : isK t n = some k) : kk t n = some k := by
  rcases tyN_in ht with rfl | rfl | rfl | rfl | rfl | rfl | rfl <;> rcases isK_in e with rfl | rfl | rfl | rfl | rfl | rfl
  · rw [isK_int_int] at e; rw [kk_int_int]; exact e
  · rw [isK_int_bool] at e; rw [kk_int_bool]; exact e
  · rw [isK_int_str] at e; rw [kk_int_str]; exact e
  · rw [isK_int_list] at e; rw [kk_int_list]; exact e
  · rw [isK_int_tuple] at e; rw [kk_int_tuple]; exact e
  · rw [isK_int_dict] at e; rw [kk_int_dict]; exact e
  · rw [isK_bool_int] at e; rw [kk_bool_int]; exact e
  · rw [isK_bool_bool] at e; rw [kk_bool_bool]; exact e
  · rw [isK_bool_str] at e; rw [kk_bool_str]; exact e
  · rw [isK_bool_list] at e; rw [kk_bool_list]; exact e
  · rw [isK_bool_tuple] at e; rw [kk_bool_tuple]; exact e
  · rw [isK_bool_dict] at e; rw [kk_bool_dict]; exact e
  · rw [isK_str_int] at e; rw [kk_str_int]; exact e
  · rw [isK_str_bool] at e; rw [kk_str_bool]; exact e
  · rw [isK_str_str] at e; rw [kk_str_str]; exact e
  · rw [isK_str_list] at e; rw [kk_str_list]; exact e
  · rw [isK_str_tuple] at e; rw [kk_str_tuple]; exact e
  · rw [isK_str_dict] at e; rw [kk_str_dict]; exact e
  · rw [isK_NoneType_int] at e; rw [kk_NoneType_int]; exact e
  · rw [isK_NoneType_bool] at e; rw [kk_NoneType_bool]; exact e
  · rw [isK_NoneType_str] at e; rw [kk_NoneType_str]; exact e
  · rw [isK_NoneType_list] at e; rw [kk_NoneType_list]; exact e
  · rw [isK_NoneType_tuple] at e; rw [kk_NoneType_tuple]; exact e
  · rw [isK_NoneType_dict] at e; rw [kk_NoneType_dict]; exact e
  · rw [isK_list_int] at e; rw [kk_list_int]; exact e
  · rw [isK_list_bool] at e; rw [kk_list_bool]; exact e
  · rw [isK_list_str] at e; rw [kk_list_str]; exact e
  · rw [isK_list_list] at e; rw [kk_list_list]; exact e
  · rw [isK_list_tuple] at e; rw [kk_list_tuple]; exact e
  · rw [isK_list_dict] at e; rw [kk_list_dict]; exact e
  · rw [isK_tuple_int] at e; rw [kk_tuple_int]; exact e
  · rw [isK_tuple_bool] at e; rw [kk_tuple_bool]; exact e
  · rw [isK_tuple_str] at e; rw [kk_tuple_str]; exact e
  · rw [isK_tuple_list] at e; rw [kk_tuple_list]; exact e
  · rw [isK_tuple_tuple] at e; rw [kk_tuple_tuple]; exact e
  · rw [isK_tuple_dict] at e; rw [kk_tuple_dict]; exact e
  · rw [isK_dict_int] at e; rw [kk_dict_int]; exact e
  · rw [isK_dict_bool] at e; rw [kk_dict_bool]; exact e
  · rw [isK_dict_str] at e; rw [kk_dict_str]; exact e
  · rw [isK_dict_list] at e; rw [kk_dict_list]; exact e
  · rw [isK_dict_tuple] at e; rw [kk_dict_tuple]; exact e
  · rw [isK_dict_dict] at e; rw [kk_dict_dict]; exact e
theorem tyOf {K : PySem.W.Frag} {H : Hp} {x : V} {t : String} (e : tyN H x = some t) : TyOf K H x (.type t) := by
  cases x with
  | non => cases e; exact .non
  | bl y => cases e; exact .bl y
  | int y => cases e; exact .int y
  | str y => cases e; exact .str y
  | byt y => cases e
  | flt y => cases e
  | ty y => cases e
  | ref a =>
    have e' : (match H a with | some (.lst _) => some "list" | some (.frz _ (.lst _)) => some "list" | some (.tup _) => some "tuple" | some (.dK _) => some "dict" | some (.dT _) => some "dict" | _ => none) = some t := e
    split at e'
    · rename_i h; cases e'; exact .lst h
    · rename_i h; cases e'; exact .frz h
    · rename_i h; cases e'; exact .tup h
    · rename_i h; cases e'; exact .dK h
    · rename_i h; cases e'; exact .dT h
    · cases e'
theorem call_isi : CallR X (.builtin "isinstance") cIsi := by
  intro pins s σ H xs us Q I r h
  obtain ⟨x, n, t, k, rfl, ht, hk, q⟩ := h
  obtain ⟨u, w', rfl, rx, rn⟩ := vals2 r
  have rn' : w' = Value.type n := rn
  subst rn'
  exact isinst_ok (t := .type t) (b := k) I rx (tyOf ht) ((kit_kk _ _ _).trans (kk_of ht hk)) fun tk => ⟨.bl k, H, I.tok _, rfl, q⟩
end
end G
namespace G
open PySem L2 PySem.Spec PyProof.Rows
section
variable {X : Cx}
theorem clip_sIx (n : Nat) (o : Option Int) (d : Nat) (v : Int) (h : o = some v) : max (0 : Int) (min (if v < 0 then v + n else v) n) = ((HT.sIx n d o : Nat) : Int) := by
  subst h
  show _ = (((if v < 0 then (v + (n : Int)).toNat else min v.toNat n : Nat)) : Int)
  split <;> omega
theorem slice_idx (lo hi : Option Int) (n : Nat) : Builtin.Str.strSliceIndices lo hi 1 n = Builtin.Str.strSliceIndices (some ((HT.sIx n 0 lo : Nat) : Int)) (some ((HT.sIx n n hi : Nat) : Int)) 1 n := by
  have a1 := HT.sIx_le n 0 (Nat.zero_le _) lo
  have a2 := HT.sIx_le n n (Nat.le_refl _) hi
  have e1 : max (0 : Int) (min (if ((HT.sIx n 0 lo : Nat) : Int) < 0 then ((HT.sIx n 0 lo : Nat) : Int) + n else ((HT.sIx n 0 lo : Nat) : Int)) n) = ((HT.sIx n 0 lo : Nat) : Int) := by
    rw [if_neg (by omega)]; omega
  have e2 : max (0 : Int) (min (if ((HT.sIx n n hi : Nat) : Int) < 0 then ((HT.sIx n n hi : Nat) : Int) + n else ((HT.sIx n n hi : Nat) : Int)) n) = ((HT.sIx n n hi : Nat) : Int) := by
    rw [if_neg (by omega)]; omega
  simp only [Builtin.Str.strSliceIndices, show ((1 : Int) > 0) = True from by simp, if_true]
  rw [e1, e2]
  cases lo with
  | none =>
    cases hi with
    | none => rfl
    | some j => dsimp only; rw [clip_sIx n (some j) n j rfl]; rfl
  | some i =>
    cases hi with
    | none => dsimp only; rw [clip_sIx n (some i) 0 i rfl]; rfl
    | some j => dsimp only; rw [clip_sIx n (some j) n j rfl, clip_sIx n (some i) 0 i rfl]
theorem slice_cut (z : Str) (lo hi : Option Int) : (Builtin.Str.strSliceIndices lo hi 1 z.length).filterMap (z.cps[·]?) = (z.cps.toList.drop (HT.sIx z.length 0 lo)).take (HT.sIx z.length z.length hi - HT.sIx z.length 0 lo) := by
  rw [slice_idx]
  by_cases h : HT.sIx z.length 0 lo ≤ HT.sIx z.length z.length hi
  · exact StrLaws.sliced_plain z h (HT.sIx_le _ _ (Nat.le_refl _) _)
  · have e : HT.sIx z.length z.length hi - HT.sIx z.length 0 lo = 0 := by omega
    rw [e, List.take_zero]
    have e2 : Builtin.Str.strSliceIndices (some ((HT.sIx z.length 0 lo : Nat) : Int)) (some ((HT.sIx z.length z.length hi : Nat) : Int)) 1 z.length = [] := by
      have a1 := HT.sIx_le z.length 0 (Nat.zero_le _) lo
      have a2 := HT.sIx_le z.length z.length (Nat.le_refl _) hi
      simp only [Builtin.Str.strSliceIndices, sliceRange, show ((1 : Int) > 0) = True from by simp, if_true]
      rw [if_neg (by omega : ¬ ((HT.sIx z.length 0 lo : Nat) : Int) < 0), if_neg (by omega : ¬ ((HT.sIx z.length z.length hi : Nat) : Int) < 0), if_neg (by omega)]
      rfl
    rw [e2]
    rfl
theorem part_of {v : Value} {o : Option Int} (p : IsPart v o) : ∃ q : Option (Int × Tok), v = partValue q ∧ q.map (·.1) = o := by
  cases p with
  | none => exact ⟨none, rfl, rfl⟩
  | int i t => exact ⟨some (i, t), rfl, rfl⟩
theorem sl_str : SlR X rSlS := by
  intro pins s σ H x v vl vu lo hi sl Q I rx hs pl pu h
  obtain ⟨z, rfl, hz, q⟩ := h
  obtain ⟨t, rfl⟩ := rx
  obtain ⟨ql, rfl, el⟩ := part_of pl
  obtain ⟨qu, rfl, eu⟩ := part_of pu
  refine ⟨"str", _, F.slot_str_getitem.lookup, typeIs_str _ _ _, ?_⟩
  refine wpAny_getItem_str_slice (l := ql) (u := qu) (st := none) hs rfl ?_
  have ep : (slicePicked z ql qu none).filterMap (z.cps[·]?) = (z.cps.toList.drop (HT.sIx z.length 0 lo)).take (HT.sIx z.length z.length hi - HT.sIx z.length 0 lo) := by
    unfold slicePicked
    rw [el, eu]
    exact slice_cut z lo hi
  have em : (⟨((slicePicked z ql qu none).filterMap (z.cps[·]?)).toArray⟩ : Str) = cutS z lo hi := by
    rw [ep]; rfl
  unfold sliceMade
  split
  · rename_i hw
    -- the whole text
    have hl : (slicePicked z ql qu none).length = z.length := by
      rw [Bool.and_eq_true] at hw
      exact beq_iff_eq.mp hw.2
    have hc : cutS z lo hi = z := by
      have h1 : (slicePicked z ql qu none) = Builtin.Str.strSliceIndices (some ((HT.sIx z.length 0 lo : Nat) : Int)) (some ((HT.sIx z.length z.length hi : Nat) : Int)) 1 z.length := by
        unfold slicePicked
        rw [el, eu]
        exact slice_idx lo hi z.length
      have a2 := HT.sIx_le z.length z.length (Nat.le_refl _) hi
      have a1 := HT.sIx_le z.length 0 (Nat.zero_le _) lo
      have hz0 : HT.sIx z.length 0 lo ≤ HT.sIx z.length z.length hi ∨ z.length = 0 := by
        by_cases hle : HT.sIx z.length 0 lo ≤ HT.sIx z.length z.length hi
        · exact .inl hle
        · right
          rw [h1] at hl
          have e2 : Builtin.Str.strSliceIndices (some ((HT.sIx z.length 0 lo : Nat) : Int)) (some ((HT.sIx z.length z.length hi : Nat) : Int)) 1 z.length = [] := by
            simp only [Builtin.Str.strSliceIndices, sliceRange, show ((1 : Int) > 0) = True from by simp, if_true]
            rw [if_neg (by omega : ¬ ((HT.sIx z.length 0 lo : Nat) : Int) < 0), if_neg (by omega : ¬ ((HT.sIx z.length z.length hi : Nat) : Int) < 0), if_neg (by omega)]
            rfl
          rw [e2] at hl
          exact hl.symm
      unfold cutS
      rcases hz0 with hle | h0
      · rw [h1, StrLaws.strSliceIndices_plain hle a2, List.length_map, List.length_range] at hl
        have b1 : HT.sIx z.length 0 lo = 0 := by omega
        have b2 : HT.sIx z.length z.length hi = z.length := by omega
        rw [b1, b2, List.drop_zero, Nat.sub_zero, ← str_len, List.take_length]
        all_goals rfl
      · have hcz : z.cps = #[] := Array.eq_empty_of_size_eq_zero h0
        obtain ⟨zc⟩ := z
        dsimp only at hcz
        subst hcz
        simp
    rw [hc] at q
    exact ⟨.str z, H, I, ⟨_, rfl⟩, q⟩
  · show Str.length _ ≤ sizeLine ∧ _
    rw [em]
    exact ⟨Nat.le_trans (cutS_length z lo hi) hz, .str (cutS z lo hi), H, I.tok _, ⟨_, rfl⟩, q⟩
def GC (mg : Str → Option Value) (x : Str) (v : V) : Prop := ∃ u, mg x = some u ∧ RelV v u
theorem GC.pe {x : Str} {v : V} {pos : Pos} (h : GC X.mg x v) (hg : Gl X x) (hd : (x == ("__debug__" : Str)) = false := by decide) : PE X (.Name x pos) (tC v) := by
  obtain ⟨u, hm, r⟩ := h
  exact pe_glob hg hm r hd
end
end G
namespace G
open PySem L2 PySem.Spec PyProof.Rows
section
variable {X : Cx}
end
end G
namespace G
open PySem L2
end G
namespace G
open PySem L2 PySem.Spec PyProof.Rows
section
variable {X : Cx} {pins : List (Addr × Obj)} {σ : L2.St} {H : Hp} {s : Shared} {acc : Addr} {ys : List V} {its : List Value} {n : Nat}
theorem adopt (I : Inv X pins σ H s) (hf : FpOk X pins H acc) (ho : s.heap.get? acc = some { cls := .type "list", data := .seq its.toArray n }) (hv : Vals ys its) (hz : ys.length ≤ sizeLine) : Inv X pins σ (upd H acc (.lst ys)) s := by
  obtain ⟨f0, f1, f2, f3, f4, f5⟩ := hf
  have ne : ∀ b u, H b = some u → b ≠ acc := fun b u e => ne_of_none e f0
  refine I.step (h' := s.heap) (g' := s.gens) (t' := s.toks) (d' := s.drawn) (ch := [acc]) (fun b hb => ?_) (fun _ _ _ _ _ e _ => e) (fun b o _ _ _ e _ => ⟨o.slots, e⟩) (fun b o hb e h0 => ?_) (fun b o _ e => ⟨o, e⟩)
    (fun b xs e => by rw [upd_ne (ne b _ e)]; exact e) (fun b o u e => by rw [upd_ne (ne b _ e)]; exact e) (fun b ps e => ⟨#[], by rw [upd_ne (ne b _ e), e]; simp⟩) (fun m hm => hm) (fun b u e => ?_) I.bare
  · have e : b = acc := by simpa using hb
    subst e
    exact ⟨f3, f1, f4, f5⟩
  · have e : b ≠ acc := by simpa using hb
    rw [upd_ne e]; exact h0
  · by_cases hb : b = acc
    · subst hb
      rw [upd_same] at e; cases e
      exact ⟨hz, its, n, hv, ho⟩
    · rw [upd_ne hb] at e
      exact (I.hok b u e).stay (fun _ _ _ q => q) (fun c q => by rw [upd_ne (ne c _ q)]; exact q) fun c xs q => by rw [upd_ne (ne c _ q)]; exact q
theorem disown (I : Inv X pins σ (upd H acc (.lst ys)) s) (hf : FpOk X pins H acc) : Inv X pins σ H s := by
  obtain ⟨f0, f1, f2, f3, f4, f5⟩ := hf
  have back : ∀ b u, upd H acc (.lst ys) b = some u → u ≠ .lst ys → H b = some u := fun b u e hne => by
    by_cases hb : b = acc
    · subst hb
      rw [upd_same] at e; cases e; exact absurd rfl hne
    · rw [upd_ne hb] at e; exact e
  refine I.step (h' := s.heap) (g' := s.gens) (t' := s.toks) (d' := s.drawn) (ch := [acc]) (fun b hb => ?_) (fun _ _ _ _ _ e _ => e) (fun b o _ _ _ e _ => ⟨o.slots, e⟩) (fun b o hb e h0 => ?_) (fun b o _ e => ⟨o, e⟩)
    (fun b xs e => back b _ e (fun z => nomatch z)) (fun b o u e => back b _ e (fun z => nomatch z)) (fun b ps e => ⟨#[], by rw [back b _ e (fun z => nomatch z)]; simp⟩) (fun m hm => hm) (fun b u e => ?_) I.bare
  · have e : b = acc := by simpa using hb
    subst e
    exact ⟨f3, f1, f4, f5⟩
  · have e : b ≠ acc := by simpa using hb
    rw [upd_ne e] at h0; exact h0
  · have hb : b ≠ acc := ne_of_none e f0
    have e' : upd H acc (.lst ys) b = some u := by rw [upd_ne hb]; exact e
    exact (I.hok b u e').stay (fun _ _ _ q => q) (fun c q => back c _ q (fun z => nomatch z)) fun c xs q => back c _ q (fun z => nomatch z)
end
def PF (X : Cx) (ifs : List Expr) (t : TT) : Prop :=
  ∀ (pins : List (Addr × Obj)) (s : Shared) (σ : L2.St) (H : Hp) (Q : Bool → Hp → Prop), Inv X pins σ H s → t σ H Q →
    wpAny (model X.prog X.w) X.A (forIn ifs true fun c r => if r = true then do let ok ← isTrue c X.env (eval c X.env); pure (ForInStep.yield ok) else pure (ForInStep.yield r)) (TP X pins σ Q) X.xe s
theorem pf_nil {X : Cx} : PF X [] tTrue := fun _ _ _ H _ I h => wpAny_tests_nil ⟨H, I, h⟩
def cxLC (X : Cx) (scope : Scope) (cl : List (Str × Addr)) (N : List Str) (C : Addr) (s : Shared) (H : Hp) (ex : List Addr) (pn : List (Addr × Obj)) : Cx :=
  { X with N := N, s₀ := s, H₀ := H, env := compEnvC scope cl C X.env, outer := X.stack, ex := ex, fn := fun _ => false, pn := pn, xe := fun _ _ => False }
def AllIn (cells : List (Str × Addr)) : List (Str × Addr) → Prop
  | [] => True
  | p :: r => cells.lookup p.1 = some p.2 ∧ AllIn cells r
theorem AllIn.get {cells : List (Str × Addr)} : ∀ {cl : List (Str × Addr)}, AllIn cells cl → ∀ {x : Str} {c : Addr}, cl.lookup x = some c → cells.lookup x = some c
  | [], _, x, c, h => by cases h
  | (y, d) :: r, a, x, c, h => by
    cases e : (x == y) with
    | true =>
      rw [List.lookup_cons, e] at h
      have e' : x = y := beq_iff_eq.mp e
      subst e'
      cases h
      exact a.1
    | false =>
      rw [List.lookup_cons, e] at h
      exact AllIn.get a.2 h
def CapOk (X : Cx) : List Str → List Nat → Prop
  | [], [] => True
  | y :: r, j :: js => X.N[j]? = some y ∧ X.env.kindOf y = some .cell ∧ CapOk X r js
  | _, _ => False
theorem CapOk.len {X : Cx} : ∀ {ns : List Str} {js : List Nat}, CapOk X ns js → ns.length = js.length
  | [], [], _ => rfl
  | [], _ :: _, h => h.elim
  | _ :: _, [], h => h.elim
  | _ :: r, _ :: js, h => by rw [List.length_cons, List.length_cons, CapOk.len h.2.2]
theorem CapOk.get {X : Cx} {σ : L2.St} : ∀ {ns : List Str} {js : List Nat}, CapOk X ns js → ∀ {i : Nat} {x : Str} {v : V}, ns[i]? = some x → (js.map (pick σ))[i]? = some (some v) → ∃ j : Nat, X.N[j]? = some x ∧ X.env.kindOf x = some .cell ∧ σ[j]? = some (some v)
  | [], _, _, i, x, v, h, _ => by simp at h
  | _ :: _, [], h, _, _, _, _, _ => h.elim
  | y :: r, j :: js, h, 0, x, v, h1, h2 => by
    simp at h1 h2
    subst h1
    refine ⟨j, h.1, h.2.1, ?_⟩
    unfold pick at h2
    split at h2
    · rename_i e; rw [e, h2]
    · cases h2
  | y :: r, j :: js, h, i + 1, x, v, h1, h2 => CapOk.get (i := i) h.2.2 (by simpa using h1) (by simpa using h2)
theorem lk_ne {x n : Str} {k : NameKind} {r : List (Str × NameKind)} (h : (x == n) = false) : List.lookup x ((n, k) :: r) = List.lookup x r := by rw [List.lookup_cons, h]
theorem lk_eq {x n : Str} {k : NameKind} {r : List (Str × NameKind)} (h : (x == n) = true) : List.lookup x ((n, k) :: r) = some k := by rw [List.lookup_cons, h]
def relK (env : Env) (x : Str) (k : NameKind) : NameKind := if (k == NameKind.free && env.scope.kind == .function && env.kindOf x == some .cell) = true then .cell else k
theorem lookup_relabel {env : Env} {x : Str} : ∀ {names : List (Str × NameKind)},
    (names.map fun (n, k) => if (k == NameKind.free && env.scope.kind == .function && env.kindOf n == some .cell) then (n, NameKind.cell) else (n, k)).lookup x = (names.lookup x).map (relK env x)
  | [] => rfl
  | (n, k') :: r => by
    have ih := @lookup_relabel env x r
    show List.lookup x ((if (k' == NameKind.free && env.scope.kind == .function && env.kindOf n == some .cell) = true then (n, NameKind.cell) else (n, k')) :: r.map fun (n, k) => if (k == NameKind.free && env.scope.kind == .function && env.kindOf n == some .cell) then (n, NameKind.cell) else (n, k)) = _
    cases hx : x == n with
    | true =>
      have e := beq_iff_eq.mp hx
      subst e
      rw [lk_eq (k := k') hx]
      by_cases hc : (k' == NameKind.free && env.scope.kind == .function && env.kindOf x == some .cell) = true
      · rw [if_pos hc, lk_eq hx]
        show some NameKind.cell = some (relK env x k')
        unfold relK; rw [if_pos hc]
      · rw [if_neg hc, lk_eq hx]
        show some k' = some (relK env x k')
        unfold relK; rw [if_neg hc]
    | false =>
      rw [lk_ne (k := k') (r := r) hx]
      by_cases hc : (k' == NameKind.free && env.scope.kind == .function && env.kindOf n == some .cell) = true
      · rw [if_pos hc, lk_ne hx]; exact ih
      · rw [if_neg hc, lk_ne hx]; exact ih
theorem lookup_all {names : List (Str × NameKind)} {p : Str × NameKind → Bool} : ∀ {x : Str} {k : NameKind}, names.all p = true → names.lookup x = some k → p (x, k) = true := by
  induction names with
  | nil => intro x k _ h; simp at h
  | cons y r ih =>
    intro x k ha h
    obtain ⟨n, k'⟩ := y
    rw [List.all_cons, Bool.and_eq_true] at ha
    cases hx : x == n with
    | true =>
      rw [List.lookup_cons, hx] at h
      have e1 : x = n := beq_iff_eq.mp hx
      have e2 : k' = k := Option.some.inj h
      rw [e1, ← e2]; exact ha.1
    | false =>
      rw [List.lookup_cons, hx] at h
      exact ih ha.2 h
theorem compLoop_go {prog : Program} {w : World} {A : Around} {R : Result → Shared → Prop} {s : Shared} {elt target iter : Expr} {ifs : List Expr} {scope : Scope} {pos : Pos} {it acc : Value} {env : Env} (I : Nat → Shared → Prop)
    (turn : ∀ n s, I n s → wpAny (model prog w) A (pyNext it) (fun r s₁ => match r with
      | none => R (.ok .next) s₁
      | some v => wpAny (model prog w) A (letOwnedTupleGo target it v) (fun _ s₁' => wpAny (model prog w) A (assign target env v) (fun _ s₂ =>
          wpAny (model prog w) A (forIn ifs true fun c r => if r = true then do let ok ← isTrue c env (eval c env); pure (ForInStep.yield ok) else pure (ForInStep.yield r)) (fun ok s₃ =>
            if ok = true then wpAny (model prog w) A (eval elt env) (fun x s₄ =>
              wpAny (model prog w) A (call (.builtin "list.append") [acc, x]) (fun _ s₅ => ∃ m, m < n ∧ I m s₅) (fun _ _ => False) s₄) (fun _ _ => False) s₃
            else ∃ m, m < n ∧ I m s₃) (fun _ _ => False) s₂) (fun _ _ => False) s₁') (fun _ _ => False) s₁) (fun _ _ => False) s)
    (n : Nat) (h : I n s) :
    codeAny (model prog w) A (.compLoop (.ListComp elt [⟨target, iter, ifs, 0⟩] scope pos) 0 it acc env) R s := by
  refine codeAny_loop rfl I (fun n s hI => ?_) n h
  show wpAny _ A ((compTurn (.ListComp elt [⟨target, iter, ifs, 0⟩] scope pos) 0 it acc env).onRaise (fun x => do noteFrame x env; theTreesLotGoes x)) _ _ s
  refine wpAny_noted ?_
  rw [compTurn_list]
  refine wpAny_bind (wpAny_standAt (wpAny_bind (wpAny_mono (turn n s hI) (fun r s₁ h₁ => ?_) fun _ _ h' => h'.elim)))
  cases r with
  | none => exact wpAny_pure h₁
  | some v =>
    refine wpAny_bind (wpAny_mono h₁ (fun _ s₁' h₁' => ?_) fun _ _ h' => h'.elim)
    refine wpAny_bind (wpAny_mono h₁' (fun _ s₂ h₂ => wpAny_bind (wpAny_mono h₂ (fun ok s₃ h₃ => ?_) fun _ _ h' => h'.elim)) fun _ _ h' => h'.elim)
    cases ok with
    | false => exact wpAny_pure ⟨rfl, h₃⟩
    | true =>
      exact wpAny_bind (wpAny_bind (wpAny_mono h₃ (fun x s₄ h₄ => wpAny_bind (wpAny_mono h₄ (fun _ s₅ h₅ => wpAny_pure (wpAny_pure ⟨rfl, h₅⟩)) fun _ _ h' => h'.elim)) fun _ _ h' => h'.elim))
theorem pe_lc {X : Cx} {elt iter : Expr} {x : Str} {px pos : Pos} {ifs : List Expr} {scope : Scope} {cl : List (Str × Addr)} {wi : TI} {tc : TT} {te : TE} {cns : List Str} (caps : List Nat)
    (hi : PI X (.Name x px) iter wi)
    (hf : ∀ C s H ex pn, PF (cxLC X scope cl (x :: cns) C s H ex pn) ifs tc) (he : ∀ C s H ex pn, PE (cxLC X scope cl (x :: cns) C s H ex pn) elt te) (hc : X.calm = true)
    (hclos : closureFor scope X.env = pure cl) (hcl : AllIn X.env.cells cl) (hcap : CapOk X cns caps)
    (hkind : scope.kind = .function) (hcell : (scope.names.all fun p => p.2 != .cell) = true) (hfree : (scope.names.all fun p => p.2 != .free || (cl.lookup p.1).isSome) = true)
    (hcf : (cns.all fun y => scope.names.lookup y == some .free) = true) (hnames : ∀ y ∈ scope.names, y.2 = .local → scope.names.lookup y.1 = some .local) (hx : scope.names.lookup x = some .local) (hnd : (x :: cns).Nodup)
    (hs : ∀ v, foldedSetIterable iter X.env v = pure v := by intro _; rfl) :
    PE X (.ListComp elt [⟨.Name x px, iter, ifs, 0⟩] scope pos) (tLC wi caps tc te) := by
  intro pins s σ H Q I h
  rw [eval_ListComp]
  refine wpAny_comprehension_free (use := none) rfl hs hclos hkind hnames (thn (hi pins s σ H _ I h) fun xv s1 h1 => thn h1 fun itv s2 h2 => ?_)
  obtain ⟨it, fp, tn, J, H2, rfl, I2, T, st2, f2, W, ⟨m0, w0⟩, turn⟩ := h2
  have hne : ∀ y ∈ scope.names, y.2 ≠ .cell := fun y hy e => by
    have := List.all_eq_true.mp hcell y hy
    rw [e] at this; simp at this
  refine wpAny_newObj_type (wpAny_newFunctionEnv hne (by intro y hy; simp at hy) (fun h₁ hns₁ hsb₁ => ?_) hkind)
  dsimp only at hns₁ hsb₁ ⊢
  generalize hacc : s2.heap.objs.size = acc
  generalize hH3 : s2.heap.push { cls := .type "list", dict := none, data := .seq ([] : List Value).toArray } = h3 at hns₁ hsb₁ ⊢
  have hC : h3.objs.size = acc + 1 := by rw [← hH3, Heap.size_push, hacc]
  have k23 : ∀ b o, s2.heap.get? b = some o → h3.get? b = some o := fun b o e => hH3 ▸ Heap.get?_push_of_some _ e
  have k34 : ∀ b o, h3.get? b = some o → h₁.get? b = some o := fun b o e => hsb₁.extBut b o (Nat.ne_of_lt (Heap.lt_size e)) (Heap.get?_push_of_some _ e)
  have oacc : h3.get? acc = some { cls := .type "list", dict := none, data := .seq ([] : List Value).toArray } := by
    rw [← hH3, ← hacc]; exact Heap.get?_push_size _ rfl
  -- the state ahead of the block
  have I3 : Inv X pins σ H2 { s2 with heap := h3 } := I2.kept (t' := s2.toks) k23
  have facc : FpOk X pins H2 acc := I2.fpOk (Nat.le_of_eq hacc) (I2.hok.fresh (Nat.le_of_eq hacc))
  have fpl : ∀ b ∈ fp, b < acc := fun b hb => by
    obtain ⟨o, e, _⟩ := T.obj _ _ st2 b hb
    rw [← hacc]; exact Heap.lt_size e
  have exok : ∀ b ∈ acc :: fp, FpOk X pins H2 b := fun b hb => (List.mem_cons.mp hb).elim (fun e => e ▸ facc) (f2 b)
  have exC : ∀ b ∈ acc :: fp, b ≠ h3.objs.size := fun b hb => by
    rcases List.mem_cons.mp hb with e | hb
    · rw [hC, e]; exact Nat.ne_of_lt (Nat.lt_succ_self _)
    · rw [hC]; exact Nat.ne_of_lt (Nat.lt_succ_of_lt (fpl b hb))
  have stk_no : ∀ b ∈ acc :: fp, b ∉ frs X.stack := fun b hb hm => by
    obtain ⟨_, g1, g2, _⟩ := exok b hb
    exact (List.mem_cons.mp (I2.stkSub b hm)).elim g1 g2
  let Y : Cx := cxLC X scope cl (x :: cns) h3.objs.size { s2 with heap := h3 } H2 (acc :: fp) (X.pn ++ pins)
  have cellsOf : ∀ y c, cl.lookup y = some c → X.env.cells.lookup y = some c := fun y c e => hcl.get e
  have kindY : ∀ y k, Y.env.kindOf y = some k → (k = .cell ∨ k = .free) → ∃ c, cl.lookup y = some c := fun y k e hk => by
    have e0 : (scope.names.lookup y).map (relK X.env y) = some k := lookup_relabel.symm.trans e
    obtain ⟨k0, e1, e2⟩ := Option.map_eq_some_iff.mp e0
    have e3 := lookup_all hfree e1
    have e4 := lookup_all hcell e1
    by_cases hf : k0 = .free
    · subst hf
      rw [Bool.or_eq_true] at e3
      rcases e3 with e3 | e3
      · exact absurd rfl (bne_iff_ne.mp e3)
      · exact Option.isSome_iff_exists.mp e3
    · exfalso
      have e5 : relK X.env y k0 = k0 := by
        unfold relK
        rw [if_neg]
        intro z
        rw [Bool.and_eq_true, Bool.and_eq_true] at z
        exact hf (beq_iff_eq.mp z.1.1)
      rw [e5] at e2
      subst e2
      rcases hk with rfl | rfl
      · simp at e4
      · exact hf rfl
  have okY : Y.Ok := {
    mod := I2.ok.mod
    kind := hkind
    glob := I2.ok.glob
    blt := I2.ok.blt
    above := Nat.le_refl _
    inj := fun a b c e1 e2 => I2.ok.inj a b c (cellsOf _ _ e1) (cellsOf _ _ e2)
    has := fun y hy => hy.elim (fun e => kindY y _ e (.inl rfl)) (fun e => kindY y _ e (.inr rfl))
    cab := fun y c e => nomatch e
    hd := I2.ok.hd
    frames := I2.ok.frames
    stk := .inl rfl
    exf := fun b hb => ⟨exC b hb, fun y c e => (exok b hb).2.2.2.2.1 y c (cellsOf _ _ e)⟩
    bs := fun b o e => ⟨k23 b o (I2.bs b o e).1, (I2.bs b o e).2⟩
    bsz := by
      show X.base.objs.size ≤ h3.objs.size
      rw [hC, ← hacc]
      exact Nat.le_succ_of_le (Nat.le_trans I2.ok.bsz I2.sz)
    noex := fun b o e hb => by
      rcases (exok b hb).2.2.2.1 with z | z
      · exact I2.ok.noex b o e z
      · exact absurd (Nat.lt_of_lt_of_le (Heap.lt_size e) (Nat.le_trans I2.ok.bsz z)) (Nat.lt_irrefl _)
    exfs := stk_no
    funs := I3.stack
    frf := I3.stkFree }
  have lenN : (none :: caps.map (pick σ) : L2.St).length = (x :: cns).length := by rw [List.length_cons, List.length_cons, List.length_map, hcap.len]
  have I4 : Inv Y [] (none :: caps.map (pick σ)) H2 { s2 with heap := h₁, toks := s2.toks + ([] : List (Str × Value)).length } := {
    ok := okY
    os := rfl
    bare := I2.bare
    base := Un.kept k34
    loc := by
      refine ⟨_, hns₁, fun i y v e1 e2 e3 => ?_⟩
      cases i with
      | zero => simp at e2
      | succ i =>
        obtain ⟨j, j1, j2, j3⟩ := hcap.get (σ := σ) (i := i) (x := y) (v := v) (by have e1' : (x :: cns)[i + 1]? = some y := e1; simpa using e1') (by simpa using e2)
        obtain ⟨m, hn, hl⟩ := I2.loc
        obtain ⟨u, r, l⟩ := hl j y v j1 j3 (.inr (.inl j2))
        rcases l with ⟨l, _⟩ | ⟨_, c, l1, l2⟩
        · rw [j2] at l; cases l
        · refine ⟨u, r, .inr ?_⟩
          rcases e3 with e3 | e3 | e3
          · exfalso
            have hm : y ∈ cns := List.mem_of_getElem? (show cns[i]? = some y by have e1' : (x :: cns)[i + 1]? = some y := e1; simpa using e1')
            have hl : scope.names.lookup y = some .free := beq_iff_eq.mp (List.all_eq_true.mp hcf y hm)
            have e0 : (scope.names.lookup y).map (relK X.env y) = some .local := lookup_relabel.symm.trans e3
            rw [hl] at e0
            have e5 : relK X.env y .free = .local := Option.some.inj e0
            unfold relK at e5
            split at e5 <;> cases e5
          · obtain ⟨c', hc'⟩ := kindY y _ e3 (.inl rfl)
            have := cellsOf _ _ hc'
            rw [l1] at this; cases this
            exact ⟨.inl e3, c, hc', l2.keeps fun b o e => k34 _ _ (k23 _ _ e)⟩
          · obtain ⟨c', hc'⟩ := kindY y _ e3 (.inr rfl)
            have := cellsOf _ _ hc'
            rw [l1] at this; cases this
            exact ⟨.inr e3, c, hc', l2.keeps fun b o e => k34 _ _ (k23 _ _ e)⟩
    cell := fun y c e => by
      obtain ⟨v, z⟩ := I2.cell y c (cellsOf _ _ e)
      exact ⟨v, z.keeps fun b o e => k34 _ _ (k23 _ _ e)⟩
    free := I2.hok.fresh (by rw [hacc]; show acc ≤ h3.objs.size; rw [hC]; exact Nat.le_succ _)
    freeC := fun y c e => I2.freeC y c (cellsOf _ _ e)
    pin := fun p hp => by
      have hp2 : p ∈ (X.pn ++ pins) ++ [] := hp
      have hp' : p ∈ X.pn ++ pins := by rw [List.append_nil] at hp2; exact hp2
      obtain ⟨p1, p2, p3, p4, p5⟩ := I2.pin p hp'
      refine ⟨k34 _ _ (k23 _ _ p1), p2, ?_, fun hm => (List.mem_cons.mp (I2.stkSub _ hm)).elim p3 p4, p5⟩
      exact Nat.ne_of_lt (by show p.1 < h3.objs.size; exact Heap.lt_size (k23 _ _ p1))
    hok := I2.hok.kept fun b u e => k34 _ _ (k23 _ _ e)
    len := lenN }
  -- what stays true of the records through the loop
  have fpY : ∀ {H' : Hp} {pl : List (Addr × Obj)} {b : Addr}, b ∈ acc :: fp → H' b = none → (∀ p ∈ pl, p.1 ≠ b) → FpOk Y pl H' b := fun {H' pl b} hb hn hp =>
    ⟨hn, exC b hb, stk_no b hb, .inl hb, fun y c e => (exok b hb).2.2.2.2.1 y c (cellsOf _ _ e), fun p hm => (List.mem_append.mp hm).elim (fun z => (exok b hb).2.2.2.2.2 p z) (hp p)⟩
  have fin : ∀ {σ' : L2.St} {H' : Hp} {s' : Shared} {ys : List V} {its : List Value} {kk : Nat} {pl : List (Addr × Obj)}, Inv Y pl σ' H' s' → H' acc = none → Vals ys its → ys.length ≤ sizeLine →
      s'.heap.get? acc = some { cls := .type "list", data := .seq its.toArray kk } → (∀ p, H' p = none → Q (.ref p) (upd H' p (.lst ys))) →
      ∀ h', Heap.SameBut h3.objs.size s'.heap h' → EP X pins σ Q (.ref acc) { s' with heap := h' } := fun {σ' H' s' ys its kk pl} J ha hv hz ho hq h' hs' => by
    have hacC : acc ≠ h3.objs.size := exC acc (List.mem_cons_self)
    have keepC : ∀ b o, b ≠ h3.objs.size → s'.heap.get? b = some o → h'.get? b = some o := fun b o hb e => hs'.extBut b o hb e
    have ltC : ∀ b o, s2.heap.get? b = some o → b ≠ h3.objs.size := fun b o e => Nat.ne_of_lt (Heap.lt_size (k23 b o e))
    have hCfree : H' h3.objs.size = none := J.free
    have un : Un (frs X.stack) (acc :: fp) H2 H' s2.heap h' := {
      keep := fun b o e n hb hx => keepC b o (ltC b o e) (J.base.keep b o (k23 b o e) n hb hx)
      slot := fun b o e n hb hx => by
        obtain ⟨sl, q⟩ := J.base.slot b o (k23 b o e) n hb hx
        exact ⟨sl, keepC b _ (ltC b o e) q⟩
      free := fun b o e n hx => J.base.free b o (k23 b o e) n hx
      there := fun b o e hx => by
        obtain ⟨o', q⟩ := J.base.there b o (k23 b o e) hx
        exact ⟨o', keepC b o' (ltC b o e) q⟩
      tups := J.base.tups
      frzs := J.base.frzs
      tbls := J.base.tbls }
    have hok : HOk X.prog X.w H' h' := fun b u e => by
      refine (J.hok b u e).stay (fun c v hc q => keepC c v ?_ q) (fun _ q => q) fun _ _ q => q
      rintro rfl
      rcases hc with rfl | hc
      · rw [hCfree] at e; cases e
      · rw [hCfree] at hc; cases hc
    have I5 : Inv X pins σ H' { s' with heap := h' } := I2.call' (ch := acc :: fp) J.os un hok J.bare fun b hb => by
      obtain ⟨g0, g1, g2, g3, g4, g5⟩ := exok b hb
      exact ⟨g3, g1, g4, g5⟩
    refine ⟨.ref acc, _, adopt (acc := acc) I5 ?_ (keepC _ _ hacC ho) hv hz, rfl, hq acc ha⟩
    obtain ⟨g0, g1, g2, g3, g4, g5⟩ := facc
    exact ⟨ha, g1, g2, g3, g4, g5⟩
  have loop : codeAny (model X.prog X.w) X.A (.compLoop (.ListComp elt [⟨.Name x px, iter, ifs, 0⟩] scope pos) 0 (.ref it) (.ref acc) Y.env) (compPost (model X.prog X.w) X.A X.xe none (EP X pins σ Q) (.ref acc) h3.objs.size)
      { s2 with heap := h₁, toks := s2.toks + ([] : List (Str × Value)).length } := by
    refine compLoop_go (fun n s' => ∃ (i : Nat) (v : Option V) (ys : List V) (its : List Value) (kk : Nat) (H' : Hp), Inv Y [] (v :: caps.map (pick σ)) H' s' ∧ tn i s'.heap ∧ (∀ b ∈ fp, H' b = none) ∧ H' acc = none ∧ Vals ys its ∧ ys.length ≤ sizeLine ∧
      s'.heap.get? acc = some { cls := .type "list", data := .seq its.toArray kk } ∧ W i n ys H') ?_ m0 ⟨0, none, [], [], 0, H2, I4, T.keep _ _ _ st2 (fun b _ o e => k34 _ _ (k23 _ _ e)), fun b hb => (f2 b hb).1, facc.1, .nil, Nat.zero_le _, k34 _ _ oacc, w0⟩
    rintro n s5 ⟨i, v, ys, its, kk, H5, I5, st5, fr5, ha5, hv5, hz5, ho5, w5⟩
    -- acc is pinned
    have pinA : Inv Y [(acc, { cls := .type "list", data := .seq its.toArray kk })] (v :: caps.map (pick σ)) H5 s5 := I5.pins_of fun p hp => by
      have e : p = (acc, { cls := .type "list", data := .seq its.toArray kk }) := by simpa using hp
      subst e
      exact ⟨ho5, ha5, exC acc List.mem_cons_self, stk_no acc List.mem_cons_self, fun v => by intro z; cases z⟩
    have fpA : ∀ {H' : Hp}, (∀ b ∈ fp, H' b = none) → ∀ b ∈ fp, FpOk Y [(acc, { cls := .type "list", data := .seq its.toArray kk })] H' b := fun hn b hb => fpY (List.mem_cons_of_mem _ hb) (hn b hb) fun p hp => by
      have e : p = (acc, { cls := .type "list", data := .seq its.toArray kk }) := by simpa using hp
      subst e
      exact (Nat.ne_of_lt (fpl b hb)).symm
    rcases turn i n ys H5 w5 with ⟨stop, qn⟩ | ⟨go, hlt, step⟩
    · refine thn (T.done Y rfl rfl rfl hc i _ s5 _ H5 (fun _ _ => False) pinA (fpA fr5) st5 stop) fun r s6 ⟨hr, I6⟩ => ?_
      subst hr
      obtain ⟨m, hm, _⟩ := I6.loc
      have ho6 := (I6.pin (acc, { cls := .type "list", data := .seq its.toArray kk }) (List.mem_append_right _ List.mem_cons_self)).1
      exact ⟨m, hm, fin I6 ha5 hv5 hz5 ho6 qn⟩
    · refine thn (T.item Y rfl rfl rfl hc i _ s5 _ H5 (fun _ _ => False) pinA (fpA fr5) st5 go) fun r s6 ⟨u, hr, h6⟩ => ?_
      subst hr
      refine thn h6 fun _ s7 ⟨z, H7, I7, r7, y7, st7, fr7⟩ => ?_
      have I7' := I7.pinned (fpA fr7) (T.obj _ _ st7)
      have pg : PG Y (.Name x px) (gName 0) := pg_name hnd rfl (.inl (lookup_relabel_local hx)) (.inr (lookup_relabel_local hx))
      refine thn (pg _ s7 _ H7 z u (fun σ2 H2' => σ2 = some z :: caps.map (pick σ) ∧ H2' = H7) I7' r7 ⟨rfl, rfl⟩) fun _ s8 ⟨σ8, H8, I8, e8, e8'⟩ => ?_
      subst e8 e8'
      refine thn (hf _ _ _ _ _ _ s8 _ H8 _ I8 (step z H8 y7)) fun ok s9 ⟨H9, I9, q9⟩ => ?_
      have stat : ∀ {H' : Hp} {s' : Shared} {σ' : L2.St}, Inv Y ([(acc, { cls := .type "list", data := .seq its.toArray kk })] ++ pinsAt fp s7.heap) σ' H' s' → tn (i + 1) s'.heap ∧ (∀ b ∈ fp, H' b = none) ∧ H' acc = none ∧ s'.heap.get? acc = some { cls := .type "list", data := .seq its.toArray kk } := fun {H' s' σ'} J => by
        have pa := J.pin (acc, { cls := .type "list", data := .seq its.toArray kk }) (List.mem_append_right _ (List.mem_append_left _ List.mem_cons_self))
        refine ⟨T.keep _ _ _ st7 fun b hb o e => (J.pin (b, o) (List.mem_append_right _ (List.mem_append_right _ (mem_pinsAt hb e)))).1, fun b hb => ?_, pa.2.1, pa.1⟩
        obtain ⟨o, e, d⟩ := T.obj _ _ st7 b hb
        exact (J.pin (b, o) (List.mem_append_right _ (List.mem_append_right _ (mem_pinsAt hb e)))).2.1
      have nopin : ∀ {H' : Hp} {s' : Shared} {σ' : L2.St} {pl : List (Addr × Obj)}, Inv Y pl σ' H' s' → Inv Y [] σ' H' s' := fun J => J.pins_of fun p hp => nomatch hp
      cases ok with
      | false =>
        obtain ⟨m', hm, w9⟩ := q9
        obtain ⟨t1, t2, t3, t4⟩ := stat I9
        exact ⟨m', hm, i + 1, some z, ys, its, kk, H9, nopin I9, t1, t2, t3, hv5, hz5, t4, w9⟩
      | true =>
        show wpAny _ _ (eval elt Y.env) _ _ s9
        refine thn (he _ _ _ _ _ _ s9 _ H9 _ I9 q9) fun y s10 ⟨yv, H10, I10, r10, m', hm, w10⟩ => ?_
        obtain ⟨t1, t2, t3, t4⟩ := stat I10
        -- the list of pins without acc
        have I10' : Inv Y (pinsAt fp s7.heap) (some z :: caps.map (pick σ)) H10 s10 := I10.pins_of fun p hp => I10.pin p (List.mem_append_right _ (List.mem_append_right _ hp))
        have fA : FpOk Y (pinsAt fp s7.heap) H10 acc := fpY List.mem_cons_self t3 fun p hp => Nat.ne_of_lt (fpl _ (of_pinsAt hp).1)
        have Ja := adopt I10' fA t4 hv5 hz5
        refine thn (mt_append (X := Y) _ s10 _ _ (.ref acc) [yv] (.ref acc) [y] (fun _ H' => H' = upd (upd H10 acc (.lst ys)) acc (.lst (ys ++ [yv]))) Ja rfl (.cons r10 .nil) ⟨acc, ys, yv, rfl, rfl, upd_same, hlt, rfl⟩) fun _ s11 ⟨_, H11, I11, _, e11⟩ => ?_
        rw [upd_upd] at e11
        subst e11
        obtain ⟨hz11, its', kk', hv11, ho11⟩ := I11.hok acc _ upd_same
        have Jd := disown I11 fA
        have st11 : tn (i + 1) s11.heap := T.keep _ _ _ st7 fun b hb o e => (Jd.pin (b, o) (List.mem_append_right _ (mem_pinsAt hb e))).1
        exact ⟨m', hm, i + 1, some z, ys ++ [yv], its', kk', H10, nopin Jd, st11, t2, t3, hv11, hz11, ho11, w10⟩
  exact codeAny_compStart_list loop (T.self X.A 0 _ _ _ (T.keep _ _ _ st2 (fun b _ o e => k34 _ _ (k23 _ _ e))) loop)
end G
namespace G
open PySem L2 PySem.Spec PyProof.Rows
theorem obj_there {P : Program} {w : World} {H : Hp} {h : Heap} {a : Addr} {o : HO} (x : ObjOk P w H h a o) : ∃ ob, h.get? a = some ob := by
  induction o with
  | lst xs => obtain ⟨_, _, _, _, e⟩ := x; exact ⟨_, e⟩
  | tup xs => obtain ⟨_, _, _, ob, e, _⟩ := x; exact ⟨ob, e⟩
  | dK kvs => obtain ⟨_, _, _, _, ob, _, _, e, _⟩ := x; exact ⟨ob, e⟩
  | dT kvs => obtain ⟨_, _, _, _, ob, _, _, e, _⟩ := x; exact ⟨ob, e⟩
  | set S n => obtain ⟨ob, _, _, _, e, _⟩ := x; exact ⟨ob, e⟩
  | ins C dx fs => obtain ⟨_, _, _, e, _⟩ := x; exact ⟨_, e⟩
  | own y => exact x
  | xd fs => obtain ⟨_, ⟨ob, _, _, e, _⟩, _⟩ := x; exact ⟨ob, e⟩
  | rng lo hi => obtain ⟨_, _, _, e⟩ := x; exact ⟨_, e⟩
  | frz ob u ih => exact ⟨_, x.1⟩
  | tbl ps => exact ⟨_, x⟩
  | met f y => exact ⟨_, x⟩
  | ext φ => obtain ⟨_, e, _⟩ := x; exact e
theorem un_step {P : Program} {w : World} {fs : List Addr} {H0 H1 : Hp} {h0 h1 h2 : Heap} (u : Un fs [] H0 H1 h0 h1) (ok : HOk P w H1 h1) (fr : ∀ b ∈ fs, H1 b = none)
    (kp : ∀ b o, h1.get? b = some o → ((∃ v, h0.get? b = some v) ∨ ∃ v, H1 b = some v) → b ∉ fs → h2.get? b = some o) (sl : ∀ b o, h1.get? b = some o → b ∈ fs → ∃ z, h2.get? b = some { o with slots := z }) :
    Un fs [] H0 H1 h0 h2 ∧ HOk P w H1 h2 := by
  refine ⟨⟨fun b o e n hb hx => kp b o (u.keep b o e n hb hx) (.inl ⟨o, e⟩) hb, fun b o e n hb hx => ?_, u.free, fun b o e hx => ?_, u.tups, u.frzs, u.tbls⟩, fun a o e => ?_⟩
  · obtain ⟨z, e1⟩ := u.slot b o e n hb hx
    obtain ⟨z2, e2⟩ := sl b _ e1 hb
    exact ⟨z2, e2⟩
  · obtain ⟨o', e1⟩ := u.there b o e hx
    by_cases hb : b ∈ fs
    · obtain ⟨z, e2⟩ := sl b _ e1 hb
      exact ⟨_, e2⟩
    · exact ⟨o', kp b o' e1 (.inl ⟨o, e⟩) hb⟩
  · refine (ok a o e).stay (fun b v hb q => ?_) (fun _ q => q) fun _ _ q => q
    have hs : ∃ v, H1 b = some v := by
      rcases hb with z | z
      · exact ⟨o, by rw [z]; exact e⟩
      · exact ⟨_, z⟩
    refine kp b v q (.inr hs) fun z => ?_
    obtain ⟨v', e'⟩ := hs
    rw [fr b z] at e'; cases e'
def CXe (P : Program) (w : World) : CXT := fun outer H s E e s' =>
  ∃ (ea : Addr) (cls a0 : Value) (B : Heap) (H' : Hp), e = .ref ea ∧ s'.os = s.os ∧ AllBare s'.gens ∧ Un (frs outer) [] H H' s.heap s'.heap ∧ HOk P w H' s'.heap ∧ Heap.FlyingW B outer ea cls a0 s'.heap ∧
    (∀ b o, s'.heap.get? b = some o → ((∃ v, s.heap.get? b = some v) ∨ ∃ v, H' b = some v) → b ∉ frs outer → B.get? b = some o) ∧ E cls none H'
theorem passE0 {P : Program} {w : World} {X : Cx} : Passes (CXe P w) X E0 := fun _ _ _ _ _ _ _ h => by
  obtain ⟨_, _, _, _, _, _, _, _, _, _, _, _, z⟩ := h
  exact z.elim
section
variable {P : Program} {w : World} {K : PySem.W.Frag} {mg : Str → Option Value} {base : Heap} {N : List Str} {qual : Str} {scope : Scope} {f : Addr} {cd : Value} {A : Around} {outer : List Env} {s : Shared} {H : Hp} {E : XK}
theorem passL : Passes (CXe P w) (cxOf (CXe P w) P w K mg base N qual scope f cd A outer s H E) E := by
  intro pins σ H1 s1 e s2 I h
  obtain ⟨ea, cls, a0, B, H2, rfl, os, bare, un, ok, fl, hB, hE⟩ := h
  have J : Inv (cxOf (CXe P w) P w K mg base N qual scope f cd A outer s H E) pins σ H2 s2 := I.call' os un ok bare (fun b z => nomatch z)
  have L0 : ∀ b o, s.heap.get? b = some o → b ≠ (envOfC qual scope s.heap.objs.size f cd).locals := fun b o e => Nat.ne_of_lt (Nat.lt_of_lt_of_le (Heap.lt_size e) I.ok.above)
  have nin : ∀ b, ((∃ v, s.heap.get? b = some v) ∨ ∃ v, H2 b = some v) → b ∉ frs outer → b ∉ frs (envOfC qual scope s.heap.objs.size f cd :: outer) := fun b hb hn hm => by
    rcases List.mem_cons.mp (J.stkSub b hm) with z | z
    · rcases hb with ⟨v, e⟩ | ⟨v, e⟩
      · exact L0 b v e z
      · rw [z] at e
        have := J.free
        rw [e] at this; cases this
    · exact hn z
  have was : ∀ b, ((∃ v, s.heap.get? b = some v) ∨ ∃ v, H2 b = some v) → (∃ v, s1.heap.get? b = some v) ∨ ∃ v, H2 b = some v := fun b hb => by
    rcases hb with ⟨v, e⟩ | hb
    · exact .inl (I.base.there b v e (fun z => nomatch z))
    · exact .inr hb
  refine wpAny_leaves_onW I.ok.frames rfl fl fun h' fl' sm => ?_
  have dat : ∀ b o, s2.heap.get? b = some o → b ∈ frs outer → ∀ vs, o.data ≠ .fields vs := fun b o e hb => by
    obtain ⟨_, o', ho', hd⟩ := J.funs.mem hb
    rw [e] at ho'; cases ho'; exact hd
  have inB : ∀ b o, s2.heap.get? b = some o → ((∃ v, s.heap.get? b = some v) ∨ ∃ v, H2 b = some v) → b ∉ frs outer → B.get? b = some o := fun b o e hb hn => hB b o e (was b hb) (nin b hb hn)
  have U := un_step (P := P) (w := w) (h2 := h') J.base J.hok (fun b hb => by
      obtain ⟨_, o, ho, _⟩ := J.ok.funs.mem hb
      exact J.base.free b o ho (J.ok.frf b hb) (fun z => nomatch z)) (fun b o e hb hn => fl'.1 _ _ (inB b o e hb hn)) fun b o e hb => sm b o e (dat b o e hb)
  refine ⟨ea, cls, a0, B, H2, rfl, J.os, J.bare, U.1, U.2, fl', fun b o e hb hn => ?_, hE⟩
  have there : ∃ v, s2.heap.get? b = some v := by
    rcases hb with ⟨v, z⟩ | ⟨v, z⟩
    · exact J.base.there b v z (fun z => nomatch z)
    · exact obj_there (J.hok b v z)
  obtain ⟨v, z⟩ := there
  have q := inB b v z hb hn
  have := fl'.1 _ _ q
  rw [e] at this; cases this
  exact q
theorem raiseL {pins : List (Addr × Obj)} {σ : L2.St} {H1 : Hp} {s1 : Shared} {C e : Addr} {vs : List Value} {h1 : Heap} (I : Inv (cxOf (CXe P w) P w K mg base N qual scope f cd A outer s H E) pins σ H1 s1)
    (hx : Heap.MadeExcOf s1.heap h1 e (.ref C) vs) (hE : E (.ref C) none H1) : (cxOf (CXe P w) P w K mg base N qual scope f cd A outer s H E).xe (.ref e) { s1 with heap := h1 } := by
  have L0 : ∀ b o, s.heap.get? b = some o → b ≠ (envOfC qual scope s.heap.objs.size f cd).locals := fun b o e => Nat.ne_of_lt (Nat.lt_of_lt_of_le (Heap.lt_size e) I.ok.above)
  have nin : ∀ b, ((∃ v, s.heap.get? b = some v) ∨ ∃ v, H1 b = some v) → b ∉ frs outer → b ∉ frs (envOfC qual scope s.heap.objs.size f cd :: outer) := fun b hb hn hm => by
    rcases List.mem_cons.mp (I.stkSub b hm) with z | z
    · rcases hb with ⟨v, e⟩ | ⟨v, e⟩
      · exact L0 b v e z
      · rw [z] at e
        have := I.free
        rw [e] at this; cases this
    · exact hn z
  have fh : s1.heap.FunFrames (PySem.W.hideAll s1.heap (frs (envOfC qual scope s.heap.objs.size f cd :: outer))) (envOfC qual scope s.heap.objs.size f cd :: outer) :=
    PySem.W.funFrames_hide I.stack fun env he b hb => List.mem_filterMap.mpr ⟨env, he, hb⟩
  refine wpAny_leaves_madeW (s := { s1 with heap := h1 }) I.ok.frames rfl (fun b o q => PySem.W.of_hideAll _ q) fh hx fun h' t fl _ _ sm => ?_
  have inB : ∀ b o, s1.heap.get? b = some o → ((∃ v, s.heap.get? b = some v) ∨ ∃ v, H1 b = some v) → b ∉ frs outer → (PySem.W.hideAll s1.heap (frs (envOfC qual scope s.heap.objs.size f cd :: outer))).get? b = some o :=
    fun b o e hb hn => PySem.W.hideAll_get _ e (nin b hb hn)
  have dat : ∀ b o, s1.heap.get? b = some o → b ∈ frs outer → ∀ vs, o.data ≠ .fields vs := fun b o e hb => by
    obtain ⟨_, o', ho', hd⟩ := I.funs.mem hb
    rw [e] at ho'; cases ho'; exact hd
  have U := un_step (P := P) (w := w) (h2 := h') I.base I.hok (fun b hb => by
      obtain ⟨_, o, ho, _⟩ := I.ok.funs.mem hb
      exact I.base.free b o ho (I.ok.frf b hb) (fun z => nomatch z)) (fun b o e hb hn => fl.1 _ _ (inB b o e hb hn)) fun b o e hb => sm b o (hx.keeps b o e) (dat b o e hb)
  refine ⟨e, .ref C, .ref t, _, H1, rfl, I.os, I.bare, U.1, U.2, fl, fun b o q hb hn => ?_, hE⟩
  have there : ∃ v, s1.heap.get? b = some v := by
    rcases hb with ⟨v, z⟩ | ⟨v, z⟩
    · exact I.base.there b v z (fun z => nomatch z)
    · exact obj_there (I.hok b v z)
  obtain ⟨v, z⟩ := there
  have q2 := inB b v z hb hn
  have := fl.1 _ _ q2
  rw [q] at this; cases this
  exact q2
end
def bmVE : List Value := [.type "ValueError", .type "Exception", .type "BaseException", .type "object"]
abbrev ExcK (K : PySem.W.Frag) (C : Addr) : Prop := PySem.W.excIn K C [.type "ValueError", .type "Exception", .type "BaseException", .type "object"] "ValueError.__new__" = true
theorem exc_obj {K : PySem.W.Frag} {h : Heap} {C : Addr} {ms : List Value} {ni : String} (X : K.In h) (q : PySem.W.excIn K C ms ni = true) :
    ∃ tl N nm ql bs hd sn sub ab col dd j0 j1 j2 j3 j5 mN, h.get? C = some (excClassObj nm ql C N bs tl hd sn sub ab col dd j0 j1 j2 j3 j5 ni) ∧ h.Ns N mN ∧ mN "__init__" = none ∧ OwnTail h ms tl := by
  unfold PySem.W.excIn at q
  split at q
  · rename_i dd cdat slots hob
    split at q
    · rename_i C2 tl j0 j1 j2 j3 n2 j5 em es
      simp only [Bool.and_eq_true, beq_iff_eq, Bool.not_eq_true'] at q
      obtain ⟨⟨⟨⟨⟨e1, e2⟩, e3⟩, e4⟩, e5⟩, e6⟩ := q
      subst e1 e2
      obtain ⟨c1, c2, c3, c4, c5, c6, c7, c8, c9, c10, c11⟩ := cdat
      dsimp only at em e3 e5 e6
      subst em e3
      have eslots : slots = #[j0, j1, j2, j3, some (.builtin n2), j5] := by
        obtain ⟨ls⟩ := slots
        simp only at es
        rw [es]
      subst eslots
      refine ⟨tl, c4, c1, c5, c2, c6, c7, c8, c9, c10, dd, j0, j1, j2, j3, j5, h.nsMap c4, X _ _ hob, ?_, PySem.W.nsMap_none_of_in X e5 e6, PySem.W.tail_of_in X e4⟩
      exact .of_isNs (PySem.W.isNs_of_in X e5)
    · cases q
  · cases q
section
variable {X : Cx} {x : Str} {C : Addr} {np cpos pos : Pos} {e : Expr} {es : List Expr} {ta : TA} {E : XK}
theorem ps_raise (hc : X.calm = true) (hg : Gl X x) (hm : X.mg x = some (.ref C)) (hx : ExcK X.K C) (ha : PA X (e :: es) ta)
    (hE : ∀ (pins : List (Addr × Obj)) (σ : L2.St) (H : Hp) (s : Shared) (ea : Addr) (vs : List Value) (h1 : Heap), Inv X pins σ H s → Heap.MadeExcOf s.heap h1 ea (.ref C) vs → E (.ref C) none H → X.xe (.ref ea) { s with heap := h1 })
    (hs : starEach (e :: es) X.env = (false, eval e X.env) :: starEach es X.env := by rfl) (hpl : (backTo cpos (starEach es X.env)).any (·.1) = false := by rfl) (hd : (x == ("__debug__" : Str)) = false := by decide) :
    PS X (.Raise (some (.Call (.Name x np) (e :: es) [] cpos)) none pos) (tRaise C E ta) := by
  intro pins s σ H D I h
  obtain ⟨tl, N, nm, ql, bs, hdd, sn, sub, ab, col, dd, j0, j1, j2, j3, j5, mN, hC, hN, hni, T⟩ := exc_obj I.ok.mod.kin hx
  refine wpAny_Raise_call_subT (C := C) (nm := nm) (q := ql) (N := N) (bs := bs) (bm := tl) (hdct := hdd) (sn := sn) (sub := sub) (ab := ab) (col := col) (dd := dd) (k0 := j0) (k1 := j1) (k2 := j2) (k3 := j3) (k5 := j5) PySem.F.excBase_ValueError (mN := mN)
    (T.hasType PySem.F.excBase_ValueError.hasBase) (I.ok.hd hc) ?_ hni (ld_glob I hg hm ⟨rfl, ?_⟩ hd)
  · rw [hs]
    show (false || (backTo cpos (starEach es X.env)).any (·.1)) = false
    rw [hpl]; rfl
  · have q := ha cpos pins s σ H _ I h
    rw [hs] at q ⊢
    refine Calls.evalArgs_plain (thn q fun us s1 ⟨vs, H1, I1, r, l1, hE1⟩ => ⟨rfl, ?_, I1.bk _ _ hC, hN.keeps I1.bk, T.keeps I1.bk, fun h1 ea hmade => hE pins σ H1 s1 ea _ h1 I1 hmade hE1⟩)
    rw [← r.length]
    exact Nat.le_trans l1 (by decide)
end
end G
namespace G
open PySem L2 PySem.Spec PyProof.Rows
def PassX (CX : CXT) (X : Cx) (E : L2.St → XK) : Prop := ∀ (pins : List (Addr × Obj)) (σ : L2.St) (H : Hp) (s : Shared) (e : Value) (s' : Shared), Inv X pins σ H s → CX X.stack H s (E σ) e s' → X.xe e s'
section
variable {X : Cx} {CX : CXT} {k : Nat} {f C : Addr} {fd : FuncData} {ps : List Str} {sp : Sp} {dvs : List V} {ds : List Value} {E : L2.St → XK} {x m : Str} {p pos apos : Pos} {e o : Expr} {es : List Expr} {ta : TE} {t : TA}
end
abbrev cxB (X : Cx) (pn : List (Addr × Obj)) (xe : Value → Shared → Prop) : Cx := { X with pn := pn, xe := xe }
abbrev cxH (X : Cx) (ea : Value) (pn : List (Addr × Obj)) : Cx := { X with A := X.A.mark (some ea), calm := false, pn := pn, xe := fun _ _ => False }
section
variable {X : Cx} {pins : List (Addr × Obj)} {σ : L2.St} {H : Hp} {s : Shared}
end
section
variable {X : Cx} {x : Str} {C : Addr} {np pos hpos : Pos} {body suite : List Stmt} {b₀ : Stmt} {Mt : Value → Prop} {tb : (L2.St → XK) → TS} {th : TS}
end
end G
namespace G
open PySem L2 PySem.Spec PyProof.Rows
section
variable {P : Program} {w : World} {K : PySem.W.Frag} {mg : Str → Option Value} {base : Heap} {x qual : Str} {st : Stmt} {f : Addr} {fd : FuncData} {N ps : List Str} {k : Nat} {sp : Sp}
theorem fok (F : Fun K x qual st f fd) (S : FnScope N ps (defScope st)) (len : ∀ vs H Q E, sp vs H Q E → vs.length = ps.length)
    (hbody : ∀ (cdv : Value) (A : Around) (outer : List Env) (s : Shared) (H : Hp) (vs : List V) (Q : VK) (E : XK), Room k (A.deeper (envOfC qual (defScope st) s.heap.objs.size f cdv)) → sp vs H Q E →
      ∃ t, PSs (cxOf (CXe P w) P w K mg base N qual (defScope st) f cdv A outer s H E).nox (defBody st) t ∧ t { nx := fun _ H' => Q .non H', rt := Q } (start N vs) H) : FnOk P w K mg base (CXe P w) (k + 1) f fd ps sp := by
  obtain ⟨oc, od, kV, doc, pm, an, cdv, ct, osl, rfl, lk, hcd⟩ := F.ex
  refine fn_of lk hcd S len fun A outer s H vs Q E hr hsp => ?_
  obtain ⟨t, h, q⟩ := hbody cdv A outer s H vs Q E hr hsp
  exact ⟨t, h.nox, q⟩
theorem fokDX (F : FunD K x qual st f fd) (S : FnScope N ps (defScope st)) (len : ∀ vs H Q E, sp vs H Q E → vs.length = ps.length)
    (hbody : ∀ (cdv : Value) (A : Around) (outer : List Env) (s : Shared) (H : Hp) (vs : List V) (Q : VK) (E : XK), Room k (A.deeper (envOfC qual (defScope st) s.heap.objs.size f cdv)) → sp vs H Q E →
      ∃ t, PSs (cxOf (CXe P w) P w K mg base N qual (defScope st) f cdv A outer s H E) (defBody st) t ∧ t { nx := fun _ H' => Q .non H', rt := Q } (start N vs) H) : FnOk P w K mg base (CXe P w) (k + 1) f fd ps sp := by
  obtain ⟨oc, od, dV, kV, doc, pm, an, cdv, ct, osl, rfl, lk, hcd⟩ := F.ex
  exact fn_of lk hcd S len fun A outer s H vs Q E hr hsp => hbody cdv A outer s H vs Q E hr hsp
end
end G
namespace G
open PySem L2 PySem.Spec PyProof.Rows
structure ExcI (K : PySem.W.Frag) (C : Addr) : Prop where
  ga : PySem.W.findIn K (.ref C) "__getattribute__" = some (some (.builtin "BaseException.__getattribute__"))
  no : PySem.W.findIn K (.ref C) "__getattr__" = some none
  cl : PySem.W.findIn K (.ref C) "__class__" = some (some (.builtin "object.__class__"))
  so : PySem.W.mroIn K C (.type "object") = some true
  sb : PySem.W.mroIn K C (.type "BaseException") = some true
  is : PySem.W.hasDictIn K C = true
section
variable {prog : Program} {w : World} {A : Around} {E : Value → Shared → Prop} {h : Heap} {g : Array GenState} {d : Drawn} {t : Nat} {os : OsState} {a : Addr} {o : Obj} {C : Addr} {K : PySem.W.Frag}
end
def atX (a C : Addr) (h : Heap) : Prop := ∃ o, h.get? a = some o ∧ o.cls = .ref C
section
variable {X : Cx}
def ExcAll (K : PySem.W.Frag) (Cs : List Addr) : Prop := ∀ C ∈ Cs, ExcI K C
theorem call_listL : CallR X (.type "list") (cListL X.K) := by
  intro pins s σ H xs us Q I r h
  obtain ⟨p, ys, rfl, hs, q⟩ := h
  exact call_list_of pins s σ H [.ref p] us Q I r ⟨p, ys, rfl, .inl hs, q⟩
end
end G
namespace G
open PySem L2 PySem.Spec PyProof.Rows
theorem none_mro : fastBuiltinMro "NoneType" = some [.type "NoneType", .type "object"] := by decide +kernel
section
variable {K : PySem.W.Frag} {A : Around} {a C : Addr} {o : Obj}
theorem eq_chk {M : Model} {E : Value → Shared → Prop} {s : Shared} {Q : Unit → Shared → Prop} (LI : PySem.W.Looks M s.heap (isInstance (.ref a) (.type "object")) true) (hq : Q () s) : wpAny M A (checkBuiltinCall "object.__eq__" ⟨[.ref a, .none], []⟩) Q E s := by
  have ha := PySem.F.cmpArgs_eq (.ref a) .none
  simp only [checkBuiltinCall, PySem.F.cmpKind_eq, PySem.F.cmpSplit_eq]
  refine wpAny_bind (LI.here ?_)
  simp only [Bool.not_true, Bool.false_eq_true, if_false]
  cases hsig : Manifest.signature? "object.__eq__" with
  | none => exact wpAny_pure hq
  | some sig =>
    simp only [argsOk, hsig] at ha
    have h2 : Bind.checkArgs "object.__eq__" sig ⟨[.ref a, .none], []⟩ = pure () := ha
    show wpAny M A (Bind.checkArgs "object.__eq__" sig ⟨[.ref a, .none], []⟩) Q E _
    rw [h2]
    exact wpAny_pure hq
theorem eq_call {prog : Program} {w : World} {E : Value → Shared → Prop} {s : Shared} {Q : Value → Shared → Prop} (LI : PySem.W.Looks (model prog w) s.heap (isInstance (.ref a) (.type "object")) true) (hq : Q .notImplemented s) :
    wpAny (model prog w) A (call (.builtin "object.__eq__") [.ref a, .none]) Q E s := by
  refine wpAny_call (codeAny_call_builtin PySem.F.cmp_object.eq.plain PySem.F.cmpEntry_eq (eq_chk LI ?_))
  obtain ⟨h, g, d, t, os⟩ := s
  unfold Builtin.«object.__eq__»
  repeat (first | with_reducible refine wpAny_bind (m := isSame (.ref a) .none) (wpAny_pure ?_) | wp_step)
  exact hq
theorem try_eq {prog : Program} {w : World} {E : Value → Shared → Prop} {s : Shared} {Q : Option Value → Shared → Prop} (X : K.In s.heap) (hx : s.heap.get? a = some o) (hc : o.cls = .ref C) (hE : EqD K C) (hq : Q none s) :
    wpAny (model prog w) A (tryCompare (.ref a) "__eq__" .none) Q E s := by
  have LT : PySem.W.Looks (model prog w) s.heap (typeOf (.ref a)) (.ref C) := hc ▸ (PySem.W.Looks.ld hx).andThen .now
  have LI : PySem.W.Looks (model prog w) s.heap (isInstance (.ref a) (.type "object")) true := LT.andThen (PySem.W.looks_mroIn X hE.ob)
  have LS : PySem.W.Looks (model prog w) s.heap (specialOf (.ref a) "__eq__") (some (.builtin "object.__eq__")) := LT.andThen (PySem.W.looks_findIn X hE.eq)
  simp only [tryCompare]
  refine wpAny_bind ?_
  simp only [callSpecialIfBound?, bindSpecialIfBound?]
  refine wpAny_holding (wpAny_bind (wpAny_bind (LS.here ?_)))
  simp only [PySem.F.cmp_object.eq.bind]
  have fin : wpAny (model prog w) A (call (.builtin "object.__eq__") ([.ref a] ++ [.none]) >>= fun v => pure (some v)) (fun r s' => wpAny (model prog w) A (match r with | some .notImplemented | none => pure none | some v => pure (some v)) Q E s') E s :=
    wpAny_bind (eq_call LI (wpAny_pure (wpAny_pure hq)))
  refine wpAny_bind (wpAny_askSetting (wpAny_ite ?_))
  split
  · exact wpAny_bind (wpAny_pure (wpAny_pure fin))
  · exact wpAny_tryCatch (wpAny_bind (wpAny_pure (wpAny_pure fin)))
theorem rc_inst {s : Shared} (X : K.In s.heap) (hx : s.heap.get? a = some o) (hc : o.cls = .ref C) (hE : EqD K C) (hu : A.units < cLine) : SeqAt.RcAt A s (.ref a) .none false := fun prog w E Q h => by
  have LT : PySem.W.Looks (model prog w) s.heap (typeOf (.ref a)) (.ref C) := hc ▸ (PySem.W.Looks.ld hx).andThen .now
  have hi : cmpInfo CmpOp.Eq = ("==", ("__eq__" : Str), ("__eq__" : Str)) := rfl
  have ho : oneThing? .Eq (.ref a) .none = none := rfl
  simp only [richCompare, hi, ho]
  try with_reducible refine wpAny_holding ?_
  refine wpAny_bind (wpAny_cRoomFor_or (.inr hu) ?_)
  refine wpAny_bind (LT.here (wpAny_bind (m := typeOf .none) (wpAny_pure ?_)))
  have hne : (Value.ref C != Value.type "NoneType") = true := by simp
  simp only [hne, if_true]
  have hs : isSubtype (.type "NoneType") (.ref C) = pure false := by
    rw [isSubtype_type, none_mro]
    rfl
  refine wpAny_bind (wpAny_of_eq hs ?_)
  simp only [Bool.false_eq_true, if_false, Bool.not_false, if_true]
  refine wpAny_bind (m := tryCompare (.ref a) _ .none) (try_eq X hx hc hE ?_)
  refine wpAny_bind (m := tryCompare .none _ (.ref a)) (wpAny_tryCompare_declines (T := "NoneType") rfl PySem.F.slot_NoneType_eq_refl (call_gives PySem.F.slot_NoneType_eq_refl rfl PySem.F.entry_NoneType_eq (PySem.F.args_NoneType_eq_2 _ _) (SeqAt.NoneType___eq___none_ref_0 a) ⟨rfl, ?_⟩))
  exact wpAny_bind (wpAny_rule (wpAny_bind (wpAny_of_eq (rfl : isSame (.ref a) .none = pure false) (wpAny_pure h))))
theorem eq_inst {s : Shared} (X : K.In s.heap) (hx : s.heap.get? a = some o) (hc : o.cls = .ref C) (hE : EqD K C) (hu : A.units < cLine) : SeqAt.EqAt A s (.ref a) .none false := fun prog w E Q h => by
  unfold eqBool
  refine wpAny_holding ?_
  refine wpAny_ite_split (fun hab => absurd (eq_of_beq hab) nofun) (fun _ => ?_)
  exact wpAny_bind (rc_inst X hx hc hE hu prog w E _ (wpAny_truthy_bool h))
end
section
variable {X : Cx}
def noneU (u : Value) : Bool := match u with
  | .none => true
  | _ => false
theorem noneU_of {H : Hp} {y : V} {u : Value} (r : RelV y u) (h : y = .non ∨ ∃ a C dx fs, y = .ref a ∧ H a = some (.ins C dx fs) ∧ Cls X.K C ∧ EqD X.K C) : noneU u = decide (y = .non) := by
  rcases h with rfl | ⟨a, _, _, _, rfl, _⟩
  · obtain rfl : u = Value.none := r
    rfl
  · obtain rfl : u = Value.ref a := r
    rfl
theorem noneU_at {pins : List (Addr × Obj)} {σ : L2.St} {H : Hp} {s : Shared} {A : Around} {y : V} {u : Value} (I : Inv X pins σ H s) (hu : A.units < cLine) (r : RelV y u) (h : y = .non ∨ ∃ a C dx fs, y = .ref a ∧ H a = some (.ins C dx fs) ∧ Cls X.K C ∧ EqD X.K C) : SeqAt.EqAt A s u .none (noneU u) := by
  rcases h with rfl | ⟨a, C, dx, fs, rfl, ha, hc, he⟩
  · obtain rfl : u = Value.none := r
    exact SeqAt.EqAt.same .none
  · obtain rfl : u = Value.ref a := r
    obtain ⟨_, _, _, e, _⟩ := (show ObjOk X.prog X.w H s.heap a (.ins C dx fs) from I.hok a _ ha)
    exact eq_inst I.kIn e rfl he hu
theorem none_any {H : Hp} : ∀ {xs : List V} {us : List Value}, Vals xs us → OkN X.K H xs → us.any noneU = decide (V.non ∈ xs)
  | _, _, .nil, _ => rfl
  | y :: xs, u :: us, .cons r t, h => by
    rw [List.any_cons, none_any t fun z hz => h z (List.mem_cons_of_mem _ hz), noneU_of r (h y List.mem_cons_self), Bool.eq_iff_iff]
    simp only [Bool.or_eq_true, decide_eq_true_eq, List.mem_cons]
    constructor
    · rintro (z | z)
      · exact .inl z.symm
      · exact .inr z
    · rintro (z | z)
      · exact .inl z.symm
      · exact .inr z
theorem none_mem {H : Hp} {pins : List (Addr × Obj)} {σ : L2.St} {s : Shared} {A : Around} {xs : List V} {us : List Value} (I : Inv X pins σ H s) (hu : A.units < cLine) (r : Vals xs us) (h : OkN X.K H xs) : ∀ u ∈ us, SeqAt.EqAt A s u .none (noneU u) := by
  intro u hm
  obtain ⟨i, hi, rfl⟩ := List.getElem_of_mem hm
  have hl := r.length
  have hx : xs[i]? = some xs[i] := List.getElem?_eq_getElem (by omega)
  obtain ⟨u', e, ru⟩ := r.get hx
  rw [List.getElem?_eq_getElem hi] at e
  cases e
  exact noneU_at I hu ru (h _ (List.getElem_mem (by omega)))
theorem op_notInN (hu : X.A.units + 1 < cLine) : OpR X (compareOp .NotIn) (rInN X.K true) := by
  intro pins s σ H x y v u Q I rx ry h
  obtain ⟨p, xs, rfl, rfl, hs, hk, q⟩ := h
  obtain rfl : v = Value.none := rx
  cases ry
  obtain ⟨us, r, pl, _⟩ := I.list hs
  refine SeqAt.notIn_listAt noneU pl.isList (fun w hw => none_mem I (by show X.A.units + 1 < cLine; exact hu) r hk w (by simpa using hw)) ⟨.bl _, H, I, rfl, ?_⟩
  rw [show us.toArray.any noneU = us.any noneU by simp, none_any r hk]
  exact q
theorem none_idx {H : Hp} {xs : List V} {us : List Value} (r : Vals xs us) (h : OkN X.K H xs) (j : Nat) (hj : j < us.length) (hj' : j < xs.length) : noneU us[j] = decide (xs[j] = V.non) := by
  obtain ⟨u', e, ru⟩ := r.get (List.getElem?_eq_getElem hj')
  rw [List.getElem?_eq_getElem hj] at e
  cases e
  exact noneU_of ru (h _ (List.getElem_mem hj'))
theorem mt_indexN (hu : X.A.units + 1 < cLine) : MtR X "list.index" (rIndexN X.K) := by
  intro pins s σ H x xs v us Q I rx rs h
  obtain ⟨p, ys, rfl, rfl, hs, hk, hn, q⟩ := h
  obtain rfl : v = Value.ref p := rx
  obtain ⟨u, rfl, ru⟩ := Vals.one rs
  obtain rfl : u = Value.none := ru
  obtain ⟨ws, r, pl, hz⟩ := I.list hs
  obtain ⟨⟨cls, dd, data, sl⟩, ho, hc, n, hd⟩ := pl.isList
  simp only at hc hd
  subst hc hd
  have hl := r.length
  have hj : ys.idxOf V.non < ys.length := List.idxOf_lt_length_iff.mpr hn
  have hz2 : ys.length < 2 ^ 62 := Nat.lt_of_le_of_lt hz (by decide)
  refine call_meets PySem.F.slot_list_index ⟨_, ho, rfl⟩ PySem.F.entry_list_index (PySem.F.args_list_index_2 _ _)
    (SeqAt.list_indexAt p ws.toArray n dd sl .none noneU (ys.idxOf V.non) (by simpa [hl] using hj) (by omega) ?_ ?_) ⟨ho, fun y hy => none_mem I (by show X.A.units + 1 < cLine; exact hu) r hk y (by simpa using hy), ⟨.int _, H, I.tok _, ⟨_, rfl⟩, q⟩⟩
  · show noneU ws[ys.idxOf V.non] = true
    rw [none_idx r hk _ (by omega) hj, decide_eq_true_eq]
    exact List.getElem_idxOf hj
  · intro j hjs hlt
    show noneU ws[j] = false
    rw [none_idx r hk j (by simpa using hjs) (by omega), decide_eq_false_iff_not]
    intro e
    have := List.not_of_lt_findIdx (p := (· == V.non)) (xs := ys) hlt
    simp [e] at this
end
end G
namespace G
open PySem L2
def rIsB : R2 := fun x y H Q => ∃ b, y = .bl b ∧ Q (.bl (decide (x = .bl b))) H
def rNotB : R2 := fun x y H Q => ∃ b, y = .bl b ∧ Q (.bl (!decide (x = .bl b))) H
theorem i_isB {x : V} {b : Bool} {H : Hp} {Q : VK} (h : Q (.bl (decide (x = .bl b))) H) : rIsB x (.bl b) H Q := ⟨b, rfl, h⟩
def tMake0 (C : Addr) : TE := fun _ H Q => ∀ x dx, H x = none → H dx = none → dx ≠ x → Q (.ref x) (upd (upd H dx (.own x)) x (.ins C dx []))
theorem i_make0 {C : Addr} {σ : St} {H : Hp} {Q : VK} (h : ∀ x dx, H x = none → H dx = none → dx ≠ x → Q (.ref x) (upd (upd H dx (.own x)) x (.ins C dx []))) : tMake0 C σ H Q := h
def tOrE (t u : TE) : TE := fun σ H Q => t σ H Q ∨ u σ H Q
theorem i_orL {t u : TE} {σ : St} {H : Hp} {Q : VK} (h : t σ H Q) : tOrE t u σ H Q := .inl h
theorem i_orR {t u : TE} {σ : St} {H : Hp} {Q : VK} (h : u σ H Q) : tOrE t u σ H Q := .inr h
def cIsiO (Cs : List Addr) (isk : Value → Value → Option Bool) : List V → Hp → VK → Prop := fun xs H Q => ∃ a c C dx fs k, (∃ v, xs = [.ref a, v] ∧ RelV v c) ∧ C ∈ Cs ∧ H a = some (.ins C dx fs) ∧ isk (.ref C) c = some k ∧ Q (.bl k) H
end G
namespace G
open PySem L2 PySem.Spec PyProof.Rows
section
variable {X : Cx}
theorem op_isB : OpR X (compareOp .Is) rIsB := by
  intro pins s σ H x y v u Q I rx ry h
  obtain ⟨b, rfl, q⟩ := h
  cases ry
  cases x with
  | bl c =>
    cases rx
    refine wpAny_is_plain rfl (fin_bl I q ?_)
    cases b <;> cases c <;> rfl
  | non => cases rx; exact wpAny_is_plain rfl (fin_bl I q rfl)
  | ref a => cases rx; exact wpAny_is_plain rfl (fin_bl I q rfl)
  | ty a => cases rx; exact wpAny_is_plain rfl (fin_bl I q rfl)
  | _ => obtain ⟨t, rfl⟩ := rx; exact wpAny_is_plain rfl (fin_bl I q rfl)
theorem pe_eith {e : Expr} {t u : TE} (h1 : PE X e t) (h2 : PE X e u) : PE X e (tOrE t u) := by
  intro pins s σ H Q I h
  rcases h with h | h
  · exact h1 pins s σ H Q I h
  · exact h2 pins s σ H Q I h
structure Mk0 (K : PySem.W.Frag) (C : Addr) : Prop where
  makes : PySem.W.makesIn K C = true
  init : PySem.W.findIn K (.ref C) "__init__" = some (some (.builtin "object.__init__"))
  kp : PySem.W.keepIn K (.ref C) = true
theorem run_make00 {C : Addr} {pins : List (Addr × Obj)} {σ : L2.St} {H : Hp} {s : Shared} {Q : VK} (M : Mk0 X.K C) (I : Inv X pins σ H s)
    (h : ∀ x dx, H x = none → H dx = none → dx ≠ x → Q (.ref x) (upd (upd H dx (.own x)) x (.ins C dx []))) : wpAny (model X.prog X.w) X.A (call (.ref C) []) (EP X pins σ Q) X.xe s := by
  have hq := h (s.heap.objs.size + 1) s.heap.objs.size (I.hok.fresh (Nat.le_succ _)) (I.hok.fresh (Nat.le_refl _)) (Nat.ne_of_lt (Nat.lt_succ_self _))
  have I2 := Inv.made (C := C) I
  have Y := PySem.W.makes_of (M := model X.prog X.w) I.kIn M.makes
  refine wpAny_call (make_map0 I.kIn M.makes M.init (fun self => PySem.W.Looks.of_pure (PySem.W.oi_bind self)) ?_)
  have e2 : ((s.heap.push PySem.W.emptyDict).push (PySem.W.instObj C s.heap.objs.size)).get? (s.heap.objs.size + 1) = some (PySem.W.instObj C s.heap.objs.size) := by
    have := Heap.get?_push_size (s.heap.push PySem.W.emptyDict) (o := PySem.W.instObj C s.heap.objs.size) rfl
    rw [Heap.size_push] at this
    exact this
  have t1 : PySem.W.Looks (model X.prog X.w) ((s.heap.push PySem.W.emptyDict).push (PySem.W.instObj C s.heap.objs.size)) (typeOf (.ref (s.heap.objs.size + 1))) (.ref C) := (PySem.W.Looks.ld e2).andThen .now
  have t2 : PySem.W.Looks (model X.prog X.w) ((s.heap.push PySem.W.emptyDict).push (PySem.W.instObj C s.heap.objs.size)) (isInstance (.ref (s.heap.objs.size + 1)) (.type "object")) true := t1.andThen (Y.top.keeps fun b o e => Heap.get?_push_of_some _ (Heap.get?_push_of_some _ e))
  refine codeAny_call_builtin PySem.W.oi_plain PySem.W.entry_oi (@PySem.W.check_slot (model X.prog X.w) _ _ _ "object.__init__" "object" "__init__" (.ref (s.heap.objs.size + 1)) [] [] _ PySem.W.oi_kind PySem.W.oi_split t2 (PySem.W.oi_args (.ref (s.heap.objs.size + 1))) ?_)
  rw [PySem.W.oi_run]
  exact wpAny_pure (And.intro rfl ⟨V.ref (s.heap.objs.size + 1), _, I2, rfl, hq⟩)
theorem pe_make00 {C : Addr} {x : Str} {p pos : Pos} (M : Mk0 X.K C) (hg : Gl X x) (hm : X.mg x = some (.ref C)) (hdb : (x == ("__debug__" : Str)) = false := by decide) : PE X (.Call (.Name x p) [] [] pos) (tMake0 C) := by
  intro pins s σ H Q I h
  refine wpAny_Call_Name_kw (ld_glob I hg hm ?_ hdb)
  exact PySem.W.callWith_K0 I.kIn M.kp (run_make00 M I h)
structure InsI (K : PySem.W.Frag) (C : Addr) : Prop where
  pg : PySem.W.plainGet K C "__class__" = true
  hd : PySem.W.hasDictIn K C = true
  cl : PySem.W.findIn K (.ref C) "__class__" = some (some (.builtin "object.__class__"))
  sp : PySem.W.specialIn K (.builtin "object.__class__") "__get__" = some (some (.builtin "getset_descriptor.__get__"))
  tk : PySem.W.takesIn K (.builtin "object.__class__") = some true
  so : PySem.W.mroIn K C (.type "object") = some true
def InsAll (K : PySem.W.Frag) (Cs : List Addr) : Prop := ∀ C ∈ Cs, InsI K C
end
end G
namespace G
open PySem L2
theorem fn_never {P : Program} {w : World} {K : PySem.W.Frag} {mg : Str → Option Value} {base : Heap} {CX : CXT} {k : Nat} {f : Addr} {fd : FuncData} {ps : List Str} {sp : Sp} (h : ∀ vs H Q E, sp vs H Q E → False) : FnOk P w K mg base CX k f fd ps sp :=
  ⟨fun vs H Q E z => (h vs H Q E z).elim, fun _ _ _ H _ _ vs Q E _ _ _ _ z => (h vs H Q E z).elim⟩
end G
namespace G
open PySem L2 PySem.Spec PyProof.Rows
def tPar3 (i j k : Nat) (ta : TA) : TS := fun D σ H => ta σ H fun vs H1 => ∃ u v w, vs = [u, v, w] ∧ D.nx (((σ.set i (some u)).set j (some v)).set k (some w)) H1
end G
namespace G
open PySem L2 PySem.Spec PyProof.Rows
def TabE (w : World) : List DictEntry → List (Str × Addr) → Prop
  | [], [] => True
  | e :: es, p :: t => e.hash = hashStr w p.1 ∧ (∃ tk, e.key = .str p.1 tk) ∧ e.val = .ref p.2 ∧ TabE w es t
  | _, _ => False
def Tab (K : PySem.W.Frag) (w : World) (mg : Str → Option Value) (nm : Str) (tbl : List (Str × Addr)) : Prop :=
  ∃ dd o es ep, mg nm = some (.ref dd) ∧ K.lookup dd = some o ∧ o.ExactDict ∧ o.data = .dict es ep ∧ TabE w es.toList tbl
def tTab (tbl : List (Str × Addr)) (ti : TE) : TE := fun σ H Q => ti σ H fun y H1 => ∃ k f, y = .str k ∧ tbl.lookup k = some f ∧ Q (.ref f) H1
def FnT (P : Program) (w : World) (K : PySem.W.Frag) (mg : Str → Option Value) (base : Heap) (CX : CXT) (k : Nat) (ps : List Str) (L : List (Addr × Sp)) : Prop :=
  ∀ f sp, (f, sp) ∈ L → ∃ k' fd, k' ≤ k ∧ FnOk P w K mg base CX k' f fd ps sp ∧ PySem.W.keepIn K (.ref f) = true ∧ L2.Binds K fd ps []
def tCallT (i : Nat) (L : List (Addr × Sp)) (E : XK) (t : TA) : TE := fun σ H Q => ∃ f sp, σ[i]? = some (some (.ref f)) ∧ (f, sp) ∈ L ∧ t σ H fun vs H1 => sp vs H1 Q E
section
variable {σ : L2.St} {H : Hp} {Q : VK} {td ty tv : TE} {n bk ct : L2.St → Hp → Prop} {r : VK}
theorem i_dput (h : tv σ H fun v H1 => td σ H1 fun x H2 => ty σ H2 fun y H3 => ∃ a H4, x = .ref a ∧ DPut H3 a y v H4 ∧ n σ H4) : sDPut td ty tv ⟨n, r, bk, ct⟩ σ H := h
theorem dputS {a : Addr} {kvs : List (L2.Key × V)} {z : Str} {v : V} (e : H a = some (.dK kvs)) (hl : kvs.length < sizeLine) : DPut H a (.str z) v (upd H a (.dK (putK kvs (Sum.inr z) v))) := DPut.k (k := Sum.inr z) e hl
end
end G
namespace G
open PySem L2 PySem.Spec PyProof.Rows
def LCg2 (K : PySem.W.Frag) (J : It) (caps : List Nat) (tc : TT) (te : TE) (σ : L2.St) (H1 : Hp) (Q : VK) : Prop := ∃ W : Nat → Nat → List V → Hp → Prop, (∃ m, W 0 m [] H1) ∧ ∀ i m ys H, W i m ys H →
  (J.stop i H ∧ ∀ p, H p = none → Q (.ref p) (upd H p (.lst ys))) ∨
  (J.go i H ∧ ys.length < sizeLine ∧ ∀ x H', J.yld i H x H' → ∃ a u v, x = .ref a ∧ SqT K H' a [u, v] ∧ tc (some u :: some v :: caps.map (pick σ)) H' fun k H2 => if k = true then te (some u :: some v :: caps.map (pick σ)) H2 (fun y H3 => ∃ m', m' < m ∧ W (i + 1) m' (ys ++ [y]) H3) else ∃ m', m' < m ∧ W (i + 1) m' ys H2)
def tLC2 (K : PySem.W.Frag) (wi : TI) (caps : List Nat) (tc : TT) (te : TE) : TE := fun σ H Q => wi σ H fun J H1 => LCg2 K J caps tc te σ H1 Q
theorem i_lcg2 {K : PySem.W.Frag} {wi : TI} {caps : List Nat} {tc : TT} {te : TE} {σ : L2.St} {H : Hp} {Q : VK} (h : wi σ H fun J H1 => LCg2 K J caps tc te σ H1 Q) : tLC2 K wi caps tc te σ H Q := h
def tUnp (K : PySem.W.Frag) (te : TE) : TE := fun σ H Q => ∃ a u v r, σ = some (.ref a) :: r ∧ SqT K H a [u, v] ∧ te (some u :: some v :: r) H Q
theorem lcg2_of {K : PySem.W.Frag} {J : It} {caps : List Nat} {te : TE} {σ : L2.St} {H : Hp} {Q : VK} (h : LCg J caps tTrue (tUnp K te) σ H Q) : LCg2 K J caps tTrue te σ H Q := by
  obtain ⟨W, w0, step⟩ := h
  refine ⟨W, w0, fun i m ys H hw => ?_⟩
  rcases step i m ys H hw with z | ⟨g, l, st⟩
  · exact .inl z
  · refine .inr ⟨g, l, fun x H' y => ?_⟩
    have h1 := st x H' y
    simp only [tTrue, ↓reduceIte] at h1
    obtain ⟨a, u, v, r, e, hs, q⟩ := h1
    cases e
    refine ⟨a, u, v, rfl, hs, ?_⟩
    simp only [tTrue, ↓reduceIte]
    exact q
theorem pe_lc2 {X : Cx} {elt iter : Expr} {x y : Str} {px py pt pos : Pos} {kt : Nat} {ifs : List Expr} {scope : Scope} {cl : List (Str × Addr)} {wi : TI} {tc : TT} {te : TE} {cns : List Str} (caps : List Nat)
    (hi : PI X (.Tuple [.Name x px, .Name y py] kt pt) iter wi)
    (hf : ∀ C s H ex pn, PF (cxLC X scope cl (x :: y :: cns) C s H ex pn) ifs tc) (he : ∀ C s H ex pn, PE (cxLC X scope cl (x :: y :: cns) C s H ex pn) elt te) (hc : X.calm = true)
    (hclos : closureFor scope X.env = pure cl) (hcl : AllIn X.env.cells cl) (hcap : CapOk X cns caps)
    (hkind : scope.kind = .function) (hcell : (scope.names.all fun p => p.2 != .cell) = true) (hfree : (scope.names.all fun p => p.2 != .free || (cl.lookup p.1).isSome) = true)
    (hcf : (cns.all fun y => scope.names.lookup y == some .free) = true) (hnames : ∀ y ∈ scope.names, y.2 = .local → scope.names.lookup y.1 = some .local) (hx : scope.names.lookup x = some .local) (hy : scope.names.lookup y = some .local) (hnd : (x :: y :: cns).Nodup)
    (hs : ∀ v, foldedSetIterable iter X.env v = pure v := by intro _; rfl) :
    PE X (.ListComp elt [⟨.Tuple [.Name x px, .Name y py] kt pt, iter, ifs, 0⟩] scope pos) (tLC2 X.K wi caps tc te) := by
  intro pins s σ H Q I h
  rw [eval_ListComp]
  refine wpAny_comprehension_free (use := none) rfl hs hclos hkind hnames (thn (hi pins s σ H _ I h) fun xv s1 h1 => thn h1 fun itv s2 h2 => ?_)
  obtain ⟨it, fp, tn, J, H2, rfl, I2, T, st2, f2, W, ⟨m0, w0⟩, turn⟩ := h2
  have hne : ∀ y ∈ scope.names, y.2 ≠ .cell := fun y hy e => by
    have := List.all_eq_true.mp hcell y hy
    rw [e] at this; simp at this
  refine wpAny_newObj_type (wpAny_newFunctionEnv hne (by intro y hy; simp at hy) (fun h₁ hns₁ hsb₁ => ?_) hkind)
  dsimp only at hns₁ hsb₁ ⊢
  generalize hacc : s2.heap.objs.size = acc
  generalize hH3 : s2.heap.push { cls := .type "list", dict := none, data := .seq ([] : List Value).toArray } = h3 at hns₁ hsb₁ ⊢
  have hC : h3.objs.size = acc + 1 := by rw [← hH3, Heap.size_push, hacc]
  have k23 : ∀ b o, s2.heap.get? b = some o → h3.get? b = some o := fun b o e => hH3 ▸ Heap.get?_push_of_some _ e
  have k34 : ∀ b o, h3.get? b = some o → h₁.get? b = some o := fun b o e => hsb₁.extBut b o (Nat.ne_of_lt (Heap.lt_size e)) (Heap.get?_push_of_some _ e)
  have oacc : h3.get? acc = some { cls := .type "list", dict := none, data := .seq ([] : List Value).toArray } := by
    rw [← hH3, ← hacc]; exact Heap.get?_push_size _ rfl
  -- the state ahead of the block
  have I3 : Inv X pins σ H2 { s2 with heap := h3 } := I2.kept (t' := s2.toks) k23
  have facc : FpOk X pins H2 acc := I2.fpOk (Nat.le_of_eq hacc) (I2.hok.fresh (Nat.le_of_eq hacc))
  have fpl : ∀ b ∈ fp, b < acc := fun b hb => by
    obtain ⟨o, e, _⟩ := T.obj _ _ st2 b hb
    rw [← hacc]; exact Heap.lt_size e
  have exok : ∀ b ∈ acc :: fp, FpOk X pins H2 b := fun b hb => (List.mem_cons.mp hb).elim (fun e => e ▸ facc) (f2 b)
  have exC : ∀ b ∈ acc :: fp, b ≠ h3.objs.size := fun b hb => by
    rcases List.mem_cons.mp hb with e | hb
    · rw [hC, e]; exact Nat.ne_of_lt (Nat.lt_succ_self _)
    · rw [hC]; exact Nat.ne_of_lt (Nat.lt_succ_of_lt (fpl b hb))
  have stk_no : ∀ b ∈ acc :: fp, b ∉ frs X.stack := fun b hb hm => by
    obtain ⟨_, g1, g2, _⟩ := exok b hb
    exact (List.mem_cons.mp (I2.stkSub b hm)).elim g1 g2
  let Y : Cx := cxLC X scope cl (x :: y :: cns) h3.objs.size { s2 with heap := h3 } H2 (acc :: fp) (X.pn ++ pins)
  have cellsOf : ∀ y c, cl.lookup y = some c → X.env.cells.lookup y = some c := fun y c e => hcl.get e
  have kindY : ∀ y k, Y.env.kindOf y = some k → (k = .cell ∨ k = .free) → ∃ c, cl.lookup y = some c := fun y k e hk => by
    have e0 : (scope.names.lookup y).map (relK X.env y) = some k := lookup_relabel.symm.trans e
    obtain ⟨k0, e1, e2⟩ := Option.map_eq_some_iff.mp e0
    have e3 := lookup_all hfree e1
    have e4 := lookup_all hcell e1
    by_cases hf : k0 = .free
    · subst hf
      rw [Bool.or_eq_true] at e3
      rcases e3 with e3 | e3
      · exact absurd rfl (bne_iff_ne.mp e3)
      · exact Option.isSome_iff_exists.mp e3
    · exfalso
      have e5 : relK X.env y k0 = k0 := by
        unfold relK
        rw [if_neg]
        intro z
        rw [Bool.and_eq_true, Bool.and_eq_true] at z
        exact hf (beq_iff_eq.mp z.1.1)
      rw [e5] at e2
      subst e2
      rcases hk with rfl | rfl
      · simp at e4
      · exact hf rfl
  have okY : Y.Ok := {
    mod := I2.ok.mod
    kind := hkind
    glob := I2.ok.glob
    blt := I2.ok.blt
    above := Nat.le_refl _
    inj := fun a b c e1 e2 => I2.ok.inj a b c (cellsOf _ _ e1) (cellsOf _ _ e2)
    has := fun y hy => hy.elim (fun e => kindY y _ e (.inl rfl)) (fun e => kindY y _ e (.inr rfl))
    cab := fun y c e => nomatch e
    hd := I2.ok.hd
    frames := I2.ok.frames
    stk := .inl rfl
    exf := fun b hb => ⟨exC b hb, fun y c e => (exok b hb).2.2.2.2.1 y c (cellsOf _ _ e)⟩
    bs := fun b o e => ⟨k23 b o (I2.bs b o e).1, (I2.bs b o e).2⟩
    bsz := by
      show X.base.objs.size ≤ h3.objs.size
      rw [hC, ← hacc]
      exact Nat.le_succ_of_le (Nat.le_trans I2.ok.bsz I2.sz)
    noex := fun b o e hb => by
      rcases (exok b hb).2.2.2.1 with z | z
      · exact I2.ok.noex b o e z
      · exact absurd (Nat.lt_of_lt_of_le (Heap.lt_size e) (Nat.le_trans I2.ok.bsz z)) (Nat.lt_irrefl _)
    exfs := stk_no
    funs := I3.stack
    frf := I3.stkFree }
  have lenN : (none :: none :: caps.map (pick σ) : L2.St).length = (x :: y :: cns).length := by rw [List.length_cons, List.length_cons, List.length_cons, List.length_cons, List.length_map, hcap.len]
  have I4 : Inv Y [] (none :: none :: caps.map (pick σ)) H2 { s2 with heap := h₁, toks := s2.toks + ([] : List (Str × Value)).length } := {
    ok := okY
    os := rfl
    bare := I2.bare
    base := Un.kept k34
    loc := by
      refine ⟨_, hns₁, fun i y₁ v e1 e2 e3 => ?_⟩
      match i, e1, e2 with
      | 0, e1, e2 => simp at e2
      | 1, e1, e2 => simp at e2
      | i + 2, e1, e2 =>
        obtain ⟨j, j1, j2, j3⟩ := hcap.get (σ := σ) (i := i) (x := y₁) (v := v) (by have e1' : (x :: y :: cns)[i + 2]? = some y₁ := e1; simpa using e1') (by simpa using e2)
        obtain ⟨m, hn, hl⟩ := I2.loc
        obtain ⟨u, r, l⟩ := hl j y₁ v j1 j3 (.inr (.inl j2))
        rcases l with ⟨l, _⟩ | ⟨_, c, l1, l2⟩
        · rw [j2] at l; cases l
        · refine ⟨u, r, .inr ?_⟩
          rcases e3 with e3 | e3 | e3
          · exfalso
            have hm : y₁ ∈ cns := List.mem_of_getElem? (show cns[i]? = some y₁ by have e1' : (x :: y :: cns)[i + 2]? = some y₁ := e1; simpa using e1')
            have hl : scope.names.lookup y₁ = some .free := beq_iff_eq.mp (List.all_eq_true.mp hcf y₁ hm)
            have e0 : (scope.names.lookup y₁).map (relK X.env y₁) = some .local := lookup_relabel.symm.trans e3
            rw [hl] at e0
            have e5 : relK X.env y₁ .free = .local := Option.some.inj e0
            unfold relK at e5
            split at e5 <;> cases e5
          · obtain ⟨c', hc'⟩ := kindY y₁ _ e3 (.inl rfl)
            have := cellsOf _ _ hc'
            rw [l1] at this; cases this
            exact ⟨.inl e3, c, hc', l2.keeps fun b o e => k34 _ _ (k23 _ _ e)⟩
          · obtain ⟨c', hc'⟩ := kindY y₁ _ e3 (.inr rfl)
            have := cellsOf _ _ hc'
            rw [l1] at this; cases this
            exact ⟨.inr e3, c, hc', l2.keeps fun b o e => k34 _ _ (k23 _ _ e)⟩
    cell := fun y c e => by
      obtain ⟨v, z⟩ := I2.cell y c (cellsOf _ _ e)
      exact ⟨v, z.keeps fun b o e => k34 _ _ (k23 _ _ e)⟩
    free := I2.hok.fresh (by rw [hacc]; show acc ≤ h3.objs.size; rw [hC]; exact Nat.le_succ _)
    freeC := fun y c e => I2.freeC y c (cellsOf _ _ e)
    pin := fun p hp => by
      have hp2 : p ∈ (X.pn ++ pins) ++ [] := hp
      have hp' : p ∈ X.pn ++ pins := by rw [List.append_nil] at hp2; exact hp2
      obtain ⟨p1, p2, p3, p4, p5⟩ := I2.pin p hp'
      refine ⟨k34 _ _ (k23 _ _ p1), p2, ?_, fun hm => (List.mem_cons.mp (I2.stkSub _ hm)).elim p3 p4, p5⟩
      exact Nat.ne_of_lt (by show p.1 < h3.objs.size; exact Heap.lt_size (k23 _ _ p1))
    hok := I2.hok.kept fun b u e => k34 _ _ (k23 _ _ e)
    len := lenN }
  -- what stays true of the records through the loop
  have fpY : ∀ {H' : Hp} {pl : List (Addr × Obj)} {b : Addr}, b ∈ acc :: fp → H' b = none → (∀ p ∈ pl, p.1 ≠ b) → FpOk Y pl H' b := fun {H' pl b} hb hn hp =>
    ⟨hn, exC b hb, stk_no b hb, .inl hb, fun y c e => (exok b hb).2.2.2.2.1 y c (cellsOf _ _ e), fun p hm => (List.mem_append.mp hm).elim (fun z => (exok b hb).2.2.2.2.2 p z) (hp p)⟩
  have fin : ∀ {σ' : L2.St} {H' : Hp} {s' : Shared} {ys : List V} {its : List Value} {kk : Nat} {pl : List (Addr × Obj)}, Inv Y pl σ' H' s' → H' acc = none → Vals ys its → ys.length ≤ sizeLine →
      s'.heap.get? acc = some { cls := .type "list", data := .seq its.toArray kk } → (∀ p, H' p = none → Q (.ref p) (upd H' p (.lst ys))) →
      ∀ h', Heap.SameBut h3.objs.size s'.heap h' → EP X pins σ Q (.ref acc) { s' with heap := h' } := fun {σ' H' s' ys its kk pl} J ha hv hz ho hq h' hs' => by
    have hacC : acc ≠ h3.objs.size := exC acc (List.mem_cons_self)
    have keepC : ∀ b o, b ≠ h3.objs.size → s'.heap.get? b = some o → h'.get? b = some o := fun b o hb e => hs'.extBut b o hb e
    have ltC : ∀ b o, s2.heap.get? b = some o → b ≠ h3.objs.size := fun b o e => Nat.ne_of_lt (Heap.lt_size (k23 b o e))
    have hCfree : H' h3.objs.size = none := J.free
    have un : Un (frs X.stack) (acc :: fp) H2 H' s2.heap h' := {
      keep := fun b o e n hb hx => keepC b o (ltC b o e) (J.base.keep b o (k23 b o e) n hb hx)
      slot := fun b o e n hb hx => by
        obtain ⟨sl, q⟩ := J.base.slot b o (k23 b o e) n hb hx
        exact ⟨sl, keepC b _ (ltC b o e) q⟩
      free := fun b o e n hx => J.base.free b o (k23 b o e) n hx
      there := fun b o e hx => by
        obtain ⟨o', q⟩ := J.base.there b o (k23 b o e) hx
        exact ⟨o', keepC b o' (ltC b o e) q⟩
      tups := J.base.tups
      frzs := J.base.frzs
      tbls := J.base.tbls }
    have hok : HOk X.prog X.w H' h' := fun b u e => by
      refine (J.hok b u e).stay (fun c v hc q => keepC c v ?_ q) (fun _ q => q) fun _ _ q => q
      rintro rfl
      rcases hc with rfl | hc
      · rw [hCfree] at e; cases e
      · rw [hCfree] at hc; cases hc
    have I5 : Inv X pins σ H' { s' with heap := h' } := I2.call' (ch := acc :: fp) J.os un hok J.bare fun b hb => by
      obtain ⟨g0, g1, g2, g3, g4, g5⟩ := exok b hb
      exact ⟨g3, g1, g4, g5⟩
    refine ⟨.ref acc, _, adopt (acc := acc) I5 ?_ (keepC _ _ hacC ho) hv hz, rfl, hq acc ha⟩
    obtain ⟨g0, g1, g2, g3, g4, g5⟩ := facc
    exact ⟨ha, g1, g2, g3, g4, g5⟩
  have loop : codeAny (model X.prog X.w) X.A (.compLoop (.ListComp elt [⟨.Tuple [.Name x px, .Name y py] kt pt, iter, ifs, 0⟩] scope pos) 0 (.ref it) (.ref acc) Y.env) (compPost (model X.prog X.w) X.A X.xe none (EP X pins σ Q) (.ref acc) h3.objs.size)
      { s2 with heap := h₁, toks := s2.toks + ([] : List (Str × Value)).length } := by
    refine compLoop_go (fun n s' => ∃ (i : Nat) (v v' : Option V) (ys : List V) (its : List Value) (kk : Nat) (H' : Hp), Inv Y [] (v :: v' :: caps.map (pick σ)) H' s' ∧ tn i s'.heap ∧ (∀ b ∈ fp, H' b = none) ∧ H' acc = none ∧ Vals ys its ∧ ys.length ≤ sizeLine ∧
      s'.heap.get? acc = some { cls := .type "list", data := .seq its.toArray kk } ∧ W i n ys H') ?_ m0 ⟨0, none, none, [], [], 0, H2, I4, T.keep _ _ _ st2 (fun b _ o e => k34 _ _ (k23 _ _ e)), fun b hb => (f2 b hb).1, facc.1, .nil, Nat.zero_le _, k34 _ _ oacc, w0⟩
    rintro n s5 ⟨i, v, v', ys, its, kk, H5, I5, st5, fr5, ha5, hv5, hz5, ho5, w5⟩
    -- acc is pinned
    have pinA : Inv Y [(acc, { cls := .type "list", data := .seq its.toArray kk })] (v :: v' :: caps.map (pick σ)) H5 s5 := I5.pins_of fun p hp => by
      have e : p = (acc, { cls := .type "list", data := .seq its.toArray kk }) := by simpa using hp
      subst e
      exact ⟨ho5, ha5, exC acc List.mem_cons_self, stk_no acc List.mem_cons_self, fun v => by intro z; cases z⟩
    have fpA : ∀ {H' : Hp}, (∀ b ∈ fp, H' b = none) → ∀ b ∈ fp, FpOk Y [(acc, { cls := .type "list", data := .seq its.toArray kk })] H' b := fun hn b hb => fpY (List.mem_cons_of_mem _ hb) (hn b hb) fun p hp => by
      have e : p = (acc, { cls := .type "list", data := .seq its.toArray kk }) := by simpa using hp
      subst e
      exact (Nat.ne_of_lt (fpl b hb)).symm
    rcases turn i n ys H5 w5 with ⟨stop, qn⟩ | ⟨go, hlt, step⟩
    · refine thn (T.done Y rfl rfl rfl hc i _ s5 _ H5 (fun _ _ => False) pinA (fpA fr5) st5 stop) fun r s6 ⟨hr, I6⟩ => ?_
      subst hr
      obtain ⟨m, hm, _⟩ := I6.loc
      have ho6 := (I6.pin (acc, { cls := .type "list", data := .seq its.toArray kk }) (List.mem_append_right _ List.mem_cons_self)).1
      exact ⟨m, hm, fin I6 ha5 hv5 hz5 ho6 qn⟩
    · refine thn (T.item Y rfl rfl rfl hc i _ s5 _ H5 (fun _ _ => False) pinA (fpA fr5) st5 go) fun r s6 ⟨u, hr, h6⟩ => ?_
      subst hr
      refine thn h6 fun _ s7 ⟨z, H7, I7, r7, y7, st7, fr7⟩ => ?_
      have I7' := I7.pinned (fpA fr7) (T.obj _ _ st7)
      obtain ⟨ta, u1, u2, ez, hst, step⟩ := step z H7 y7
      have pg : PG Y (.Tuple [.Name x px, .Name y py] kt pt) (gTup X.K 2 (gCons (gName 0) (gCons (gName 1) gNil))) := pg_tup (X := Y) hc (pgs_cons (pg_name hnd rfl (.inl (lookup_relabel_local hx)) (.inr (lookup_relabel_local hx))) (pgs_cons (pg_name hnd rfl (.inl (lookup_relabel_local hy)) (.inr (lookup_relabel_local hy))) pgs_nil))
      refine thn (pg _ s7 _ H7 z u (fun σ2 H2' => σ2 = some u1 :: some u2 :: caps.map (pick σ) ∧ H2' = H7) I7' r7 ⟨ta, _, ez, hst, rfl, _, _, rfl, _, _, rfl, rfl, rfl, rfl⟩) fun _ s8 ⟨σ8, H8, I8, e8, e8'⟩ => ?_
      subst e8 e8'
      refine thn (hf _ _ _ _ _ _ s8 _ H8 _ I8 step) fun ok s9 ⟨H9, I9, q9⟩ => ?_
      have stat : ∀ {H' : Hp} {s' : Shared} {σ' : L2.St}, Inv Y ([(acc, { cls := .type "list", data := .seq its.toArray kk })] ++ pinsAt fp s7.heap) σ' H' s' → tn (i + 1) s'.heap ∧ (∀ b ∈ fp, H' b = none) ∧ H' acc = none ∧ s'.heap.get? acc = some { cls := .type "list", data := .seq its.toArray kk } := fun {H' s' σ'} J => by
        have pa := J.pin (acc, { cls := .type "list", data := .seq its.toArray kk }) (List.mem_append_right _ (List.mem_append_left _ List.mem_cons_self))
        refine ⟨T.keep _ _ _ st7 fun b hb o e => (J.pin (b, o) (List.mem_append_right _ (List.mem_append_right _ (mem_pinsAt hb e)))).1, fun b hb => ?_, pa.2.1, pa.1⟩
        obtain ⟨o, e, d⟩ := T.obj _ _ st7 b hb
        exact (J.pin (b, o) (List.mem_append_right _ (List.mem_append_right _ (mem_pinsAt hb e)))).2.1
      have nopin : ∀ {H' : Hp} {s' : Shared} {σ' : L2.St} {pl : List (Addr × Obj)}, Inv Y pl σ' H' s' → Inv Y [] σ' H' s' := fun J => J.pins_of fun p hp => nomatch hp
      cases ok with
      | false =>
        obtain ⟨m', hm, w9⟩ := q9
        obtain ⟨t1, t2, t3, t4⟩ := stat I9
        exact ⟨m', hm, i + 1, some u1, some u2, ys, its, kk, H9, nopin I9, t1, t2, t3, hv5, hz5, t4, w9⟩
      | true =>
        show wpAny _ _ (eval elt Y.env) _ _ s9
        refine thn (he _ _ _ _ _ _ s9 _ H9 _ I9 q9) fun y s10 ⟨yv, H10, I10, r10, m', hm, w10⟩ => ?_
        obtain ⟨t1, t2, t3, t4⟩ := stat I10
        -- the list of pins without acc
        have I10' : Inv Y (pinsAt fp s7.heap) (some u1 :: some u2 :: caps.map (pick σ)) H10 s10 := I10.pins_of fun p hp => I10.pin p (List.mem_append_right _ (List.mem_append_right _ hp))
        have fA : FpOk Y (pinsAt fp s7.heap) H10 acc := fpY List.mem_cons_self t3 fun p hp => Nat.ne_of_lt (fpl _ (of_pinsAt hp).1)
        have Ja := adopt I10' fA t4 hv5 hz5
        refine thn (mt_append (X := Y) _ s10 _ _ (.ref acc) [yv] (.ref acc) [y] (fun _ H' => H' = upd (upd H10 acc (.lst ys)) acc (.lst (ys ++ [yv]))) Ja rfl (.cons r10 .nil) ⟨acc, ys, yv, rfl, rfl, upd_same, hlt, rfl⟩) fun _ s11 ⟨_, H11, I11, _, e11⟩ => ?_
        rw [upd_upd] at e11
        subst e11
        obtain ⟨hz11, its', kk', hv11, ho11⟩ := I11.hok acc _ upd_same
        have Jd := disown I11 fA
        have st11 : tn (i + 1) s11.heap := T.keep _ _ _ st7 fun b hb o e => (Jd.pin (b, o) (List.mem_append_right _ (mem_pinsAt hb e))).1
        exact ⟨m', hm, i + 1, some u1, some u2, ys ++ [yv], its', kk', H10, nopin Jd, st11, t2, t3, hv11, hz11, ho11, w10⟩
  exact codeAny_compStart_list loop (T.self X.A 0 _ _ _ (T.keep _ _ _ st2 (fun b _ o e => k34 _ _ (k23 _ _ e))) loop)
end G
namespace G
open PySem L2 PySem.Spec PyProof.Rows
end G
namespace G
open PySem L2 PySem.Spec PyProof.Rows
def BitsOk (ns : List Int) : Prop := ∀ i ∈ ns, Builtin.Int.intBits i ≤ 2 ^ 20
end G
namespace G
open PySem L2
def Ite (K : PySem.W.Frag) (a : Addr) : It :=
  ⟨fun i H => ∃ xs x, SqL K H a xs ∧ xs[i]? = some x, fun i H x H' => ∃ t v, x = .ref t ∧ H t = none ∧ H' = upd H t (.tup [.int i, v]) ∧ ∀ xs, SqL K H a xs → xs[i]? = some v, fun i H => ∃ xs, SqL K H a xs ∧ xs.length ≤ i⟩
def iEnum (K : PySem.W.Frag) (ta : TA) : TI := fun σ H R => ta σ H fun vs H1 => ∃ a, vs = [.ref a] ∧ (∃ xs, SqL K H1 a xs) ∧ R (Ite K a) H1
theorem i_iE {K : PySem.W.Frag} {ta : TA} {σ : L2.St} {H : Hp} {R : It → Hp → Prop} (h : ta σ H fun vs H1 => ∃ a, vs = [.ref a] ∧ (∃ xs, SqL K H1 a xs) ∧ R (Ite K a) H1) : iEnum K ta σ H R := h
def itemsO (v d : Addr) : HO := .ext fun h => h.IsItemsView v d
def tItems (td : TE) : TE := fun σ H Q => td σ H fun x H1 => ∃ a kvs, x = .ref a ∧ Rd H1 a (.dK kvs) ∧ ∀ v, H1 v = none → Q (.ref v) (upd H1 v (itemsO v a))
def PrsAt (H : Hp) : List Addr → List (Key × V) → Prop
  | [], [] => True
  | t :: ts, kv :: kvs => H t = some (.tup [kV kv.1, kv.2]) ∧ PrsAt H ts kvs
  | _, _ => False
def cListI : List V → Hp → VK → Prop := fun xs H Q => ∃ v a kvs, xs = [.ref v] ∧ H v = some (itemsO v a) ∧ Rd H a (.dK kvs) ∧ ∀ l ts H', H l = none → Same H H' → H' l = some (.lst (ts.map V.ref)) → PrsAt H' ts kvs → Q (.ref l) H'
def Itd (a : Addr) (o : Obj) (kvs : List (Key × V)) : It :=
  ⟨fun i H => H a = some (.frz o (.dK kvs)) ∧ i < kvs.length, fun i H x H' => H' = H ∧ ∃ kv, kvs[i]? = some kv ∧ x = kV kv.1, fun i H => H a = some (.frz o (.dK kvs)) ∧ kvs.length ≤ i⟩
def iDict (td : TE) : TI := fun σ H R => td σ H fun x H1 => ∃ a kvs, x = .ref a ∧ H1 a = some (.dK kvs) ∧ ∀ o, R (Itd a o kvs) (upd H1 a (.frz o (.dK kvs)))
def hasV (kvs : List (Key × V)) : V → Option Bool
  | .int i => some (valV kvs (.inl i)).isSome
  | .str x => some (valV kvs (.inr x)).isSome
  | .non => some false
  | _ => none
def tDInN (neg : Bool) (ty td : TE) : TE := fun σ H Q => ty σ H fun y H1 => td σ H1 fun x H2 => ∃ a kvs b, x = .ref a ∧ Rd H2 a (.dK kvs) ∧ hasV kvs y = some b ∧ Q (.bl (if neg then !b else b)) H2
def cTupL (K : PySem.W.Frag) : List V → Hp → VK → Prop := fun xs H Q => ∃ p ys, xs = [.ref p] ∧ ((SqL K H p ys ∧ ∀ l, H l = none → Q (.ref l) (upd H l (.tup ys))) ∨ (SqT K H p ys ∧ Q (.ref p) H))
def rEqLL (K : PySem.W.Frag) (neg : Bool) : R2 := fun x y H Q => ∃ (p q : Addr) (as bs : List Addr), x = .ref p ∧ y = .ref q ∧ SqL K H p (as.map V.ref) ∧ SqL K H q (bs.map V.ref) ∧ as.length = bs.length ∧ (∀ (i : Nat) a b, as[i]? = some a → bs[i]? = some b → ∃ xs, SqL K H a xs ∧ SqL K H b xs ∧ xs.all flatV = true) ∧ Q (.bl (!neg)) H
section
variable {K : PySem.W.Frag} {a : Addr} {g : TG} {tb : TS} {σ : L2.St} {H : Hp} {n : L2.St → Hp → Prop} {r : VK}
theorem forE (xs : List V) (Pv : Nat → L2.St → Hp → Prop) (h0 : Pv 0 σ H) (hl : ∀ i σ H, i ≤ xs.length → Pv i σ H → SqL K H a xs)
    (hs : ∀ i x t σ H, xs[i]? = some x → Pv i σ H → H t = none → g (.ref t) σ (upd H t (.tup [.int i, x])) fun σ2 H2 => tb ⟨Pv (i + 1), r, n, Pv (i + 1)⟩ σ2 H2) (hd : ∀ σ H, Pv xs.length σ H → n σ H) :
    ∃ W : Nat → Nat → L2.St → Hp → Prop, (∃ m, W 0 m σ H) ∧ ∀ i m σ H, W i m σ H →
      ((Ite K a).stop i H ∧ n σ H) ∨ ((Ite K a).go i H ∧ ∃ N : L2.St → Hp → Prop, (∀ σ' H', N σ' H' → ∃ m', m' < m ∧ W (i + 1) m' σ' H') ∧ ∀ x H', (Ite K a).yld i H x H' → g x σ H' fun σ2 H2 => tb ⟨N, r, n, N⟩ σ2 H2) := by
  refine ⟨fun i m σ H => i ≤ xs.length ∧ m = xs.length - i ∧ Pv i σ H, ⟨xs.length, Nat.zero_le _, rfl, h0⟩, ?_⟩
  rintro i m σ H ⟨hi, rfl, p⟩
  have hq := hl i σ H hi p
  by_cases hk : i = xs.length
  · subst hk
    exact .inl ⟨⟨xs, hq, Nat.le_refl _⟩, hd σ H p⟩
  · have hlt : i < xs.length := by omega
    have hx : xs[i]? = some xs[i] := List.getElem?_eq_getElem hlt
    refine .inr ⟨⟨xs, _, hq, hx⟩, Pv (i + 1), fun σ' H' p' => ⟨xs.length - (i + 1), by omega, by omega, rfl, p'⟩, ?_⟩
    rintro x H' ⟨t, v, rfl, ht, rfl, hv⟩
    exact hs i v t σ H (hv xs hq) p ht
end
end G
namespace G
open PySem L2 PySem.Spec PyProof.Rows
theorem inv_turn2 {X : Cx} {pins : List (Addr × Obj)} {σ : L2.St} {H : Hp} {s : Shared} {h' : Heap} {t' : Nat} {e it : Addr} (I : Inv X pins σ H s) (k : ∀ b u, b ≠ e → b ≠ it → s.heap.get? b = some u → h'.get? b = some u) (fe : FpOk X pins H e) (fi : FpOk X pins H it) :
    Inv X pins σ H { s with heap := h', toks := t' } := by
  have ne : ∀ b u, H b = some u → b ≠ e := fun b u q z => by rw [z, fe.1] at q; cases q
  have ni : ∀ b u, H b = some u → b ≠ it := fun b u q z => by rw [z, fi.1] at q; cases q
  have nm : ∀ b, b ∉ [e, it] → b ≠ e ∧ b ≠ it := fun b hb => ⟨fun z => hb (by simp [z]), fun z => hb (by simp [z])⟩
  refine I.step (g' := s.gens) (d' := s.drawn) (ch := [e, it]) (fun b hb => ?_) (fun b o _ _ hc q _ => k b o (nm b hc).1 (nm b hc).2 q) (fun b o _ _ hc q _ => ⟨o.slots, k b o (nm b hc).1 (nm b hc).2 q⟩) (fun _ _ _ _ n => n)
    (fun b o hc q => ⟨o, k b o (nm b hc).1 (nm b hc).2 q⟩) (fun _ _ q => q) (fun _ _ _ q => q) (fun b ps q => ⟨#[], by rw [q]; simp⟩) (fun m hm => ?_) (fun b u q => ?_) I.bare
  · rcases List.mem_cons.mp hb with z | z
    · rw [z]; exact ⟨fe.2.2.2.1, fe.2.1, fe.2.2.2.2.1, fe.2.2.2.2.2⟩
    · have z' : b = it := by simpa using z
      rw [z']; exact ⟨fi.2.2.2.1, fi.2.1, fi.2.2.2.2.1, fi.2.2.2.2.2⟩
  · obtain ⟨o, es, ep, ho, r⟩ := hm
    exact ⟨o, es, ep, k _ o (Ne.symm fe.2.1) (Ne.symm fi.2.1) ho, r⟩
  · refine (I.hok b u q).stay (fun c v hc z => ?_) (fun _ z => z) fun _ _ z => z
    rcases hc with y | y
    · rw [y] at z ⊢; exact k b v (ne b u q) (ni b u q) z
    · exact k c v (ne c _ y) (ni c _ y) z
theorem inv_turn2_laid {X : Cx} {pins : List (Addr × Obj)} {σ : L2.St} {H : Hp} {s : Shared} {h' : Heap} {t' : Nat} {e it a : Addr} {o : HO} (I : Inv X pins σ H s) (k : ∀ b u, b ≠ e → b ≠ it → s.heap.get? b = some u → h'.get? b = some u) (fe : FpOk X pins H e) (fi : FpOk X pins H it)
    (ha : s.heap.objs.size ≤ a) (new : ObjOk X.prog X.w (upd H a o) h' a o) : Inv X pins σ (upd H a o) { s with heap := h', toks := t' } := by
  have hn := I.hok.fresh ha
  have ne : ∀ b u, H b = some u → b ≠ e := fun b u q z => by rw [z, fe.1] at q; cases q
  have ni : ∀ b u, H b = some u → b ≠ it := fun b u q z => by rw [z, fi.1] at q; cases q
  have nm : ∀ b, b ∉ [e, it] → b ≠ e ∧ b ≠ it := fun b hb => ⟨fun z => hb (by simp [z]), fun z => hb (by simp [z])⟩
  have na : ∀ b u, s.heap.get? b = some u → b ≠ a := fun b u q => Nat.ne_of_lt (Nat.lt_of_lt_of_le (Heap.lt_size q) ha)
  refine I.step (g' := s.gens) (d' := s.drawn) (ch := [e, it]) (fun b hb => ?_) (fun b o _ _ hc q _ => k b o (nm b hc).1 (nm b hc).2 q) (fun b o _ _ hc q _ => ⟨o.slots, k b o (nm b hc).1 (nm b hc).2 q⟩) (fun b u _ q n => (upd_ne (na b u q)).trans n)
    (fun b o hc q => ⟨o, k b o (nm b hc).1 (nm b hc).2 q⟩) (fun b xs q => (upd_ne (ne_of_none q hn)).trans q) (fun b o xs q => (upd_ne (ne_of_none q hn)).trans q) (fun b ps q => ⟨#[], by rw [upd_ne (ne_of_none q hn), q]; simp⟩) (fun m hm => ?_) (fun b u q => ?_) I.bare
  · rcases List.mem_cons.mp hb with z | z
    · rw [z]; exact ⟨fe.2.2.2.1, fe.2.1, fe.2.2.2.2.1, fe.2.2.2.2.2⟩
    · have z' : b = it := by simpa using z
      rw [z']; exact ⟨fi.2.2.2.1, fi.2.1, fi.2.2.2.2.1, fi.2.2.2.2.2⟩
  · obtain ⟨o, es, ep, ho, r⟩ := hm
    exact ⟨o, es, ep, k _ o (Ne.symm fe.2.1) (Ne.symm fi.2.1) ho, r⟩
  · by_cases hb : b = a
    · subst hb; rw [upd_same] at q; cases q; exact new
    · rw [upd_ne hb] at q
      refine (I.hok b u q).stay (fun c v hc z => ?_) (fun c z => by rw [upd_ne (ne_of_none z hn)]; exact z) fun c xs z => by rw [upd_ne (ne_of_none z hn)]; exact z
      rcases hc with y | y
      · rw [y] at z ⊢; exact k b v (ne b u q) (ni b u q) z
      · exact k c v (ne c _ y) (ni c _ y) z
theorem turn_enum {P : Program} {w : World} {K : PySem.W.Frag} {elts : List Expr} {x1 : Nat} {pt : Pos} (a e it : Addr) (hne : e ≠ it) :
    Turn P w K (.Tuple elts x1 pt) (Ite K a) [e, it] e (fun i h => (∃ old, IsEnum h e it ((i : Nat) : Int) old) ∧ h.IsListIter it a i) where
  mem := by simp
  obj := fun i h st b hb => by
    obtain ⟨⟨old, he⟩, o, ho, c, d⟩ := st
    rcases List.mem_cons.mp hb with z | z
    · rw [z]; exact ⟨_, he, fun v z => by cases z⟩
    · have z' : b = it := by simpa using z
      rw [z']; exact ⟨o, ho, fun v z => by rw [d] at z; cases z⟩
  keep := fun i h h' st k => ⟨let ⟨old, he⟩ := st.1; ⟨old, k e (by simp) _ he⟩, st.2.at fun o q => k it (by simp) o q⟩
  item := by
    intro X hP hw hK hc i pins s σ H E I hf st hg
    subst hP hw hK
    obtain ⟨xs, x, hq, hx⟩ := hg
    obtain ⟨its, rv, p, hz⟩ := I.list hq
    obtain ⟨u, hu, ru⟩ := rv.get hx
    obtain ⟨⟨old, he⟩, hit⟩ := st
    have fe := hf e (by simp)
    have fi := hf it (by simp)
    have hes : e < s.heap.objs.size := Heap.lt_size he
    have his : it < s.heap.objs.size := by obtain ⟨o, q, _⟩ := hit; exact Heap.lt_size q
    refine wpAny_pyNext_enum_item he hit p.isList (x := u) (by simpa using hu) hne fun h1 ho1 hit1 ht1 hz1 hk1 => ?_
    refine ⟨_, rfl, wpAny_letOwnedTupleGo_enum (s := { s with heap := h1, toks := s.toks + 1 }) ho1 fun h2 he2 hs2 => ?_⟩
    replace hs2 : Heap.SameBut e h1 h2 := hs2
    have hn : H s.heap.objs.size = none := I.hok.fresh (Nat.le_refl _)
    have I2 : Inv X pins σ (upd H s.heap.objs.size (.tup [.int ((i : Nat) : Int), x])) { s with heap := h2, toks := s.toks + 1 } := by
      refine inv_turn2_laid I (fun b v hb hb' q => hs2.extBut b v hb (hk1 b v hb hb' q)) fe fi (Nat.le_refl _) ?_
      refine ⟨by show 2 ≤ sizeLine; decide, [.int ((i : Nat) : Int) s.toks, u], .cons ⟨_, rfl⟩ (.cons ru .nil), ⟨_, hs2.extBut _ _ (Nat.ne_of_gt hes) ht1, rfl, _, rfl⟩⟩
    refine ⟨.ref s.heap.objs.size, _, I2, rfl, ⟨_, x, rfl, hn, rfl, fun ys hy => by rw [I.list_inj hy hq]; exact hx⟩, ⟨⟨u, ?_⟩, hit1.extBut hs2.extBut (Ne.symm hne)⟩, fun b hb => ?_⟩
    · have e1 : (((i + 1 : Nat)) : Int) = (i : Int) + 1 := by omega
      show IsEnum h2 e it (((i + 1 : Nat)) : Int) u
      rw [e1]; exact he2
    · rcases List.mem_cons.mp hb with z | z
      · rw [z, upd_ne (Nat.ne_of_lt hes)]; exact fe.1
      · have z' : b = it := by simpa using z
        rw [z', upd_ne (Nat.ne_of_lt his)]; exact fi.1
  done := by
    intro X hP hw hK hc i pins s σ H E I hf st hg
    subst hP hw hK
    obtain ⟨xs, hq, hx⟩ := hg
    obtain ⟨its, rv, p, hz⟩ := I.list hq
    obtain ⟨⟨old, he⟩, hit⟩ := st
    have hl := rv.length
    exact wpAny_pyNext_enum_end (I.ok.hd hc) he hit p.isList (by simp; omega) fun h' hx' => ⟨rfl, inv_turn2 (t' := s.toks) I (fun b o _ hb' q => hx' b o hb' q) (hf e (by simp)) (hf it (by simp))⟩
  self := fun A i s Q E st h => let ⟨_, he⟩ := st.1; wpAny_pyIter_enum he h
theorem pi_enum {X : Cx} {elts : List Expr} {x1 : Nat} {pt : Pos} {l : Expr} {ta : TA} {p pos : Pos} (hg : Gl X "enumerate") (hm : X.mg "enumerate" = none) (ha : PA X [l] ta) (hs : starEach [l] X.env = [(false, eval l X.env)] := by rfl) :
    PI X (.Tuple elts x1 pt) (.Call (.Name "enumerate" p) [l] [] pos) (iEnum X.K ta) := by
  intro pins s σ H R I h
  refine Call_ (ld_blt I hg hm boot_enumerate (PyProof.Rows.callWith_type1 (thn (ha pos pins s σ H _ I h) fun us s1 ⟨vs, H1, I1, r1, q1⟩ => ?_) hs rfl))
  obtain ⟨a, e, ⟨xs, hq⟩, q⟩ := q1
  subst e
  cases r1 with
  | cons r rr =>
    cases rr
    obtain rfl : _ = Value.ref a := r
    obtain ⟨its, rv, pl, hz⟩ := I1.list hq
    refine call_enumerate_list pl.isList fun h' he hit hsz hk => ?_
    have I2 : Inv X pins σ H1 { s1 with heap := h' } := I1.kept (t' := s1.toks) hk
    refine wpAny_pyIter_enum (s := { s1 with heap := h' }) he ?_
    have hf : ∀ b, s1.heap.objs.size ≤ b → FpOk X pins H1 b := fun b hb => I1.fpOk hb (I1.hok.fresh hb)
    refine ⟨_, [s1.heap.objs.size + 1, s1.heap.objs.size], _, _, H1, rfl, I2, turn_enum a _ _ (Nat.succ_ne_self _), ⟨⟨_, he⟩, hit⟩, fun b hb => ?_, q⟩
    rcases List.mem_cons.mp hb with z | z
    · rw [z]; exact hf _ (Nat.le_succ _)
    · have z' : b = s1.heap.objs.size := by simpa using z
      rw [z']; exact hf _ (Nat.le_refl _)
end G
namespace G
open PySem L2 PySem.Spec PyProof.Rows
theorem fp_upd {X : Cx} {pins : List (Addr × Obj)} {H : Hp} {a b : Addr} {o : HO} (f : FpOk X pins H b) (h : b ≠ a) : FpOk X pins (upd H a o) b := ⟨(upd_ne h).trans f.1, f.2⟩
theorem frz_dict {X : Cx} {pins : List (Addr × Obj)} {σ : L2.St} {H : Hp} {s : Shared} {a : Addr} {o : Obj} {kvs : List (Key × V)} (I : Inv X pins σ H s) (h : H a = some (.dK kvs)) (ho : s.heap.get? a = some o) : Inv X pins σ (upd H a (.frz o (.dK kvs))) s := by
  have ne : ∀ b u, H b = some u → u ≠ .dK kvs → b ≠ a := fun b u q n z => n (by rw [z, h] at q; exact (Option.some.inj q).symm)
  have r : Inv X pins σ (upd H a (.frz o (.dK kvs))) { s with heap := s.heap, gens := s.gens, drawn := s.drawn, toks := s.toks } := by
    refine I.step (g' := s.gens) (t' := s.toks) (d' := s.drawn) (ch := []) (fun b hb => nomatch hb) (fun b u _ _ _ q _ => q) (fun b u _ _ _ q _ => ⟨u.slots, q⟩) (fun b u hc q n => (upd_ne (fun z => by rw [z, h] at n; cases n)).trans n) (fun b u _ q => ⟨u, q⟩)
      (fun b xs q => (upd_ne (ne b _ q (fun z => by cases z))).trans q) (fun b u xs q => (upd_ne (ne b _ q (fun z => by cases z))).trans q) (fun b ps q => ⟨#[], by rw [upd_ne (ne b _ q (fun z => by cases z)), q]; simp⟩) (fun m hm => hm) (fun b u q => ?_) I.bare
    have hs : ∀ c u, H c = some u → u ≠ .dK kvs → upd H a (.frz o (.dK kvs)) c = some u := fun c u z n => by rw [upd_ne (ne c u z n)]; exact z
    by_cases hb : b = a
    · subst hb; rw [upd_same] at q; cases q
      exact ⟨ho, (I.hok b _ h).stay (fun c v _ z => z) (fun c z => hs c _ z (fun y => by cases y)) fun c xs z => hs c _ z (fun y => by cases y)⟩
    · rw [upd_ne hb] at q
      exact (I.hok b u q).stay (fun c v _ z => z) (fun c z => hs c _ z (fun y => by cases y)) fun c xs z => hs c _ z (fun y => by cases y)
  exact r
def keyN : Option Key → Value → Bool
  | none, .none => true
  | none, _ => false
  | some k, v => keyIs k v
theorem keyN_shape {k : Option Key} {v : Value} (h : keyN k v = true) : (k = none ∧ v = .none) ∨ ∃ j, k = some j ∧ keyIs j v = true := by
  cases k with
  | none => cases v <;> first | exact .inl ⟨rfl, rfl⟩ | cases h
  | some j => exact .inr ⟨j, rfl, h⟩
theorem keyIs_none {j : Key} (h : keyIs j Value.none = true) : False := by
  rcases keyIs_shape h with ⟨i, t, _, e⟩ | ⟨x, t, _, e⟩ <;> cases e
def mixN (P : Program) (w : World) : PySem.KeyKind P w (Option Key) where
  is := keyN
  hash := fun k => match k with | none => reduceHash 0xFCA86420 | some k => keyH w k
  inj := fun v a b ha hb => by
    rcases keyN_shape ha with ⟨rfl, rfl⟩ | ⟨i, rfl, h1⟩
    · rcases keyN_shape hb with ⟨rfl, _⟩ | ⟨j, rfl, h2⟩
      · rfl
      · exact (keyIs_none h2).elim
    · rcases keyN_shape hb with ⟨rfl, rfl⟩ | ⟨j, rfl, h2⟩
      · exact (keyIs_none h1).elim
      · rw [(mixKind P w).inj v i j h1 h2]
  byValue := fun k v h => by
    rcases keyN_shape h with ⟨rfl, rfl⟩ | ⟨i, rfl, h1⟩
    · rfl
    · exact (mixKind P w).byValue i v h1
  pyHash := fun {A E s k v Q} hv h => by
    rcases keyN_shape hv with ⟨rfl, rfl⟩ | ⟨i, rfl, h1⟩
    · exact PySem.W.pyHash_slot (T := "NoneType") rfl F.slot_NoneType_hash F.entry_NoneType_hash (F.args_NoneType_hash_1 _) (beq_builtin_none _) (.inl rfl) (wpAny_bind (wpAny_pure (wpAny_bind (wpAny_mkInt (wpAny_pure ⟨_, _, rfl, h⟩)))))
    · exact (mixKind P w).pyHash h1 h
  eqBool := fun {A E s a b u v Q} hu hv h => by
    rcases keyN_shape hu with ⟨rfl, rfl⟩ | ⟨i, rfl, h1⟩
    · rcases keyN_shape hv with ⟨rfl, rfl⟩ | ⟨j, rfl, h2⟩
      · exact eqAt_V (A := A) (s := s) (y := .non) (x := .non) rfl rfl rfl rfl P w E Q h
      · rcases keyIs_shape h2 with ⟨n, t, rfl, rfl⟩ | ⟨x, t, rfl, rfl⟩
        · exact eqAt_V (A := A) (s := s) (y := .non) (x := .int n) rfl ⟨t, rfl⟩ rfl rfl P w E Q h
        · exact eqAt_V (A := A) (s := s) (y := .non) (x := .str x) rfl ⟨t, rfl⟩ rfl rfl P w E Q h
    · rcases keyN_shape hv with ⟨rfl, rfl⟩ | ⟨j, rfl, h2⟩
      · rcases keyIs_shape h1 with ⟨n, t, rfl, rfl⟩ | ⟨x, t, rfl, rfl⟩
        · exact eqAt_V (A := A) (s := s) (y := .int n) (x := .non) ⟨t, rfl⟩ rfl rfl rfl P w E Q h
        · exact eqAt_V (A := A) (s := s) (y := .str x) (x := .non) ⟨t, rfl⟩ rfl rfl rfl P w E Q h
      · refine (mixKind P w).eqBool h1 h2 ?_
        have e : decide (i = j) = decide (some i = some j) := by
          by_cases z : i = j
          · subst z; simp
          · rw [decide_eq_false z, decide_eq_false (fun y => z (Option.some.inj y))]
        rw [e]; exact h
  «strs» := fun k x t v h => by
    rcases keyN_shape h with ⟨_, e⟩ | ⟨i, rfl, h1⟩
    · cases e
    · exact (mixKind P w).strs i x t v h1
section
variable {X : Cx} {i o : Expr} {ty td : TE}
end
end G
namespace G
open PySem L2 PySem.Spec PyProof.Rows
section
variable {X : Cx}
end
end G
namespace G
open PySem L2 PySem.Spec PyProof.Rows
def cListD : List V → Hp → VK → Prop := fun xs H Q => ∃ (a : Addr) (kvs : List (Key × V)), xs = [.ref a] ∧ Rd H a (.dK kvs) ∧ ∀ l, H l = none → Q (.ref l) (upd H l (.lst (kvs.map fun p => kV p.1)))
end G
namespace G
open PySem L2 PySem.Spec PyProof.Rows
def tTry4 (M1 M2 M3 M4 : Value → Prop) (tb : (L2.St → XK) → TS) (t1 t2 t3 t4 : TS) : TS := fun D σ H => tb (fun σ' cls _ H' => (M1 cls ∧ t1 D σ' H') ∨ (M2 cls ∧ t2 D σ' H') ∨ (M3 cls ∧ t3 D σ' H') ∨ (M4 cls ∧ t4 D σ' H')) D σ H
section
variable {X : Cx} {x1 x2 x3 x4 : Str} {C1 C2 C3 C4 : Addr} {pos np1 np2 np3 np4 hp1 hp2 hp3 hp4 : Pos} {body su1 su2 su3 su4 : List Stmt} {b1 b2 b3 b4 : Stmt} {M1 M2 M3 M4 : Value → Prop} {tb : (L2.St → XK) → TS} {t1 t2 t3 t4 : TS}
end
end G
namespace G
open PySem L2 PySem.Spec PyProof.Rows
def tDUpd (td ty : TE) : TE := fun σ H Q => td σ H fun x H1 => ∃ a, x = .ref a ∧ IsD H1 a ∧ ty σ H1 fun y H2 => ∃ b kvs more, y = .ref b ∧ a ≠ b ∧ H2 a = some (.dK kvs) ∧ H2 b = some (.dK more) ∧ kvs.length + more.length ≤ 1000 ∧ Q .non (upd H2 a (.dK (mergeK kvs more)))
end G
namespace G
open PySem L2
def rInT : R2 := fun x y H Q => ∃ i j, x = .str i ∧ y = .str j ∧ Q (.bl (!(Builtin.Str.occurrences j i 0 j.length 1).isEmpty)) H
end G
namespace G
open PySem L2 PySem.Spec PyProof.Rows
def valsO (v d : Addr) : HO := .ext fun h => h.IsValuesView v d
def tVals (td : TE) : TE := fun σ H Q => td σ H fun x H1 => ∃ a kvs, x = .ref a ∧ Rd H1 a (.dK kvs) ∧ ∀ v, H1 v = none → Q (.ref v) (upd H1 v (valsO v a))
theorem i_vals {td : TE} {σ : L2.St} {H : Hp} {Q : VK} (h : td σ H fun x H1 => ∃ a kvs, x = .ref a ∧ Rd H1 a (.dK kvs) ∧ ∀ v, H1 v = none → Q (.ref v) (upd H1 v (valsO v a))) : tVals td σ H Q := h
theorem pe_values {X : Cx} {o : Expr} {td : TE} {apos cpos : Pos} (ho : PE X o td) (hbase : attributeBase o "values" X.env (eval o X.env) = eval o X.env := by rfl) (hline : (apos.endLine == cpos.line) = true := by rfl) :
    PE X (.Call (.Attribute o "values" apos) [] [] cpos) (tVals td) := by
  intro pins s σ H Q I h
  refine wpAny_Call_method0_late hbase hline (thn (ho pins s σ H _ I h) fun u s1 ⟨x, H1, I1, rx, a, kvs, ex, rd, q⟩ => ?_)
  subst ex
  obtain rfl : u = Value.ref a := rx
  obtain ⟨t1, t2, hd⟩ := isD_at I1 (.inl ⟨kvs, rd⟩)
  obtain ⟨z, _, vs, rel, dd⟩ := dk_rd I1.hok rd
  refine ⟨"dict", "dict.values", PySem.F.plainAttrs_dict, PySem.F.slot_dict_values, PySem.F.type_dict_values, t1, t2, Calls.callWith_builtin rfl (PySem.evalArgs_none ?_)⟩
  refine call_meetsIn PySem.F.slot_dict_values t1 PySem.F.entry_dict_values (PySem.F.args_dict_values_1 _) (meets_dict_values (mixKind X.prog X.w) a hd) ⟨⟨vs, dd⟩, ?_⟩
  have hn := I1.hok.fresh (Nat.le_refl _)
  refine ⟨.ref s1.heap.objs.size, _, I1.laid (t' := s1.toks) (fun b u e => Heap.get?_push_of_some _ e) (Nat.le_refl _) ?_, rfl, q _ hn⟩
  exact ⟨⟨_, Heap.get?_push_size _ rfl, rfl, rfl⟩, ⟨_, Heap.get?_push_size _ rfl⟩, fun h1 h2 ⟨o, ho, r⟩ k => ⟨o, k o ho, r⟩⟩
def Itv (a : Addr) (o : Obj) (kvs : List (Key × V)) : It :=
  ⟨fun i H => H a = some (.frz o (.dK kvs)) ∧ i < kvs.length, fun i H x H' => H' = H ∧ ∃ kv, kvs[i]? = some kv ∧ x = kv.2, fun i H => H a = some (.frz o (.dK kvs)) ∧ kvs.length ≤ i⟩
def iVals (te : TE) : TI := fun σ H R => te σ H fun x H1 => ∃ v a kvs, x = .ref v ∧ H1 v = some (valsO v a) ∧ H1 a = some (.dK kvs) ∧ ∀ o, R (Itv a o kvs) (upd H1 a (.frz o (.dK kvs)))
theorem i_iV {te : TE} {σ : L2.St} {H : Hp} {R : It → Hp → Prop} (h : te σ H fun x H1 => ∃ v a kvs, x = .ref v ∧ H1 v = some (valsO v a) ∧ H1 a = some (.dK kvs) ∧ ∀ o, R (Itv a o kvs) (upd H1 a (.frz o (.dK kvs)))) : iVals te σ H R := h
theorem paired_at {α β : Type} {R : α → β → Prop} : ∀ {xs : List α} {ys : List β}, Paired R xs ys → ∀ (i : Nat) x y, xs[i]? = some x → ys[i]? = some y → R x y
  | _, _, .nil, _, _, _, h, _ => by simp at h
  | _, _, .cons r rs, 0, _, _, h1, h2 => by
    cases h1
    cases h2
    exact r
  | _, _, .cons r rs, i + 1, _, _, h1, h2 => paired_at rs i _ _ (by simpa using h1) (by simpa using h2)
theorem turn_vals {P : Program} {w : World} {K : PySem.W.Frag} {tg : Expr} (a it : Addr) (o : Obj) (kvs : List (Key × V)) (ep : Nat) (hep : ∃ es, o.data = .dict es ep) : Turn P w K tg (Itv a o kvs) [it] it (fun i h => h.IsValIter it a i kvs.length ep) where
  mem := by simp
  obj := fun i h st b hb => by
    have e : b = it := by simpa using hb
    subst e
    obtain ⟨o, e, c, d⟩ := st
    exact ⟨o, e, fun v z => by rw [d] at z; cases z⟩
  keep := fun i h h' st k => by
    obtain ⟨o, e, r⟩ := st
    exact ⟨o, k it (by simp) o e, r⟩
  item := by
    intro X hP hw hK hc i pins s σ H E I hf st hg
    subst hP hw hK
    obtain ⟨hz, hi⟩ := hg
    obtain ⟨ho, z, hd, vs, rel, dd⟩ : s.heap.get? a = some o ∧ kvs.length ≤ sizeLine ∧ (a == sysModules) = false ∧ ∃ vs, KV kvs vs ∧ s.heap.DictOf (mixKind X.prog X.w) a vs := I.hok a _ hz
    obtain ⟨ep', hm⟩ := dd.dictAt
    obtain ⟨es, hes⟩ := hep
    have he : ep' = ep := by
      obtain ⟨o', es', ho', _, hd', _⟩ := id hm
      rw [ho] at ho'; cases ho'
      rw [hes] at hd'; injection hd' with _ e; exact e.symm
    subst he
    have hl := rel.length
    have hv : vs[i]? = some vs[i] := List.getElem?_eq_getElem (by omega)
    have hv2 : kvs[i]? = some kvs[i] := List.getElem?_eq_getElem hi
    have hk : RelV kvs[i].2 vs[i].2 := (paired_at rel i _ _ hv2 hv).2
    obtain ⟨f0, f1, f2, f3, f4, f5⟩ := hf it (by simp)
    rw [hl] at st
    refine wpAny_pyNext_values_item st hm (k := vs[i].1) (v := vs[i].2) (by rw [hv]) fun h' st' sb => ?_
    have I1 : Inv X pins σ H { s with heap := h' } := I.turned (t' := s.toks) (fun b o hb e => (sb.2 b hb).trans e) f0 f1 f3 f4 f5
    obtain ⟨oi, e, c, d⟩ := id st'
    exact ⟨_, rfl, go_of (s := { s with heap := h' }) e c d (by decide) ⟨kvs[i].2, H, I1, hk, ⟨rfl, _, hv2, rfl⟩, by rw [hl]; exact st', fun b hb => (hf b hb).1⟩⟩
  done := by
    intro X hP hw hK hc i pins s σ H E I hf st hg
    subst hP hw hK
    obtain ⟨hz, hi⟩ := hg
    obtain ⟨ho, z, hd, vs, rel, dd⟩ : s.heap.get? a = some o ∧ kvs.length ≤ sizeLine ∧ (a == sysModules) = false ∧ ∃ vs, KV kvs vs ∧ s.heap.DictOf (mixKind X.prog X.w) a vs := I.hok a _ hz
    obtain ⟨ep', hm⟩ := dd.dictAt
    obtain ⟨es, hes⟩ := hep
    have he : ep' = ep := by
      obtain ⟨o', es', ho', _, hd', _⟩ := id hm
      rw [ho] at ho'; cases ho'
      rw [hes] at hd'; injection hd' with _ e; exact e.symm
    subst he
    have hl := rel.length
    obtain ⟨f0, f1, f2, f3, f4, f5⟩ := hf it (by simp)
    rw [hl] at st
    exact wpAny_pyNext_values_end (I.ok.hd hc) st hm (by rw [List.getElem?_eq_none]; omega) fun h' eb => ⟨rfl, I.turned (t' := s.toks) (fun b o hb e => eb b o hb e) f0 f1 f3 f4 f5⟩
  self := fun _ _ _ _ _ st h => wpAny_pyIter_valiter st h
theorem pi_vals {X : Cx} {tg : Expr} {e : Expr} {te : TE} (he : PE X e te) : PI X tg e (iVals te) := by
  intro pins s σ H R I h
  refine thn (he pins s σ H _ I h) fun u s1 ⟨x, H1, I1, r1, q1⟩ => ?_
  obtain ⟨v, a, kvs, e, hv, hq, q⟩ := q1
  subst e
  obtain rfl : u = Value.ref v := r1
  have hview : s1.heap.IsValuesView v a := (I1.hok v _ hv).1
  obtain ⟨z, hs, vs, rel, dd⟩ := dk_of I1.hok hq
  obtain ⟨ep, hm⟩ := dd.dictAt
  obtain ⟨o, es, ho, _, hes, _⟩ := id hm
  refine wpAny_pyIter_values hview hm ?_
  have I2 := frz_dict I1 hq ho
  have hne : s1.heap.objs.size ≠ a := Nat.ne_of_gt (Heap.lt_size ho)
  refine ⟨s1.heap.objs.size, [s1.heap.objs.size], _, _, _, rfl, I2.kept (t' := s1.toks) fun b o e => Heap.get?_push_of_some _ e, turn_vals a _ o kvs ep ⟨es, hes⟩, ?_, fun b hb => ?_, q o⟩
  · rw [rel.length]
    exact ⟨_, Heap.get?_push_size _ rfl, rfl, rfl⟩
  · have e : b = s1.heap.objs.size := by simpa using hb
    subst e
    exact fp_upd (I1.fpOk (Nat.le_refl _) (I1.hok.fresh (Nat.le_refl _))) hne
theorem thaw_dict {X : Cx} {pins : List (Addr × Obj)} {σ : L2.St} {H : Hp} {s : Shared} {a : Addr} {o : Obj} {kvs : List (Key × V)} (I : Inv X pins σ H s) (h : H a = some (.frz o (.dK kvs))) (hn : ∀ o' u, X.H₀ a ≠ some (.frz o' u)) : Inv X pins σ (upd H a (.dK kvs)) s := by
  have ne : ∀ b u, H b = some u → u ≠ .frz o (.dK kvs) → b ≠ a := fun b u q n z => n (by rw [z, h] at q; exact (Option.some.inj q).symm)
  have n0 : ∀ b, H b = none → upd H a (.dK kvs) b = none := fun b q => (upd_ne (fun z => by rw [z, h] at q; cases q)).trans q
  have hs : ∀ c u, H c = some u → u ≠ .frz o (.dK kvs) → upd H a (.dK kvs) c = some u := fun c u z n => by rw [upd_ne (ne c u z n)]; exact z
  obtain ⟨i1, i2, i3, i4, i5, i6, i7, i8, i9, i10, i11⟩ := I
  refine ⟨i1, i2, i3, ⟨i4.keep, i4.slot, fun b ob e n hx => n0 b (i4.free b ob e n hx), i4.there, fun b xs e => hs b _ (i4.tups b xs e) (fun z => by cases z), fun b ob u e => (upd_ne (a := a) (b := b) (fun z => hn ob u (by rw [← z]; exact e))).trans (i4.frzs b ob u e), fun b ps e => ?_⟩, i5, i6, n0 _ i7, fun x c e => n0 _ (i8 x c e), fun p hp => ?_, fun b u q => ?_, i11⟩
  · obtain ⟨more, q⟩ := i4.tbls b ps e
    exact ⟨more, hs b _ q (fun z => by cases z)⟩
  · obtain ⟨p1, p2, p3⟩ := i9 p hp
    exact ⟨p1, n0 _ p2, p3⟩
  · by_cases hb : b = a
    · subst hb; rw [upd_same] at q; cases q
      exact (i10 b _ h).2.stay (fun c v _ z => z) (fun c z => hs c _ z (fun y => by cases y)) fun c xs z => hs c _ z (fun y => by cases y)
    · rw [upd_ne hb] at q
      exact (i10 b u q).stay (fun c v _ z => z) (fun c z => hs c _ z (fun y => by cases y)) fun c xs z => hs c _ z (fun y => by cases y)
def tThaw (H0 : Hp) (te : TE) : TE := fun σ H Q => te σ H fun x H1 => ∃ a o kvs, H1 a = some (.frz o (.dK kvs)) ∧ (∀ o' u, H0 a ≠ some (.frz o' u)) ∧ Q x (upd H1 a (.dK kvs))
theorem i_thaw {H0 : Hp} {te : TE} {σ : L2.St} {H : Hp} {Q : VK} (h : te σ H fun x H1 => ∃ a o kvs, H1 a = some (.frz o (.dK kvs)) ∧ (∀ o' u, H0 a ≠ some (.frz o' u)) ∧ Q x (upd H1 a (.dK kvs))) : tThaw H0 te σ H Q := h
theorem pe_thaw {X : Cx} {e : Expr} {te : TE} (he : PE X e te) : PE X e (tThaw X.H₀ te) := by
  intro pins s σ H Q I h
  refine thn (he pins s σ H _ I h) fun u s1 ⟨x, H1, I1, r1, a, o, kvs, ha, hn, q⟩ => ?_
  exact ⟨x, _, thaw_dict I1 ha hn, r1, q⟩
end G
local macro_rules | `(tactic| walk_at "g2") => `(tactic| with_reducible first | refine G.i_next ?_ | refine G.i_drop ?_ | refine G.i_ret ?_ | refine G.i_if ?_ | refine G.i_asg ?_ | refine G.i_C ?_ | refine G.i_op ?_ | refine G.i_B ?_ | refine G.i_test ?_ | refine G.i_tB ?_ | refine G.i_and ?_ | refine G.i_or ?_ | refine G.i_not ?_ | refine G.i_andV ?_ | refine G.i_orV ?_ | refine G.i_notV ?_ | refine G.i_I0 ?_ | refine G.i_eqI ?_ | refine G.i_eqS ?_ | refine G.i_neI ?_ | refine G.i_neS ?_ | refine G.i_isN0 ?_ | refine G.i_isN1 ?_ | refine G.i_isN2 ?_ | refine G.i_isN3 ?_ | refine G.i_isN4 ?_ | refine G.i_iteT ?_ | refine G.i_iteF ?_ | refine G.i_iteNT ?_ | refine G.i_iteNF ?_ | refine G.i_nil ?_ | refine G.i_cons ?_ | refine G.i_lst ?_ | refine G.i_tup ?_ | refine G.i_call ?_ | refine G.i_CB ?_ | refine G.i_make ?_ | refine G.i_fld ?_ | refine G.i_sfld ?_ | refine G.i_meth ?_ | refine G.i_noPart ?_ | refine G.i_part ?_ | refine G.i_kI ?_ | refine G.i_sl ?_ | refine G.i_bm ?_ | refine G.i_for ?_ | refine G.i_iL ?_ | refine G.i_iR ?_ | refine G.i_v0 ?_ | refine G.i_v1 ?_ | refine G.i_v2 ?_ | refine G.i_v3 ?_ | refine G.i_v4 ?_ | refine G.i_v5 ?_ | refine G.i_v6 ?_ | refine G.i_v7 ?_ | refine G.i_v8 ?_ | refine G.i_v9 ?_ | refine G.i_v10 ?_ | refine G.i_v11 ?_ | refine G.i_v12 ?_ | refine G.i_v13 ?_ | refine G.i_g1 ?_ | refine G.i_g2 ?_ | refine G.i_g3 ?_ | refine G.i_g4 ?_ | refine G.i_g5 ?_ | refine G.i_g6 ?_ | refine G.i_g7 ?_ | refine G.i_g8 ?_ | refine G.i_g9 ?_ | refine G.i_g10 ?_ | refine G.i_g11 ?_ | refine G.i_g12 ?_ | refine G.i_g13 ?_ | refine G.i_true ?_ | refine G.i_raise ?_ | refine G.i_gsub ?_ | refine G.i_isB ?_ | refine G.i_make0 ?_ | refine G.i_dput ?_ | refine G.i_lcg2 ?_ | refine G.i_try2 ?_ | refine G.i_isiI_int ?_ | refine G.i_isiI_bool ?_ | refine G.i_isiS_int ?_ | refine G.i_isiS_str ?_ | refine G.i_vals ?_ | refine G.i_iV ?_ | refine G.i_thaw ?_ | refine G.i_iE ?_)
local macro_rules | `(tactic| walk_at "g1") => `(tactic| first | (with_reducible refine G.i_seq ?_) | walk_at "g2")
local macro_rules | `(tactic| walk_at "ne") => `(tactic| first | assumption | (exact Ne.symm (by assumption)) | exact L2.ne_of_none (by assumption) (by assumption) | exact Ne.symm (L2.ne_of_none (by assumption) (by assumption)) | exact Nat.ne_of_lt (by assumption))
local macro_rules | `(tactic| walk_at "hp") => `(tactic| first | assumption | exact L2.upd_same | (refine Eq.trans (L2.upd_ne ?hne) ?_; (case hne => walk_at "ne"); walk_at "hp"))
local macro_rules | `(tactic| walk_at "side") => `(tactic| first | omega | decide | (show (_ : Int) < _; decide) | exact ⟨by decide, by decide⟩ | exact ⟨by decide, by decide, by decide⟩ | (unfold L2.CMul; omega) | exact .inl (by unfold L2.CMul; omega))
local macro_rules | `(tactic| walk_at "ev") => `(tactic| repeat (first | walk_at "g1" | ((with_reducible refine G.i_I ?hc ?_); (case hc => walk_at "side"))))
local macro_rules | `(tactic| walk_at "es") => `(tactic| repeat (first | walk_at "g2" | ((with_reducible refine G.i_I ?hc ?_); (case hc => walk_at "side"))))
local macro_rules | `(tactic| walk_at "caps") => `(tactic| simp only [List.map_cons, List.map_nil, G.pick, List.getElem?_cons_zero, List.getElem?_cons_succ])
namespace K15
open PySem L2 G
def cellF (birth : Int) (bulk : Int) (tone : Int) (load : Int) (fa : Addr) : List (Str × V) := [("birth", .int birth), ("bulk", .int bulk), ("tone", .int tone), ("load", .int load), ("fields", .ref fa)]
theorem cellF_lk_birth {birth : Int} {bulk : Int} {tone : Int} {load : Int} {fa : Addr} : List.lookup ("birth" : Str) (cellF birth bulk tone load fa) = some (.int birth : V) := rfl
theorem cellF_lk_bulk {birth : Int} {bulk : Int} {tone : Int} {load : Int} {fa : Addr} : List.lookup ("bulk" : Str) (cellF birth bulk tone load fa) = some (.int bulk : V) := rfl
theorem cellF_lk_tone {birth : Int} {bulk : Int} {tone : Int} {load : Int} {fa : Addr} : List.lookup ("tone" : Str) (cellF birth bulk tone load fa) = some (.int tone : V) := rfl
theorem cellF_lk_fields {birth : Int} {bulk : Int} {tone : Int} {load : Int} {fa : Addr} : List.lookup ("fields" : Str) (cellF birth bulk tone load fa) = some (.ref fa : V) := rfl
theorem cellF_ne {a b : Str} (h : (a == b) = false) : ¬ b = a := fun e => by rw [e, beq_self_eq_true] at h; cases h
theorem cellF_put_tone {birth : Int} {bulk : Int} {tone : Int} {load : Int} {fa : Addr} (y : Int) : putF "tone" (.int y) (cellF birth bulk tone load fa) = cellF birth bulk y load fa := rfl
theorem cellF_mk {birth : Int} {bulk : Int} {tone : Int} {load : Int} {fa : Addr} : (putF "fields" (.ref fa) (putF "load" (.int load) (putF "tone" (.int tone) (putF "bulk" (.int bulk) (putF "birth" (.int birth) []))))) = cellF birth bulk tone load fa := rfl
theorem cellF_no_units {birth : Int} {bulk : Int} {tone : Int} {load : Int} {fa : Addr} : List.lookup ("units" : Str) (cellF birth bulk tone load fa) = none := rfl
def heapF (room : Int) (ca : Addr) (used : Int) (born : Int) : List (Str × V) := [("room", .int room), ("cells", .ref ca), ("used", .int used), ("born", .int born)]
theorem heapF_lk_room {room : Int} {ca : Addr} {used : Int} {born : Int} : List.lookup ("room" : Str) (heapF room ca used born) = some (.int room : V) := rfl
theorem heapF_lk_cells {room : Int} {ca : Addr} {used : Int} {born : Int} : List.lookup ("cells" : Str) (heapF room ca used born) = some (.ref ca : V) := rfl
theorem heapF_lk_used {room : Int} {ca : Addr} {used : Int} {born : Int} : List.lookup ("used" : Str) (heapF room ca used born) = some (.int used : V) := rfl
theorem heapF_lk_born {room : Int} {ca : Addr} {used : Int} {born : Int} : List.lookup ("born" : Str) (heapF room ca used born) = some (.int born : V) := rfl
theorem heapF_ne {a b : Str} (h : (a == b) = false) : ¬ b = a := fun e => by rw [e, beq_self_eq_true] at h; cases h
theorem heapF_put_used {room : Int} {ca : Addr} {used : Int} {born : Int} (y : Int) : putF "used" (.int y) (heapF room ca used born) = heapF room ca y born := rfl
theorem heapF_put_born {room : Int} {ca : Addr} {used : Int} {born : Int} (y : Int) : putF "born" (.int y) (heapF room ca used born) = heapF room ca used y := rfl
theorem heapF_mk {room : Int} {ca : Addr} {used : Int} {born : Int} : (putF "born" (.int born) (putF "used" (.int used) (putF "cells" (.ref ca) (putF "room" (.int room) [])))) = heapF room ca used born := rfl
theorem heapF_no_make {room : Int} {ca : Addr} {used : Int} {born : Int} : List.lookup ("make" : Str) (heapF room ca used born) = none := rfl
theorem heapF_no_lay {room : Int} {ca : Addr} {used : Int} {born : Int} : List.lookup ("lay" : Str) (heapF room ca used born) = none := rfl
theorem heapF_no_back {room : Int} {ca : Addr} {used : Int} {born : Int} : List.lookup ("back" : Str) (heapF room ca used born) = none := rfl
theorem heapF_no_free {room : Int} {ca : Addr} {used : Int} {born : Int} : List.lookup ("free" : Str) (heapF room ca used born) = none := rfl
def kindF (lk : Addr) (tl : Int) : List (Str × V) := [("looking", .ref lk), ("tells", .int tl)]
theorem kindF_lk_looking {lk : Addr} {tl : Int} : List.lookup ("looking" : Str) (kindF lk tl) = some (.ref lk : V) := rfl
theorem kindF_lk_tells {lk : Addr} {tl : Int} : List.lookup ("tells" : Str) (kindF lk tl) = some (.int tl : V) := rfl
theorem kindF_ne {a b : Str} (h : (a == b) = false) : ¬ b = a := fun e => by rw [e, beq_self_eq_true] at h; cases h
theorem kindF_mk {lk : Addr} {tl : Int} : (putF "tells" (.int tl) (putF "looking" (.ref lk) [])) = kindF lk tl := rfl
theorem kindF_no_words {lk : Addr} {tl : Int} : List.lookup ("words" : Str) (kindF lk tl) = none := rfl
def handF (nm : Str) (sa : Addr) : List (Str × V) := [("name", .str nm), ("slots", .ref sa)]
theorem handF_lk_slots {nm : Str} {sa : Addr} : List.lookup ("slots" : Str) (handF nm sa) = some (.ref sa : V) := rfl
theorem handF_ne {a b : Str} (h : (a == b) = false) : ¬ b = a := fun e => by rw [e, beq_self_eq_true] at h; cases h
theorem handF_mk {nm : Str} {sa : Addr} : (putF "slots" (.ref sa) (putF "name" (.str nm) [])) = handF nm sa := rfl
def worldF (hp : Addr) (ki : Addr) (hl : Addr) (nm : Addr) (sw : Addr) : List (Str × V) := [("heap", .ref hp), ("kind", .ref ki), ("hands", .ref hl), ("names", .ref nm), ("sweeper", .ref sw)]
theorem worldF_lk_heap {hp : Addr} {ki : Addr} {hl : Addr} {nm : Addr} {sw : Addr} : List.lookup ("heap" : Str) (worldF hp ki hl nm sw) = some (.ref hp : V) := rfl
theorem worldF_lk_kind {hp : Addr} {ki : Addr} {hl : Addr} {nm : Addr} {sw : Addr} : List.lookup ("kind" : Str) (worldF hp ki hl nm sw) = some (.ref ki : V) := rfl
theorem worldF_lk_hands {hp : Addr} {ki : Addr} {hl : Addr} {nm : Addr} {sw : Addr} : List.lookup ("hands" : Str) (worldF hp ki hl nm sw) = some (.ref hl : V) := rfl
theorem worldF_lk_names {hp : Addr} {ki : Addr} {hl : Addr} {nm : Addr} {sw : Addr} : List.lookup ("names" : Str) (worldF hp ki hl nm sw) = some (.ref nm : V) := rfl
theorem worldF_lk_sweeper {hp : Addr} {ki : Addr} {hl : Addr} {nm : Addr} {sw : Addr} : List.lookup ("sweeper" : Str) (worldF hp ki hl nm sw) = some (.ref sw : V) := rfl
theorem worldF_ne {a b : Str} (h : (a == b) = false) : ¬ b = a := fun e => by rw [e, beq_self_eq_true] at h; cases h
theorem worldF_mk {hp : Addr} {ki : Addr} {hl : Addr} {nm : Addr} {sw : Addr} : (putF "sweeper" (.ref sw) (putF "names" (.ref nm) (putF "hands" (.ref hl) (putF "kind" (.ref ki) (putF "heap" (.ref hp) []))))) = worldF hp ki hl nm sw := rfl
def sweepF (se : Int) (ph : Str) (gr : Addr) (lo : Int) (tu : Int) (at_ : Int) (st : Int) (wa : Int) (ls : Int) (pa : Int) (lx : V) : List (Str × V) := [("sense", .int se), ("phase", .str ph), ("grey", .ref gr), ("looked", .int lo), ("turn", .int tu), ("at", .int at_), ("stop", .int st), ("walks", .int wa), ("looks", .int ls), ("passes", .int pa), ("loss", lx)]
theorem sweepF_lk_sense {se : Int} {ph : Str} {gr : Addr} {lo : Int} {tu : Int} {at_ : Int} {st : Int} {wa : Int} {ls : Int} {pa : Int} {lx : V} : List.lookup ("sense" : Str) (sweepF se ph gr lo tu at_ st wa ls pa lx) = some (.int se : V) := rfl
theorem sweepF_lk_phase {se : Int} {ph : Str} {gr : Addr} {lo : Int} {tu : Int} {at_ : Int} {st : Int} {wa : Int} {ls : Int} {pa : Int} {lx : V} : List.lookup ("phase" : Str) (sweepF se ph gr lo tu at_ st wa ls pa lx) = some (.str ph : V) := rfl
theorem sweepF_lk_grey {se : Int} {ph : Str} {gr : Addr} {lo : Int} {tu : Int} {at_ : Int} {st : Int} {wa : Int} {ls : Int} {pa : Int} {lx : V} : List.lookup ("grey" : Str) (sweepF se ph gr lo tu at_ st wa ls pa lx) = some (.ref gr : V) := rfl
theorem sweepF_lk_turn {se : Int} {ph : Str} {gr : Addr} {lo : Int} {tu : Int} {at_ : Int} {st : Int} {wa : Int} {ls : Int} {pa : Int} {lx : V} : List.lookup ("turn" : Str) (sweepF se ph gr lo tu at_ st wa ls pa lx) = some (.int tu : V) := rfl
theorem sweepF_ne {a b : Str} (h : (a == b) = false) : ¬ b = a := fun e => by rw [e, beq_self_eq_true] at h; cases h
theorem sweepF_put_sense {se : Int} {ph : Str} {gr : Addr} {lo : Int} {tu : Int} {at_ : Int} {st : Int} {wa : Int} {ls : Int} {pa : Int} {lx : V} (y : Int) : putF "sense" (.int y) (sweepF se ph gr lo tu at_ st wa ls pa lx) = sweepF y ph gr lo tu at_ st wa ls pa lx := rfl
theorem sweepF_put_phase {se : Int} {ph : Str} {gr : Addr} {lo : Int} {tu : Int} {at_ : Int} {st : Int} {wa : Int} {ls : Int} {pa : Int} {lx : V} (y : Str) : putF "phase" (.str y) (sweepF se ph gr lo tu at_ st wa ls pa lx) = sweepF se y gr lo tu at_ st wa ls pa lx := rfl
theorem sweepF_put_grey {se : Int} {ph : Str} {gr : Addr} {lo : Int} {tu : Int} {at_ : Int} {st : Int} {wa : Int} {ls : Int} {pa : Int} {lx : V} (y : Addr) : putF "grey" (.ref y) (sweepF se ph gr lo tu at_ st wa ls pa lx) = sweepF se ph y lo tu at_ st wa ls pa lx := rfl
theorem sweepF_put_looked {se : Int} {ph : Str} {gr : Addr} {lo : Int} {tu : Int} {at_ : Int} {st : Int} {wa : Int} {ls : Int} {pa : Int} {lx : V} (y : Int) : putF "looked" (.int y) (sweepF se ph gr lo tu at_ st wa ls pa lx) = sweepF se ph gr y tu at_ st wa ls pa lx := rfl
theorem sweepF_put_turn {se : Int} {ph : Str} {gr : Addr} {lo : Int} {tu : Int} {at_ : Int} {st : Int} {wa : Int} {ls : Int} {pa : Int} {lx : V} (y : Int) : putF "turn" (.int y) (sweepF se ph gr lo tu at_ st wa ls pa lx) = sweepF se ph gr lo y at_ st wa ls pa lx := rfl
theorem sweepF_put_walks {se : Int} {ph : Str} {gr : Addr} {lo : Int} {tu : Int} {at_ : Int} {st : Int} {wa : Int} {ls : Int} {pa : Int} {lx : V} (y : Int) : putF "walks" (.int y) (sweepF se ph gr lo tu at_ st wa ls pa lx) = sweepF se ph gr lo tu at_ st y ls pa lx := rfl
theorem sweepF_put_looks {se : Int} {ph : Str} {gr : Addr} {lo : Int} {tu : Int} {at_ : Int} {st : Int} {wa : Int} {ls : Int} {pa : Int} {lx : V} (y : Int) : putF "looks" (.int y) (sweepF se ph gr lo tu at_ st wa ls pa lx) = sweepF se ph gr lo tu at_ st wa y pa lx := rfl
theorem sweepF_put_passes {se : Int} {ph : Str} {gr : Addr} {lo : Int} {tu : Int} {at_ : Int} {st : Int} {wa : Int} {ls : Int} {pa : Int} {lx : V} (y : Int) : putF "passes" (.int y) (sweepF se ph gr lo tu at_ st wa ls pa lx) = sweepF se ph gr lo tu at_ st wa ls y lx := rfl
theorem sweepF_mk {se : Int} {ph : Str} {gr : Addr} {lo : Int} {tu : Int} {at_ : Int} {st : Int} {wa : Int} {ls : Int} {pa : Int} {lx : V} : (putF "loss" (lx) (putF "passes" (.int pa) (putF "looks" (.int ls) (putF "walks" (.int wa) (putF "stop" (.int st) (putF "at" (.int at_) (putF "turn" (.int tu) (putF "looked" (.int lo) (putF "grey" (.ref gr) (putF "phase" (.str ph) (putF "sense" (.int se) []))))))))))) = sweepF se ph gr lo tu at_ st wa ls pa lx := rfl
def rd_Cell___init__ (K : PySem.W.Frag) : TS :=
  (tSeq (sFld K (tVar 0) (tVar 1) "birth")
      (tSeq (sFld K (tVar 0) (tVar 3) "bulk")
      (tSeq (sFld K (tVar 0) (tVar 4) "tone")
      (tSeq (sFld K (tVar 0) (tC (.int 0)) "load")
      (sFld K (tVar 0) (tOp (rRep) (tLst (tCons (tC .non) tNil)) (tVar 2)) "fields")))))
def rd_Cell_units (K : PySem.W.Frag) : TS :=
  (tRet (tOp (rI0 fun i j => .int (i + j)) (tOp (rI0 fun i j => .int (i + j)) (tC (.int 1)) (tCB (G.cLenL K) (tCons (tFld K (tVar 0) "fields") tNil))) (tFld K (tVar 0) "bulk")))
def rd_Heap___init__ (K : PySem.W.Frag) : TS :=
  (tSeq (sFld K (tVar 0) (tVar 1) "room")
      (tSeq (sFld K (tVar 0) (tLst tNil) "cells")
      (tSeq (sFld K (tVar 0) (tC (.int 0)) "used")
      (sFld K (tVar 0) (tC (.int 0)) "born"))))
def rd_Heap_make (K : PySem.W.Frag) (C_Cell C_Full C_Heap : Addr) (sp_Cell___init__ sp_Cell_units sp_Heap_free sp_Heap_lay : Sp) (E : XK) : TS :=
  (tSeq (tAsg (tMake C_Cell sp_Cell___init__ [] E0 (tCons (tOp (rI0 fun i j => .int (i + j)) (tFld K (tVar 0) "born") (tC (.int 1))) (tCons (tVar 1) (tCons (tVar 2) (tCons (tVar 3) tNil))))) (gName 4))
      (tSeq (tIfS (tTest (tOp (rI0 fun i j => .bl (decide (j < i))) (tMeth C_Cell "units" sp_Cell_units [] E0 (tVar 4) tNil) (tMeth C_Heap "free" sp_Heap_free [] E0 (tVar 0) tNil))) (G.tRaise C_Full E (tCons (tC (.str "the room does not suffice")) tNil)) tNext)
      (tSeq (sFld K (tVar 0) (tFld K (tVar 4) "birth") "born")
      (tSeq (sFld K (tVar 0) (tOp (rI0 fun i j => .int (i + j)) (tFld K (tVar 0) "used") (tMeth C_Cell "units" sp_Cell_units [] E0 (tVar 4) tNil)) "used")
      (tRet (tMeth C_Heap "lay" sp_Heap_lay [] E0 (tVar 0) (tCons (tVar 4) tNil)))))))
def rd_Heap_lay (K : PySem.W.Frag) : TS :=
  (tSeq (tIfS (tTest (tOp (G.rInN K true) (tC .non) (tFld K (tVar 0) "cells"))) (tSeq (tDrop (tBM K "list" rAppend (tFld K (tVar 0) "cells") (tCons (tVar 1) tNil)))
      (tRet (tOp (rI0 fun i j => .int (i - j)) (tCB (G.cLenL K) (tCons (tFld K (tVar 0) "cells") tNil)) (tC (.int 1))))) tNext)
      (tSeq (tAsg (tBM K "list" (G.rIndexN K) (tFld K (tVar 0) "cells") (tCons (tC .non) tNil)) (gName 2))
      (tSeq (tAsg (tVar 1) (gSub (tFld K (tVar 0) "cells") (tVar 2) rSetL))
      (tRet (tVar 2)))))
def rd_Heap_back (K : PySem.W.Frag) (C_Cell : Addr) (sp_Cell_units : Sp) : TS :=
  (tSeq (tAsg (tOp (rIxL K) (tFld K (tVar 0) "cells") (tVar 1)) (gName 2))
      (tSeq (sFld K (tVar 0) (tOp (rI0 fun i j => .int (i - j)) (tFld K (tVar 0) "used") (tMeth C_Cell "units" sp_Cell_units [] E0 (tVar 2) tNil)) "used")
      (tSeq (tAsg (tC .non) (gSub (tFld K (tVar 0) "cells") (tVar 1) rSetL))
      (tRet (tFld K (tVar 2) "birth")))))
def rd_Heap_free (K : PySem.W.Frag) : TS :=
  (tRet (tOp (rI0 fun i j => .int (i - j)) (tFld K (tVar 0) "room") (tFld K (tVar 0) "used")))
def rd_cell_at (K : PySem.W.Frag) : TS :=
  (tSeq (tIfS ((tOr (tTest (tOp (G.rIsN) (tVar 1) (tC .non))) (tOr (tTest (tOp (rI0 fun i j => .bl (decide (i < j))) (tVar 1) (tC (.int 0)))) (tTest (tOp (rI0 fun i j => .bl (decide (j ≤ i))) (tVar 1) (tCB (G.cLenL K) (tCons (tFld K (tVar 0) "cells") tNil))))))) (tRet (tC .non)) tNext)
      (tRet (tOp (rIxL K) (tFld K (tVar 0) "cells") (tVar 1))))
def rd_Hand___init__ (K : PySem.W.Frag) : TS :=
  (tSeq (sFld K (tVar 0) (tVar 1) "name")
      (sFld K (tVar 0) (tOp (rRep) (tLst (tCons (tC .non) tNil)) (tVar 2)) "slots"))
def rd_Sweeper___init__ (K : PySem.W.Frag) : TS :=
  (tSeq (sFld K (tVar 0) (tC (.int 0)) "sense")
      (tSeq (sFld K (tVar 0) (tC (.str "rest")) "phase")
      (tSeq (sFld K (tVar 0) (tLst tNil) "grey")
      (tSeq (sFld K (tVar 0) (tC (.int 0)) "looked")
      (tSeq (sFld K (tVar 0) (tC (.int 0)) "turn")
      (tSeq (sFld K (tVar 0) (tC (.int 0)) "at")
      (tSeq (sFld K (tVar 0) (tC (.int 0)) "stop")
      (tSeq (sFld K (tVar 0) (tC (.int 0)) "walks")
      (tSeq (sFld K (tVar 0) (tC (.int 0)) "looks")
      (tSeq (sFld K (tVar 0) (tC (.int 0)) "passes")
      (sFld K (tVar 0) (tC .non) "loss")))))))))))
def rd_World___init__ (K : PySem.W.Frag) (C_Hand C_Heap C_Sweeper : Addr) (sp_Hand___init__ sp_Heap___init__ sp_Sweeper___init__ : Sp) : TS :=
  (tSeq (sFld K (tVar 0) (tMake C_Heap sp_Heap___init__ [] E0 (tCons (tVar 1) tNil)) "heap")
      (tSeq (sFld K (tVar 0) (tVar 2) "kind")
      (tSeq (sFld K (tVar 0) (G.tLC2 K (iList K (tVar 3)) [] G.tTrue (tMake C_Hand sp_Hand___init__ [] E0 (tCons (tVar 0) (tCons (tVar 1) tNil)))) "hands")
      (tSeq (sFld K (tVar 0) (tDNewK) "names")
      (sFld K (tVar 0) (tMake C_Sweeper sp_Sweeper___init__ [] E0 tNil) "sweeper")))))
def rd_held (K : PySem.W.Frag) : TS :=
  (tRet (G.tLC (iList K (tFld K (tVar 0) "hands")) [] G.tTrue (tCB (G.cListL K) (tCons (tFld K (tVar 0) "slots") tNil))))
def rd_has_sense (K : PySem.W.Frag) : TS :=
  (tRet (tOp (rEq) (tFld K (tVar 1) "tone") (tFld K (tFld K (tVar 0) "sweeper") "sense")))
def rd_is_walking (K : PySem.W.Frag) : TS :=
  (tRet (tOp (rIn K false) (tFld K (tFld K (tVar 0) "sweeper") "phase") (tTup (tCons (tC (.str "walk")) (tCons (tC (.str "lost")) tNil)))))
def rd_begin (K : PySem.W.Frag) (C_Each C_First C_Last : Addr) (sp_First_at_begin sp_Looking_at_begin : Sp) : TS :=
  (tSeq (tAsg (tFld K (tVar 0) "sweeper") (gName 1))
      (tSeq (sFld K (tVar 1) (tOp (rI0 fun i j => .int (i - j)) (tC (.int 1)) (tFld K (tVar 1) "sense")) "sense")
      (tSeq (sFld K (tVar 1) (tOp (rI0 fun i j => .int (i + j)) (tFld K (tVar 1) "turn") (tC (.int 1))) "turn")
      (tSeq (sFld K (tVar 1) (tC (.str "walk")) "phase")
      (tSeq (sFld K (tVar 1) (tLst tNil) "grey")
      (tSeq (sFld K (tVar 1) (G.tOrE (tMeth C_First "at_begin" sp_First_at_begin [] E0 (tFld K (tFld K (tVar 0) "kind") "looking") (tCons (tCB (G.cLenL K) (tCons (tFld K (tVar 0) "hands") tNil)) tNil)) (G.tOrE (tMeth C_Each "at_begin" sp_Looking_at_begin [] E0 (tFld K (tFld K (tVar 0) "kind") "looking") (tCons (tCB (G.cLenL K) (tCons (tFld K (tVar 0) "hands") tNil)) tNil)) (tMeth C_Last "at_begin" sp_Looking_at_begin [] E0 (tFld K (tFld K (tVar 0) "kind") "looking") (tCons (tCB (G.cLenL K) (tCons (tFld K (tVar 0) "hands") tNil)) tNil)))) "looked")
      (tSeq (sFld K (tVar 1) (tC (.int 0)) "walks")
      (tSeq (sFld K (tVar 1) (tC (.int 0)) "looks")
      (sFld K (tVar 1) (tC (.int 0)) "passes")))))))))
def rd_note (K : PySem.W.Frag) (sp_cell_at sp_has_sense : Sp) : TS :=
  (tSeq (tAsg (tFld K (tVar 0) "sweeper") (gName 2))
      (tSeq (tAsg (tCall sp_cell_at [] E0 (tCons (tFld K (tVar 0) "heap") (tCons (tVar 1) tNil))) (gName 3))
      (tSeq (tIfS ((tOr (tTest (tOp (rNe) (tFld K (tVar 2) "phase") (tC (.str "walk")))) (tOr (tTest (tOp (G.rIsN) (tVar 3) (tC .non))) (tB (tCall sp_has_sense [] E0 (tCons (tVar 0) (tCons (tVar 3) tNil))))))) (tRet (tC .non)) tNext)
      (tSeq (sFld K (tVar 3) (tFld K (tVar 2) "sense") "tone")
      (tSeq (tDrop (tBM K "list" rAppend (tFld K (tVar 2) "grey") (tCons (tVar 1) tNil)))
      (tRet (tFld K (tVar 3) "birth")))))))
def rd_gone (K : PySem.W.Frag) (sp_cell_at sp_has_sense : Sp) : TS :=
  (tSeq (tAsg (tCall sp_cell_at [] E0 (tCons (tFld K (tVar 0) "heap") (tCons (tVar 1) tNil))) (gName 3))
      (tSeq (tIfS ((tOr (tTest (tOp (G.rIsN) (tVar 3) (tC .non))) (tTest (tOp (rNe) (tFld K (tVar 3) "birth") (tVar 2))))) (tRet (tC (.bl true))) tNext)
      (tRet ((tAndV (tOp (rEq) (tFld K (tFld K (tVar 0) "sweeper") "phase") (tC (.str "give"))) (tNotV (tCall sp_has_sense [] E0 (tCons (tVar 0) (tCons (tVar 3) tNil)))))))))
def rd_roots (K : PySem.W.Frag) (sp_held sp_root_of : Sp) (H0 : Hp) : TS :=
  (tRet (tOp (rCat) (tCall sp_held [] E0 (tCons (tVar 0) tNil)) (tLst (tCons (G.tThaw H0 (G.tLC2 K (G.iVals (G.tVals (tFld K (tVar 0) "names"))) [0] G.tTrue (tCall sp_root_of [] E0 (tCons (tVar 2) (tCons (tVar 0) (tCons (tVar 1) tNil)))))) tNil))))
def rd_root_of (K : PySem.W.Frag) (sp_gone sp_has_sense sp_is_walking : Sp) : TS :=
  (tSeq (tIfS (tB (tCall sp_gone [] E0 (tCons (tVar 0) (tCons (tVar 1) (tCons (tVar 2) tNil))))) (tRet (tC .non)) tNext)
      (tSeq (tIfS ((tAnd (tB (tCall sp_is_walking [] E0 (tCons (tVar 0) tNil))) (tNot (tB (tCall sp_has_sense [] E0 (tCons (tVar 0) (tCons (tOp (rIxL K) (tFld K (tFld K (tVar 0) "heap") "cells") (tVar 1)) tNil))))))) (tRet (tC .non)) tNext)
      (tRet (tVar 1))))
def rd_all_of  : TS :=
  (tRet (tOp (rI0 fun i j => .int (i - j)) (tOp (rI CPow fun i j => .int (i * 2 ^ j.toNat)) (tC (.int 1)) (tVar 0)) (tC (.int 1))))
def rd_Looking_at_begin  : TS :=
  (tRet (tC (.int 0)))
def rd_First_word  : TS :=
  (tRet (tC (.str "first")))
def rd_First_at_begin (sp_all_of : Sp) : TS :=
  (tRet (tCall sp_all_of [] E0 (tCons (tVar 1) tNil)))
def rd_Each_word  : TS :=
  (tRet (tC (.str "each")))
def rd_Last_word  : TS :=
  (tRet (tC (.str "last")))
def rd_Kind___init__ (K : PySem.W.Frag) : TS :=
  (tSeq (sFld K (tVar 0) (tVar 1) "looking")
      (sFld K (tVar 0) (tVar 2) "tells"))
def rd_Kind_words (K : PySem.W.Frag) (C_Each C_First C_Last : Addr) (sp_Each_word sp_First_word sp_Last_word : Sp) : TS :=
  (tSeq (tAsg (G.tOrE (tMeth C_First "word" sp_First_word [] E0 (tFld K (tVar 0) "looking") tNil) (G.tOrE (tMeth C_Each "word" sp_Each_word [] E0 (tFld K (tVar 0) "looking") tNil) (tMeth C_Last "word" sp_Last_word [] E0 (tFld K (tVar 0) "looking") tNil))) (gName 1))
      (tSeq (tIfS (tTest (tOp (rNe) (tOp (rI0 fun i j => .int (Builtin.bitAnd i j)) (tFld K (tVar 0) "tells") (tC (.int 1))) (tC (.int 0)))) (tAsg (tOp (G.rCatS) (tVar 1) (tC (.str " old"))) (gName 1)) tNext)
      (tSeq (tIfS (tTest (tOp (rNe) (tOp (rI0 fun i j => .int (Builtin.bitAnd i j)) (tFld K (tVar 0) "tells") (tC (.int 2))) (tC (.int 0)))) (tAsg (tOp (G.rCatS) (tVar 1) (tC (.str " new"))) (gName 1)) tNext)
      (tRet (tVar 1)))))
def rd_kind_of (K : PySem.W.Frag) (C_Each C_First C_Kind C_Last : Addr) (sp_Kind___init__ sp_Kind_words : Sp) : TS :=
  (tSeq (tFor (iList K (tLst (tCons (G.tMake0 C_First) (tCons (G.tMake0 C_Each) (tCons (G.tMake0 C_Last) tNil))))) (gName 1)
      (tFor (iRng1 (tCons (tC (.int 4)) tNil)) (gName 2)
      (tSeq (tAsg (tMake C_Kind sp_Kind___init__ [] E0 (tCons (tVar 1) (tCons (tVar 2) tNil))) (gName 3))
      (tIfS (tTest (tOp (rEq) (tMeth C_Kind "words" sp_Kind_words [] E0 (tVar 3) tNil) (tVar 0))) (tRet (tVar 3)) tNext))))
      (tRet (tC .non)))
def rd__law_mix  : TS :=
  (tSeq (tAsg (tOp (rI (fun _ j => 0 < j) fun i j => .int (i % j)) (tOp (rI0 fun i j => .int (i + j)) (tOp (rI CMul fun i j => .int (i * j)) (tVar 0) (tVar 1)) (tC (.int 12345))) (tC (.int 2147483647))) (gName 2))
      (tRet (tOp (rI CDiv fun i j => .int (i / j)) (tOp (rI (fun _ j => 0 < j) fun i j => .int (i % j)) (tOp (rI CMul fun i j => .int (i * j)) (tVar 2) (tVar 2)) (tC (.int 2147483629))) (tC (.int 3)))))
def rd__law_cell_at (K : PySem.W.Frag) : TS :=
  (tSeq (tIfS (tTest (tOp (rI0 fun i j => .bl (decide (i < j))) (tVar 1) (tCB (G.cLenL K) (tCons (tVar 0) tNil)))) (tRet (tOp (rIxL K) (tVar 0) (tVar 1))) tNext)
      (tRet (tC (.int 0))))
def rd__law_names (K : PySem.W.Frag) (sp__law_mix : Sp) : TS :=
  (tSeq (tAsg (tC (.str "abcdefghijklmnopqrstuvwxyz")) (gName 2))
      (tSeq (tAsg (tOp (rI0 fun i j => .int (i + j)) (tC (.int 1)) (tOp (rI (fun _ j => 0 < j) fun i j => .int (i % j)) (tCall sp__law_mix [] E0 (tCons (tVar 0) (tCons (tC (.int 48271)) tNil))) (tC (.int 12)))) (gName 3))
      (tSeq (tAsg (tC (.str "")) (gName 4))
      (tSeq (tFor (iRng1 (tCons (tVar 3) tNil)) (gName 5)
      (tAsg (tOp (G.rCatS) (tVar 4) (tOp (rIxS) (tVar 2) (tOp (rI (fun _ j => 0 < j) fun i j => .int (i % j)) (tCall sp__law_mix [] E0 (tCons (tVar 0) (tCons (tOp (rI0 fun i j => .int (i + j)) (tOp (rI CMul fun i j => .int (i * j)) (tVar 5) (tVar 5)) (tC (.int 69621))) tNil))) (tC (.int 26))))) (gName 4)))
      (tSeq (tAsg (tOp (rI (fun _ j => 0 < j) fun i j => .int (i % j)) (tCall sp__law_mix [] E0 (tCons (tVar 0) (tCons (tC (.int 16807)) tNil))) (tVar 3)) (gName 6))
      (tSeq (tAsg (tOp (rI (fun _ j => 0 < j) fun i j => .int (i % j)) (tCall sp__law_mix [] E0 (tCons (tVar 0) (tCons (tC (.int 39373)) tNil))) (tC (.int 26))) (gName 7))
      (tSeq (tAsg (tLst tNil) (gName 8))
      (tSeq (tFor (iRng1 (tCons (tVar 1) tNil)) (gName 5)
      (tSeq (tAsg (tOp (G.rCatS) (tOp (G.rCatS) (tSl (G.rSlS) (tVar 4) tNoPart (tPart (tVar 6))) (tOp (rIxS) (tVar 2) (tOp (rI (fun _ j => 0 < j) fun i j => .int (i % j)) (tOp (rI0 fun i j => .int (i + j)) (tVar 7) (tVar 5)) (tC (.int 26))))) (tSl (G.rSlS) (tVar 4) (tPart (tOp (rI0 fun i j => .int (i + j)) (tVar 6) (tC (.int 1)))) tNoPart)) (gName 9))
      (tSeq (tIfS (tTest (tOp (rEq) (tVar 9) (tC (.str "sweep")))) (tAsg (tC (.str "sweeps")) (gName 9)) tNext)
      (tDrop (tBM K "list" rAppend (tVar 8) (tCons (tVar 9) tNil))))))
      (tRet (tVar 8))))))))))
def rd__law_same (K : PySem.W.Frag) (sp__law_same : Sp) : TS :=
  (tSeq (tIfS (tTest (tOp (G.rIsN) (tVar 1) (tC .non))) (tRet (tOp (G.rIsN) (tVar 0) (tC .non))) tNext)
      (tSeq (tIfS (tTest (tOp (G.rIsB) (tVar 1) (tC (.bl true)))) (tRet (tOp (G.rIsB) (tVar 0) (tC (.bl true)))) tNext)
      (tSeq (tIfS (tTest (tOp (G.rIsB) (tVar 1) (tC (.bl false)))) (tRet (tOp (G.rIsB) (tVar 0) (tC (.bl false)))) tNext)
      (tSeq (tIfS (tB (tCB (G.cIsi) (tCons (tVar 1) (tCons (tC (.ty "int")) tNil)))) (tRet ((tAndV (tCB (G.cIsi) (tCons (tVar 0) (tCons (tC (.ty "int")) tNil))) (tAndV (tNotV (tCB (G.cIsi) (tCons (tVar 0) (tCons (tC (.ty "bool")) tNil)))) (tOp (rEq) (tVar 0) (tVar 1)))))) tNext)
      (tSeq (tIfS (tB (tCB (G.cIsi) (tCons (tVar 1) (tCons (tC (.ty "str")) tNil)))) (tRet ((tAndV (tCB (G.cIsi) (tCons (tVar 0) (tCons (tC (.ty "str")) tNil))) (tOp (rEq) (tVar 0) (tVar 1))))) tNext)
      (tSeq (tIfS ((tAnd (tB (tCB (G.cIsi) (tCons (tVar 1) (tCons (tC (.ty "list")) tNil)))) (tNot (tB (tCB (G.cIsi) (tCons (tVar 0) (tCons (tC (.ty "list")) tNil))))))) (tRet (tC (.bl false))) tNext)
      (tSeq (tIfS ((tAnd (tB (tCB (G.cIsi) (tCons (tVar 1) (tCons (tC (.ty "tuple")) tNil)))) (tNot (tB (tCB (G.cIsi) (tCons (tVar 0) (tCons (tC (.ty "tuple")) tNil))))))) (tRet (tC (.bl false))) tNext)
      (tSeq (tIfS (tTest (tOp (rNe) (tCB (G.cLenL K) (tCons (tVar 0) tNil)) (tCB (G.cLenL K) (tCons (tVar 1) tNil)))) (tRet (tC (.bl false))) tNext)
      (tSeq (tFor (iRng1 (tCons (tCB (G.cLenL K) (tCons (tVar 1) tNil)) tNil)) (gName 2)
      (tIfS (tNot (tB (tCall sp__law_same [] E0 (tCons (tOp (rIx K) (tVar 0) (tVar 2)) (tCons (tOp (rIx K) (tVar 1) (tVar 2)) tNil))))) (tRet (tC (.bl false))) tNext))
      (tRet (tC (.bl true))))))))))))
def rd__law_kind (K : PySem.W.Frag) (sp__law_mix : Sp) : TS :=
  (tSeq (tAsg (tOp (rIxL K) (tLst (tCons (tC (.str "first")) (tCons (tC (.str "each")) (tCons (tC (.str "last")) tNil)))) (tOp (rI (fun _ j => 0 < j) fun i j => .int (i % j)) (tCall sp__law_mix [] E0 (tCons (tVar 0) (tCons (tC (.int 48271)) tNil))) (tC (.int 3)))) (gName 1))
      (tRet (tOp (G.rCatS) (tVar 1) (tOp (rIxL K) (tLst (tCons (tC (.str "")) (tCons (tC (.str " old")) (tCons (tC (.str " new")) (tCons (tC (.str " old new")) tNil))))) (tOp (rI (fun _ j => 0 < j) fun i j => .int (i % j)) (tCall sp__law_mix [] E0 (tCons (tVar 0) (tCons (tC (.int 69621)) tNil))) (tC (.int 4)))))))
def rd__law_least (K : PySem.W.Frag) : TS :=
  (tSeq (tFor (iRng1 (tCons (tCB (G.cLenL K) (tCons (tVar 0) tNil)) tNil)) (gName 1)
      (tIfS (tTest (tOp (G.rIsN) (tOp (rIxL K) (tVar 0) (tVar 1)) (tC .non))) (tRet (tVar 1)) tNext))
      (tSeq (tDrop (tBM K "list" rAppend (tVar 0) (tCons (tC .non) tNil)))
      (tRet (tOp (rI0 fun i j => .int (i - j)) (tCB (G.cLenL K) (tCons (tVar 0) tNil)) (tC (.int 1))))))
def rd__law_make (K : PySem.W.Frag) (C_Heap : Addr) (sp_Heap_make sp__law_least sp__law_same : Sp) : TS :=
  (tSeq (tAsg (tMeth C_Heap "make" sp_Heap_make [] E0 (tFld K (tVar 0) "heap") (tCons (tC (.int 1)) (tCons (tC (.int 0)) (tCons (tFld K (tFld K (tVar 0) "sweeper") "sense") tNil)))) (gName 4))
      (tSeq (tAsg (tCall sp__law_least [] E0 (tCons (tVar 1) tNil)) (gName 5))
      (tSeq (tAsg (tOp (rI0 fun i j => .int (i + j)) (tOp (rIxL K) (tVar 2) (tC (.int 0))) (tC (.int 1))) (gSub (tVar 2) (tC (.int 0)) rSetL))
      (tSeq (tAsg (tLst (tCons (tOp (rIxL K) (tVar 2) (tC (.int 0))) (tCons (tVar 3) tNil))) (gSub (tVar 1) (tVar 5) rSetL))
      (tRet (tCall sp__law_same [] E0 (tCons (tVar 4) (tCons (tVar 5) tNil))))))))
def rd__law_named (K : PySem.W.Frag) : TS :=
  (tSeq (sDPut (tFld K (tVar 0) "names") (tVar 3) (tTup (tCons (tVar 4) (tCons (tOp (rIxL K) (tOp (rIxL K) (tVar 1) (tVar 4)) (tC (.int 0))) tNil))))
      (tSeq (tFor (iList K (tVar 2)) (gName 5)
      (tIfS (tTest (tOp (rEq) (tOp (rIxL K) (tVar 5) (tC (.int 0))) (tVar 3))) (tSeq (tAsg (tVar 4) (gSub (tVar 5) (tC (.int 1)) rSetL))
      (tSeq (tAsg (tOp (rIxL K) (tOp (rIxL K) (tVar 1) (tVar 4)) (tC (.int 0))) (gSub (tVar 5) (tC (.int 2)) rSetL))
      (tRet (tC (.bl true))))) tNext))
      (tSeq (tDrop (tBM K "list" rAppend (tVar 2) (tCons (tLst (tCons (tVar 3) (tCons (tVar 4) (tCons (tOp (rIxL K) (tOp (rIxL K) (tVar 1) (tVar 4)) (tC (.int 0))) tNil)))) tNil)))
      (tRet (tC (.bl true))))))
def rd__law_noted (K : PySem.W.Frag) (sp__law_same sp_note : Sp) : TS :=
  (tSeq (tAsg (tC .non) (gName 4))
      (tSeq (tIfS ((tAnd (tB (tVar 2)) (tTest (tOp (rEq) (tOp (rIxL K) (tOp (rIxL K) (tVar 1) (tVar 3)) (tC (.int 1))) (tC (.str "pale")))))) (tSeq (tAsg (tOp (rIxL K) (tOp (rIxL K) (tVar 1) (tVar 3)) (tC (.int 0))) (gName 4))
      (tAsg (tC (.str "grey")) (gSub (tOp (rIxL K) (tVar 1) (tVar 3)) (tC (.int 1)) rSetL))) tNext)
      (tRet (tCall sp__law_same [] E0 (tCons (tCall sp_note [] E0 (tCons (tVar 0) (tCons (tVar 3) tNil))) (tCons (tVar 4) tNil))))))
def rd__law_turn_t0_3 (K : PySem.W.Frag) (C_Heap : Addr) (sp_Heap_back sp__law_make sp__law_mix sp__law_named sp__law_noted sp__law_same : Sp) : TS :=
  (tSeq (tIfS ((tOr (tTest (tOp (rI0 fun i j => .bl (decide (i < j))) (tVar 7) (tC (.int 3)))) (tTest (tOp (rEq) (tCB (G.cLenL K) (tCons (tVar 1) tNil)) (tC (.int 0)))))) (tRet (tCall sp__law_make [] E0 (tCons (tVar 0) (tCons (tVar 1) (tCons (tVar 3) (tCons (tVar 8) tNil)))))) tNext)
      (tSeq (tAsg (tOp (rI (fun _ j => 0 < j) fun i j => .int (i % j)) (tCall sp__law_mix [] E0 (tCons (tVar 6) (tCons (tC (.int 69621)) tNil))) (tCB (G.cLenL K) (tCons (tVar 1) tNil))) (gName 9))
      (tSeq (tIfS (tTest (tOp (rEq) (tVar 7) (tC (.int 3)))) (tSeq (tAsg (tVar 9) (gSub (tOp (rIxL K) (tVar 2) (tOp (rI (fun _ j => 0 < j) fun i j => .int (i % j)) (tVar 9) (tC (.int 2)))) (tOp (rI (fun _ j => 0 < j) fun i j => .int (i % j)) (tOp (rI CDiv fun i j => .int (i / j)) (tVar 9) (tC (.int 2))) (tC (.int 3))) rSetL))
      (tAsg (tVar 9) (gSub (tFld K (tOp (rIxL K) (tFld K (tVar 0) "hands") (tOp (rI (fun _ j => 0 < j) fun i j => .int (i % j)) (tVar 9) (tC (.int 2)))) "slots") (tOp (rI (fun _ j => 0 < j) fun i j => .int (i % j)) (tOp (rI CDiv fun i j => .int (i / j)) (tVar 9) (tC (.int 2))) (tC (.int 3))) rSetL))) tNext)
      (tSeq (tIfS (tTest (tOp (G.rIsN) (tOp (rIxL K) (tVar 1) (tVar 9)) (tC .non))) (tRet (tC (.bl true))) tNext)
      (tSeq (tIfS ((tAnd (tTest (tOp (rEq) (tVar 7) (tC (.int 4)))) (tTest (tOp (rNe) (tOp (rIxL K) (tOp (rIxL K) (tVar 1) (tVar 9)) (tC (.int 1))) (tC (.str "grey")))))) (tSeq (tAsg (tOp (rIxL K) (tOp (rIxL K) (tVar 1) (tVar 9)) (tC (.int 0))) (gName 10))
      (tSeq (tAsg (tC .non) (gSub (tVar 1) (tVar 9) rSetL))
      (tRet (tCall sp__law_same [] E0 (tCons (tMeth C_Heap "back" sp_Heap_back [] E0 (tFld K (tVar 0) "heap") (tCons (tVar 9) tNil)) (tCons (tVar 10) tNil)))))) tNext)
      (tSeq (tIfS ((tAnd (tTest (tOp (rI0 fun i j => .bl (decide (j < i))) (tVar 7) (tC (.int 4)))) (tTest (tOp (rI0 fun i j => .bl (decide (i < j))) (tVar 7) (tC (.int 8)))))) (tRet (tCall sp__law_named [] E0 (tCons (tVar 0) (tCons (tVar 1) (tCons (tVar 4) (tCons (tOp (rIxL K) (tVar 5) (tOp (rI (fun _ j => 0 < j) fun i j => .int (i % j)) (tCall sp__law_mix [] E0 (tCons (tVar 6) (tCons (tC (.int 16807)) tNil))) (tC (.int 6)))) (tCons (tVar 9) tNil))))))) tNext)
      (tSeq (tIfS (tTest (tOp (rI0 fun i j => .bl (decide (j < i))) (tVar 7) (tC (.int 7)))) (tRet (tCall sp__law_noted [] E0 (tCons (tVar 0) (tCons (tVar 1) (tCons (tOp (rEq) (tOp (rIxL K) (tVar 3) (tC (.int 1))) (tC (.int 1))) (tCons (tVar 9) tNil)))))) tNext)
      (tRet (tC (.bl true))))))))))
def rd__law_turn (K : PySem.W.Frag) (C_Heap : Addr) (sp_Heap_back sp__law_make sp__law_mix sp__law_named sp__law_noted sp__law_same : Sp) : TS :=
  (tSeq (tAsg (tOp (rI (fun _ j => 0 < j) fun i j => .int (i % j)) (tCall sp__law_mix [] E0 (tCons (tVar 6) (tCons (tC (.int 48271)) tNil))) (tC (.int 10))) (gName 7))
      (tSeq (tAsg (tC (.str "pale")) (gName 8))
      (tSeq (tIfS (tTest (tOp (rEq) (tOp (rIxL K) (tVar 3) (tC (.int 1))) (tC (.int 1)))) (tAsg (tC (.str "dark")) (gName 8)) tNext)
      (rd__law_turn_t0_3 K C_Heap sp_Heap_back sp__law_make sp__law_mix sp__law_named sp__law_noted sp__law_same))))
def rd__law_gone (K : PySem.W.Frag) : TS :=
  (tRet ((tOrV (tOp (G.rIsN) (tOp (rIxL K) (tVar 0) (tVar 1)) (tC .non)) (tOp (rNe) (tOp (rIxL K) (tOp (rIxL K) (tVar 0) (tVar 1)) (tC (.int 0))) (tVar 2)))))
def rd__law_row (K : PySem.W.Frag) (sp__law_gone : Sp) : TS :=
  (tSeq (tAsg (tLst tNil) (gName 3))
      (tSeq (tFor (iList K (tVar 1)) (gName 4)
      (tIfS ((tOr (tB (tCall sp__law_gone [] E0 (tCons (tVar 0) (tCons (tOp (rIxL K) (tVar 4) (tC (.int 1))) (tCons (tOp (rIxL K) (tVar 4) (tC (.int 2))) tNil))))) ((tAnd (tB (tVar 2)) (tTest (tOp (rEq) (tOp (rIxL K) (tOp (rIxL K) (tVar 0) (tOp (rIxL K) (tVar 4) (tC (.int 1)))) (tC (.int 1))) (tC (.str "pale")))))))) (tDrop (tBM K "list" rAppend (tVar 3) (tCons (tC .non) tNil))) (tDrop (tBM K "list" rAppend (tVar 3) (tCons (tOp (rIxL K) (tVar 4) (tC (.int 1))) tNil)))))
      (tRet (tVar 3))))
def rd__law_looks (K : PySem.W.Frag) (sp__law_gone sp__law_same sp_gone sp_held : Sp) : TS :=
  (tSeq (tFor (iList K (tVar 4)) (gName 6)
      (tSeq (tIfS (tNot (tB (tCall sp__law_same [] E0 (tCons (tCall sp_gone [] E0 (tCons (tVar 0) (tCons (tOp (rIxL K) (tVar 6) (tC (.int 1))) (tCons (tOp (rIxL K) (tVar 6) (tC (.int 2))) tNil)))) (tCons (tCall sp__law_gone [] E0 (tCons (tVar 1) (tCons (tOp (rIxL K) (tVar 6) (tC (.int 1))) (tCons (tOp (rIxL K) (tVar 6) (tC (.int 2))) tNil)))) tNil))))) (tRet (tC (.bl false))) tNext)
      (tSeq (tAsg (tOp (rI0 fun i j => .int (i + j)) (tOp (rIxL K) (tVar 6) (tC (.int 2))) (tVar 5)) (gName 7))
      (tIfS (tNot (tB (tCall sp__law_same [] E0 (tCons (tCall sp_gone [] E0 (tCons (tVar 0) (tCons (tOp (rIxL K) (tVar 6) (tC (.int 1))) (tCons (tVar 7) tNil)))) (tCons (tCall sp__law_gone [] E0 (tCons (tVar 1) (tCons (tOp (rIxL K) (tVar 6) (tC (.int 1))) (tCons (tVar 7) tNil)))) tNil))))) (tRet (tC (.bl false))) tNext))))
      (tRet (tCall sp__law_same [] E0 (tCons (tCall sp_held [] E0 (tCons (tVar 0) tNil)) (tCons (tVar 2) tNil)))))
def rd_law_t1_1 (K : PySem.W.Frag) (sp__law_looks sp__law_mix sp__law_row sp__law_same sp__law_turn sp_roots : Sp) : TS :=
  (tSeq (tIfS (tNot (tB (tCall sp__law_turn [] E0 (tCons (tVar 4) (tCons (tVar 5) (tCons (tVar 6) (tCons (tVar 7) (tCons (tVar 8) (tCons (tVar 3) (tCons (tVar 11) tNil)))))))))) (tRet (tC (.bl false))) tNext)
      (tSeq (tAsg (tCall sp_roots [] E0 (tCons (tVar 4) tNil)) (gName 12))
      (tSeq (tAsg (tOp (rCat) (G.tLC (iList K (tVar 6)) [] G.tTrue (tCB (G.cListL K) (tCons (tVar 0) tNil))) (tLst (tCons (tCall sp__law_row [] E0 (tCons (tVar 5) (tCons (tVar 8) (tCons (tOp (rEq) (tOp (rIxL K) (tVar 7) (tC (.int 1))) (tC (.int 1))) tNil)))) tNil))) (gName 13))
      (tSeq (tIfS (tNot (tB (tCall sp__law_same [] E0 (tCons (tVar 12) (tCons (tVar 13) tNil))))) (tRet (tC (.bl false))) tNext)
      (tSeq (tIfS (tNot (tB (tCall sp__law_looks [] E0 (tCons (tVar 4) (tCons (tVar 5) (tCons (tVar 6) (tCons (tVar 7) (tCons (tVar 8) (tCons (tOp (rI0 fun i j => .int (i - j)) (tOp (rI (fun _ j => 0 < j) fun i j => .int (i % j)) (tCall sp__law_mix [] E0 (tCons (tVar 11) (tCons (tC (.int 39373)) tNil))) (tC (.int 5))) (tC (.int 2))) tNil))))))))) (tRet (tC (.bl false))) tNext)
      (tSeq (tDrop (tBM K "list" rAppend (tVar 9) (tCons (tTup (tCons (tVar 12) (tCons (tVar 13) tNil))) tNil)))
      (tDrop (tBM K "list" rAppend (tOp (rIxL K) (tCall sp_roots [] E0 (tCons (tVar 4) tNil)) (tC (.int 2))) (tCons (tC (.int 7)) tNil)))))))))
def rd_law_t0_9 (K : PySem.W.Frag) (sp__law_looks sp__law_mix sp__law_row sp__law_same sp__law_turn sp_begin sp_roots : Sp) : TS :=
  (tSeq (tFor (G.iEnum K (tCons (tSl (rSlL K) (tVar 0) (tPart (tC (.int 2))) (tPart (tC (.int 60)))) tNil)) (gTup K 2 (gCons (gName 10) (gCons (gName 11) gNil)))
      (tSeq (tIfS (tTest (tOp (rEq) (tOp (rI0 fun i j => .int (i + j)) (tVar 10) (tC (.int 2))) (tVar 2))) (tSeq (tAsg (tC (.int 1)) (gSub (tVar 7) (tC (.int 1)) rSetL))
      (tDrop (tCall sp_begin [] E0 (tCons (tVar 4) tNil)))) tNext)
      (rd_law_t1_1 K sp__law_looks sp__law_mix sp__law_row sp__law_same sp__law_turn sp_roots)))
      (tSeq (tFor (iList K (tVar 9)) (gTup K 2 (gCons (gName 12) (gCons (gName 13) gNil)))
      (tIfS (tNot (tB (tCall sp__law_same [] E0 (tCons (tVar 12) (tCons (tVar 13) tNil))))) (tRet (tC (.bl false))) tNext))
      (tRet (tC (.bl true)))))
def rd_law (K : PySem.W.Frag) (C_World : Addr) (sp_World___init__ sp__law_cell_at sp__law_kind sp__law_looks sp__law_mix sp__law_names sp__law_row sp__law_same sp__law_turn sp_begin sp_kind_of sp_roots : Sp) : TS :=
  (tSeq (tAsg (tCall sp__law_kind [] E0 (tCons (tCall sp__law_cell_at [] E0 (tCons (tVar 0) (tCons (tC (.int 0)) tNil))) tNil)) (gName 1))
      (tSeq (tAsg (tOp (rI0 fun i j => .int (i + j)) (tC (.int 2)) (tOp (rI (fun _ j => 0 < j) fun i j => .int (i % j)) (tCall sp__law_cell_at [] E0 (tCons (tVar 0) (tCons (tC (.int 1)) tNil))) (tC (.int 48)))) (gName 2))
      (tSeq (tAsg (tCall sp__law_names [] E0 (tCons (tOp (rI CDiv fun i j => .int (i / j)) (tCall sp__law_cell_at [] E0 (tCons (tVar 0) (tCons (tC (.int 1)) tNil))) (tC (.int 48))) (tCons (tC (.int 6)) tNil))) (gName 3))
      (tSeq (tAsg (tMake C_World sp_World___init__ [] E0 (tCons (tOp (rI CPow fun i j => .int (i ^ j.toNat)) (tC (.int 10)) (tC (.int 15))) (tCons (tCall sp_kind_of [] E0 (tCons (tVar 1) tNil)) (tCons (tLst (tCons (tTup (tCons (tC (.str "one")) (tCons (tC (.int 3)) tNil))) (tCons (tTup (tCons (tC (.str "two")) (tCons (tC (.int 3)) tNil))) tNil))) tNil)))) (gName 4))
      (tSeq (tAsg (tLst tNil) (gName 5))
      (tSeq (tAsg (tLst (tCons (tLst (tCons (tC .non) (tCons (tC .non) (tCons (tC .non) tNil)))) (tCons (tLst (tCons (tC .non) (tCons (tC .non) (tCons (tC .non) tNil)))) tNil))) (gName 6))
      (tSeq (tAsg (tLst (tCons (tC (.int 0)) (tCons (tC (.int 0)) tNil))) (gName 7))
      (tSeq (tAsg (tLst tNil) (gName 8))
      (tSeq (tAsg (tLst tNil) (gName 9))
      (rd_law_t0_9 K sp__law_looks sp__law_mix sp__law_row sp__law_same sp__law_turn sp_begin sp_roots))))))))))
structure TxC (K : PySem.W.Frag) (C_Cell C_Heap : Addr) : Prop where
  cl_Cell : Cls K C_Cell
  n_Cell_birth : NoAttr K C_Cell "birth"
  n_Cell_bulk : NoAttr K C_Cell "bulk"
  n_Cell_tone : NoAttr K C_Cell "tone"
  n_Cell_load : NoAttr K C_Cell "load"
  n_Cell_fields : NoAttr K C_Cell "fields"
  cl_Heap : Cls K C_Heap
  n_Heap_room : NoAttr K C_Heap "room"
  n_Heap_cells : NoAttr K C_Heap "cells"
  n_Heap_used : NoAttr K C_Heap "used"
  n_Heap_born : NoAttr K C_Heap "born"
  eq_Cell : EqD K C_Cell
structure CellO (CC : Addr) (H : Hp) (p fa : Addr) (birth bulk tone load : Int) (fl : List V) : Prop where
  o : ∃ dx, H p = some (.ins CC dx (cellF birth bulk tone load fa))
  f : H fa = some (.lst fl)
structure HpO (CH : Addr) (H : Hp) (hp ca : Addr) (room used born : Int) (cs : List V) : Prop where
  o : ∃ dx, H hp = some (.ins CH dx (heapF room ca used born))
  c : H ca = some (.lst cs)
theorem cellF_ne_heapF {a b c d e f g : Int} {x y : Addr} : cellF a b c d x ≠ heapF e y f g := fun z => by
  have := congrArg List.length z
  cases this
def S_Cell_init (CC : Addr) : Sp := fun vs H Q E => ∃ p birth many bulk tone, vs = [.ref p, .int birth, .int many, .int bulk, .int tone] ∧ ∃ dx, H p = some (.ins CC dx []) ∧ 0 ≤ many ∧ many ≤ 1000 ∧
  ∀ fa H', H fa = none → H' p = some (.ins CC dx (cellF birth bulk tone 0 fa)) → H' fa = some (.lst (List.replicate many.toNat V.non)) → (∀ b o, H b = some o → b ≠ p → H' b = some o) → Q .non H'
def S_Cell_units (CC : Addr) : Sp := fun vs H Q E => ∃ p, vs = [.ref p] ∧ ∃ fa birth bulk tone load fl, CellO CC H p fa birth bulk tone load fl ∧ Q (.int (1 + fl.length + bulk)) H
def S_Heap_init (CH : Addr) : Sp := fun vs H Q E => ∃ p room, vs = [.ref p, .int room] ∧ ∃ dx, H p = some (.ins CH dx []) ∧
  ∀ ca H', H ca = none → H' p = some (.ins CH dx (heapF room ca 0 0)) → H' ca = some (.lst []) → (∀ b o, H b = some o → b ≠ p → H' b = some o) → Q .non H'
def S_Heap_free (CH : Addr) : Sp := fun vs H Q E => ∃ hp, vs = [.ref hp] ∧ ∃ ca room used born cs, HpO CH H hp ca room used born cs ∧ Q (.int (room - used)) H
def plc (cs : List V) : List Int := ((List.range cs.length).filter fun i => !decide (cs[i]? = some V.non)).map fun (i : Nat) => (i : Int)
def S_Heap_there (CH : Addr) : Sp := fun vs H Q E => ∃ hp, vs = [.ref hp] ∧ ∃ ca room used born cs, HpO CH H hp ca room used born cs ∧ cs.length ≤ 1000 ∧ ∀ l, H l = none → Q (.ref l) (upd H l (.lst ((plc cs).map V.int)))
def putN (cs : List V) (v : V) : List V := if V.non ∈ cs then cs.set (cs.idxOf V.non) v else cs ++ [v]
def S_Heap_lay (K : PySem.W.Frag) (CH : Addr) : Sp := fun vs H Q E => ∃ hp v, vs = [.ref hp, v] ∧ ∃ ca room used born cs, HpO CH H hp ca room used born cs ∧ OkN K H cs ∧ cs.length ≤ 1000 ∧ Q (.int (cs.idxOf V.non)) (upd H ca (.lst (putN cs v)))
def S_Heap_back (CC CH : Addr) : Sp := fun vs H Q E => ∃ hp i, vs = [.ref hp, .int i] ∧ ∃ ca dx room used born cs p fa birth bulk tone load fl, 0 ≤ i ∧ H hp = some (.ins CH dx (heapF room ca used born)) ∧ H ca = some (.lst cs) ∧ cs[i.toNat]? = some (.ref p) ∧ CellO CC H p fa birth bulk tone load fl ∧
  Q (.int birth) (upd (upd H hp (.ins CH dx (heapF room ca (used - (1 + fl.length + bulk)) born))) ca (.lst (cs.set i.toNat V.non)))
def S_Heap_make (K : PySem.W.Frag) (CC CH CF : Addr) : Sp := fun vs H Q E => ∃ hp many bulk tone, vs = [.ref hp, .int many, .int bulk, .int tone] ∧ ∃ ca dx room used born cs, H hp = some (.ins CH dx (heapF room ca used born)) ∧ H ca = some (.lst cs) ∧ OkN K H cs ∧ cs.length ≤ 1000 ∧ 0 ≤ many ∧ many ≤ 1000 ∧
  (room - used < 1 + many + bulk → ∀ H', Same H H' → E (.ref CF) none H') ∧
  (1 + many + bulk ≤ room - used → ∀ p fa H', H p = none → H fa = none → Fm [hp, ca] H H' → H' hp = some (.ins CH dx (heapF room ca (used + (1 + many + bulk)) (born + 1))) → H' ca = some (.lst (putN cs (.ref p))) →
    CellO CC H' p fa (born + 1) bulk tone 0 (List.replicate many.toNat V.non) → Q (.int (cs.idxOf V.non)) H')
section
variable {K : PySem.W.Frag} {C_Cell C_Heap C_Full : Addr} {H : Hp} {Q : VK} {E : XK} {n : St → Hp → Prop} {bk ct : St → Hp → Prop}
theorem Cell_units_rd {p : Addr} (T : TxC K C_Cell C_Heap) (q : ∃ fa birth bulk tone load fl, CellO C_Cell H p fa birth bulk tone load fl ∧ Q (.int (1 + fl.length + bulk)) H) : rd_Cell_units K ⟨n, Q, bk, ct⟩ [some (.ref p)] H := by
  obtain ⟨fa, birth, bulk, tone, load, fl, ⟨⟨dx, h1⟩, h2⟩, h⟩ := q
  unfold rd_Cell_units
  walk_at "ev"
  refine i_fldK h1 T.cl_Cell T.n_Cell_fields cellF_lk_fields ?_
  walk_at "ev"
  refine i_lenL (SqL.of h2) ?_
  walk_at "ev"
  refine i_fldK h1 T.cl_Cell T.n_Cell_bulk cellF_lk_bulk ?_
  walk_at "ev"
  exact h
theorem Cell___init___rd {p : Addr} {birth many bulk tone : Int} (T : TxC K C_Cell C_Heap) (q : ∃ dx, H p = some (.ins C_Cell dx []) ∧ 0 ≤ many ∧ many ≤ 1000 ∧
  ∀ fa H', H fa = none → H' p = some (.ins C_Cell dx (cellF birth bulk tone 0 fa)) → H' fa = some (.lst (List.replicate many.toNat V.non)) → (∀ b o, H b = some o → b ≠ p → H' b = some o) → Q .non H') :
    rd_Cell___init__ K ⟨fun _ H' => Q .non H', Q, bk, ct⟩ [some (.ref p), some (.int birth), some (.int many), some (.int bulk), some (.int tone)] H := by
  obtain ⟨dx, hp, h0, h1, h⟩ := q
  unfold rd_Cell___init__
  walk_at "ev"
  refine ⟨p, C_Cell, dx, [], rfl, hp, T.cl_Cell, T.n_Cell_birth, by decide, ?_⟩
  walk_at "ev"
  refine ⟨p, C_Cell, dx, _, rfl, upd_same, T.cl_Cell, T.n_Cell_bulk, by show 1 < 1000; decide, ?_⟩
  rw [upd_upd]
  walk_at "ev"
  refine ⟨p, C_Cell, dx, _, rfl, upd_same, T.cl_Cell, T.n_Cell_tone, by show 2 < 1000; decide, ?_⟩
  rw [upd_upd]
  walk_at "ev"
  refine ⟨p, C_Cell, dx, _, rfl, upd_same, T.cl_Cell, T.n_Cell_load, by show 3 < 1000; decide, ?_⟩
  rw [upd_upd]
  walk_at "ev"
  refine ⟨by decide, fun l0 hl0 => ?_⟩
  walk_at "ev"
  refine ⟨l0, many, _, rfl, rfl, upd_same, by omega, by omega, ?_, fun fa hfa => ?_⟩
  · show 1 * many.toNat ≤ sizeLine
    exact len_ok (by omega)
  have npl : p ≠ l0 := ne_of_none upd_same hl0
  have npf : p ≠ fa := ne_of_none ((upd_ne npl).trans upd_same) hfa
  walk_at "ev"
  refine ⟨p, C_Cell, dx, _, rfl, (upd_ne npf).trans ((upd_ne npl).trans upd_same), T.cl_Cell, T.n_Cell_fields, by show 4 < 1000; decide, ?_⟩
  have nfa : H fa = none := by
    have e := hfa
    have n1 : fa ≠ l0 := fun z => by rw [z, upd_same] at e; cases e
    rw [upd_ne n1, upd_ne npf.symm] at e
    exact e
  refine h fa _ nfa (upd_same.trans (congrArg (fun l => some (HO.ins C_Cell dx l)) cellF_mk)) ?_ fun b o hb hne => ?_
  · rw [upd_ne npf.symm, upd_same]
    have e : (List.replicate many.toNat [V.non]).flatten = List.replicate many.toNat V.non := by
      generalize many.toNat = k
      induction k with
      | zero => rfl
      | succ k ih => rw [List.replicate_succ, List.replicate_succ, List.flatten_cons, ih]; rfl
    rw [e]
  · have e1 : upd H p (HO.ins C_Cell dx (putF "load" (V.int 0) (putF "tone" (V.int tone) (putF "bulk" (V.int bulk) (putF "birth" (V.int birth) []))))) b = some o := (upd_ne hne).trans hb
    have n1 : b ≠ l0 := ne_of_none e1 hl0
    have n2 : b ≠ fa := ne_of_none ((upd_ne n1).trans e1) hfa
    rw [upd_ne hne, upd_ne n2, upd_ne n1]
    exact e1
theorem Heap___init___rd {p : Addr} {room : Int} (T : TxC K C_Cell C_Heap) (q : ∃ dx, H p = some (.ins C_Heap dx []) ∧
  ∀ ca H', H ca = none → H' p = some (.ins C_Heap dx (heapF room ca 0 0)) → H' ca = some (.lst []) → (∀ b o, H b = some o → b ≠ p → H' b = some o) → Q .non H') :
    rd_Heap___init__ K ⟨fun _ H' => Q .non H', Q, bk, ct⟩ [some (.ref p), some (.int room)] H := by
  obtain ⟨dx, hp, h⟩ := q
  unfold rd_Heap___init__
  walk_at "ev"
  refine ⟨p, C_Heap, dx, [], rfl, hp, T.cl_Heap, T.n_Heap_room, by decide, ?_⟩
  walk_at "ev"
  refine ⟨by decide, fun ca hca => ?_⟩
  walk_at "ev"
  have npc : p ≠ ca := ne_of_none upd_same hca
  refine ⟨p, C_Heap, dx, _, rfl, (upd_ne npc).trans upd_same, T.cl_Heap, T.n_Heap_cells, by show 1 < 1000; decide, ?_⟩
  walk_at "ev"
  refine ⟨p, C_Heap, dx, _, rfl, upd_same, T.cl_Heap, T.n_Heap_used, by show 2 < 1000; decide, ?_⟩
  rw [upd_upd]
  walk_at "ev"
  refine ⟨p, C_Heap, dx, _, rfl, upd_same, T.cl_Heap, T.n_Heap_born, by show 3 < 1000; decide, ?_⟩
  rw [upd_upd]
  have nca : H ca = none := by
    have e := hca
    rw [upd_ne npc.symm] at e
    exact e
  refine h ca _ nca (upd_same.trans (congrArg (fun l => some (HO.ins C_Heap dx l)) heapF_mk)) ?_ fun b o hb hne => ?_
  · rw [upd_ne npc.symm, upd_same]
  · rw [upd_ne hne, upd_ne (ne_of_none ((upd_ne hne).trans hb) hca), upd_ne hne]; exact hb
theorem Heap_free_rd {hp : Addr} (T : TxC K C_Cell C_Heap) (q : ∃ ca room used born cs, HpO C_Heap H hp ca room used born cs ∧ Q (.int (room - used)) H) : rd_Heap_free K ⟨n, Q, bk, ct⟩ [some (.ref hp)] H := by
  obtain ⟨ca, room, used, born, cs, ⟨⟨dx, h1⟩, h2⟩, h⟩ := q
  unfold rd_Heap_free
  walk_at "ev"
  refine i_fldK h1 T.cl_Heap T.n_Heap_room heapF_lk_room ?_
  walk_at "ev"
  refine i_fldK h1 T.cl_Heap T.n_Heap_used heapF_lk_used ?_
  walk_at "ev"
  exact h
theorem Heap_lay_rd {hp : Addr} {v : V} (T : TxC K C_Cell C_Heap) (q : ∃ ca room used born cs, HpO C_Heap H hp ca room used born cs ∧ OkN K H cs ∧ cs.length ≤ 1000 ∧ Q (.int (cs.idxOf V.non)) (upd H ca (.lst (putN cs v)))) : rd_Heap_lay K ⟨n, Q, bk, ct⟩ [some (.ref hp), some v, none] H := by
  obtain ⟨ca, room, used, born, cs, ⟨⟨dx, h1⟩, h2⟩, ho, hl, h⟩ := q
  unfold rd_Heap_lay
  walk_at "ev"
  refine i_fldK h1 T.cl_Heap T.n_Heap_cells heapF_lk_cells ?_
  walk_at "ev"
  refine i_notInN (SqL.of h2) ho ?_
  walk_at "ev"
  refine ifnd (fun hn => ?_) (fun hn => ?_)
  · walk_at "ev"
    refine i_fldK h1 T.cl_Heap T.n_Heap_cells heapF_lk_cells ?_
    refine ⟨.inl ⟨rfl, _, SqL.of h2⟩, ?_⟩
    walk_at "ev"
    refine ⟨ca, cs, v, rfl, rfl, h2, Nat.lt_of_le_of_lt hl (by decide), ?_⟩
    walk_at "ev"
    have hne : hp ≠ ca := ne_of h1 h2 (fun z => by cases z)
    refine i_fldK ((upd_ne hne).trans h1) T.cl_Heap T.n_Heap_cells heapF_lk_cells ?_
    walk_at "ev"
    refine i_lenL (SqL.of upd_same) ?_
    walk_at "ev"
    have e1 : (((cs ++ [v]).length : Int) - 1) = (cs.idxOf V.non : Nat) := by
      rw [List.length_append, List.idxOf_eq_length hn]
      simp
    have e2 : putN cs v = cs ++ [v] := by unfold putN; rw [if_neg hn]
    rw [e1, ← e2]
    exact h
  · walk_at "ev"
    refine i_fldK h1 T.cl_Heap T.n_Heap_cells heapF_lk_cells ?_
    refine ⟨.inl ⟨rfl, _, SqL.of h2⟩, ?_⟩
    walk_at "ev"
    refine ⟨ca, cs, rfl, rfl, SqL.of h2, ho, hn, ?_⟩
    walk_at "ev"
    refine i_fldK h1 T.cl_Heap T.n_Heap_cells heapF_lk_cells ?_
    walk_at "ev"
    have hi : cs.idxOf V.non < cs.length := List.idxOf_lt_length_iff.mpr hn
    refine ⟨ca, cs, _, _, rfl, rfl, h2, ixN_nat hi, ?_⟩
    have e2 : putN cs v = cs.set (cs.idxOf V.non) v := by unfold putN; rw [if_pos hn]
    rw [← e2]
    walk_at "ev"
    exact h
theorem Heap_back_rd {hp : Addr} {i : Int} (T : TxC K C_Cell C_Heap) (q : ∃ ca dx room used born cs p fa birth bulk tone load fl, 0 ≤ i ∧ H hp = some (.ins C_Heap dx (heapF room ca used born)) ∧ H ca = some (.lst cs) ∧ cs[i.toNat]? = some (.ref p) ∧ CellO C_Cell H p fa birth bulk tone load fl ∧
  Q (.int birth) (upd (upd H hp (.ins C_Heap dx (heapF room ca (used - (1 + fl.length + bulk)) born))) ca (.lst (cs.set i.toNat V.non)))) : rd_Heap_back K C_Cell (S_Cell_units C_Cell) ⟨n, Q, bk, ct⟩ [some (.ref hp), some (.int i), none] H := by
  obtain ⟨ca, dx, room, used, born, cs, p, fa, birth, bulk, tone, load, fl, h0, h1, h2, hi, co, h⟩ := q
  obtain ⟨⟨dp, c1⟩, c2⟩ := id co
  unfold rd_Heap_back
  walk_at "ev"
  refine i_fldK h1 T.cl_Heap T.n_Heap_cells heapF_lk_cells ?_
  walk_at "ev"
  refine i_ixL (SqL.of h2) (atI_int h0 hi) ?_
  walk_at "ev"
  refine i_fldK h1 T.cl_Heap T.n_Heap_used heapF_lk_used ?_
  walk_at "ev"
  refine ⟨p, dp, _, rfl, c1, cellF_no_units, ?_⟩
  walk_at "ev"
  refine ⟨p, rfl, fa, birth, bulk, tone, load, fl, co, ?_⟩
  walk_at "ev"
  refine ⟨hp, C_Heap, dx, _, rfl, h1, T.cl_Heap, T.n_Heap_used, by show 4 < 1000; decide, ?_⟩
  rw [heapF_put_used]
  have hne : hp ≠ ca := ne_of h1 h2 (fun z => by cases z)
  walk_at "ev"
  refine i_fldK upd_same T.cl_Heap T.n_Heap_cells heapF_lk_cells ?_
  walk_at "ev"
  have hlt : i.toNat < cs.length := (List.getElem?_eq_some_iff.mp hi).1
  refine ⟨ca, cs, _, _, rfl, rfl, (upd_ne hne.symm).trans h2, ixN_int h0 hlt, ?_⟩
  walk_at "ev"
  refine i_fldK (C := C_Cell) (a := p) (dx := dp) (fs := cellF birth bulk tone load fa) ?_ T.cl_Cell T.n_Cell_birth cellF_lk_birth ?_
  · have n1 : p ≠ ca := ne_of c1 h2 (fun z => by cases z)
    have n2 : p ≠ hp := ne_of c1 h1 (fun z => by injection z with _ _ z; exact cellF_ne_heapF z)
    rw [upd_ne n1, upd_ne n2]
    exact c1
  exact h
theorem Heap_make_rd {hp : Addr} {many bulk tone : Int} (T : TxC K C_Cell C_Heap) (q : ∃ ca dx room used born cs, H hp = some (.ins C_Heap dx (heapF room ca used born)) ∧ H ca = some (.lst cs) ∧ OkN K H cs ∧ cs.length ≤ 1000 ∧ 0 ≤ many ∧ many ≤ 1000 ∧
  (room - used < 1 + many + bulk → ∀ H', Same H H' → E (.ref C_Full) none H') ∧
  (1 + many + bulk ≤ room - used → ∀ p fa H', H p = none → H fa = none → Fm [hp, ca] H H' → H' hp = some (.ins C_Heap dx (heapF room ca (used + (1 + many + bulk)) (born + 1))) → H' ca = some (.lst (putN cs (.ref p))) →
    CellO C_Cell H' p fa (born + 1) bulk tone 0 (List.replicate many.toNat V.non) → Q (.int (cs.idxOf V.non)) H')) :
    rd_Heap_make K C_Cell C_Full C_Heap (S_Cell_init C_Cell) (S_Cell_units C_Cell) (S_Heap_free C_Heap) (S_Heap_lay K C_Heap) E ⟨n, Q, bk, ct⟩ [some (.ref hp), some (.int many), some (.int bulk), some (.int tone), none] H := by
  obtain ⟨ca, dx, room, used, born, cs, h1, h2, ho, hl, m0, m1, hE, hQ⟩ := q
  have hne : hp ≠ ca := ne_of h1 h2 (fun z => by cases z)
  unfold rd_Heap_make
  walk_at "ev"
  refine i_fldK h1 T.cl_Heap T.n_Heap_born heapF_lk_born ?_
  walk_at "ev"
  intro p dp np ndp ned
  refine ⟨p, _, many, _, _, rfl, dp, upd_same, m0, m1, fun fa H1 nfa c1 c2 f3 => ⟨rfl, ?_⟩⟩
  have nfa' : H fa = none := by
    have e := nfa
    by_cases z1 : fa = p
    · rw [z1, upd_same] at e; cases e
    · rw [upd_ne z1] at e
      by_cases z2 : fa = dp
      · rw [z2, upd_same] at e; cases e
      · rw [upd_ne z2] at e; exact e
  have sm : Same H H1 := fun b o hb => by
    refine f3 b o ?_ (ne_of_none hb np)
    rw [upd_ne (ne_of_none hb np), upd_ne (ne_of_none hb ndp)]
    exact hb
  have co : CellO C_Cell H1 p fa (born + 1) bulk tone 0 (List.replicate many.toNat V.non) := ⟨⟨dp, c1⟩, c2⟩
  have el : ((List.replicate many.toNat V.non).length : Int) = many := by rw [List.length_replicate]; omega
  walk_at "ev"
  refine ⟨p, dp, _, rfl, c1, cellF_no_units, ?_⟩
  walk_at "ev"
  refine ⟨p, rfl, fa, _, _, _, _, _, co, ?_⟩
  walk_at "ev"
  refine ⟨hp, dx, _, rfl, sm _ _ h1, heapF_no_free, ?_⟩
  walk_at "ev"
  refine ⟨hp, rfl, ca, room, used, born, cs, ⟨⟨dx, sm _ _ h1⟩, sm _ _ h2⟩, ?_⟩
  walk_at "ev"
  rw [el]
  refine ifd (fun hf => ?_) (fun hf => ?_)
  · walk_at "ev"
    exact ⟨by decide, hE hf H1 sm⟩
  · walk_at "ev"
    refine i_fldK c1 T.cl_Cell T.n_Cell_birth cellF_lk_birth ?_
    walk_at "ev"
    refine ⟨hp, C_Heap, dx, _, rfl, sm _ _ h1, T.cl_Heap, T.n_Heap_born, by show 4 < 1000; decide, ?_⟩
    rw [heapF_put_born]
    walk_at "ev"
    refine i_fldK upd_same T.cl_Heap T.n_Heap_used heapF_lk_used ?_
    walk_at "ev"
    have n1 : p ≠ hp := (ne_of_none h1 np).symm
    have n2 : fa ≠ hp := (ne_of_none h1 nfa').symm
    have n3 : p ≠ ca := (ne_of_none h2 np).symm
    have n4 : fa ≠ ca := (ne_of_none h2 nfa').symm
    refine ⟨p, dp, _, rfl, (upd_ne n1).trans c1, cellF_no_units, ?_⟩
    walk_at "ev"
    refine ⟨p, rfl, fa, _, _, _, _, _, ⟨⟨dp, (upd_ne n1).trans c1⟩, (upd_ne n2).trans c2⟩, ?_⟩
    walk_at "ev"
    rw [el]
    refine ⟨hp, C_Heap, dx, _, rfl, upd_same, T.cl_Heap, T.n_Heap_used, by show 4 < 1000; decide, ?_⟩
    rw [heapF_put_used, upd_upd]
    walk_at "ev"
    refine ⟨hp, dx, _, rfl, upd_same, heapF_no_lay, ?_⟩
    walk_at "ev"
    refine ⟨hp, .ref p, rfl, ca, room, _, _, cs, ⟨⟨dx, upd_same⟩, (upd_ne hne.symm).trans (sm _ _ h2)⟩, ?_, hl, ?_⟩
    · intro y hy
      rcases ho y hy with e | ⟨a, C, d, fs, e, ha, hc, he⟩
      · exact .inl e
      · refine .inr ?_
        by_cases z : a = hp
        · rw [z] at ha e
          rw [h1] at ha; cases ha
          exact ⟨hp, _, _, _, e, upd_same, hc, he⟩
        · exact ⟨a, C, d, fs, e, (upd_ne z).trans (sm _ _ ha), hc, he⟩
    · refine hQ (by omega) p fa _ np nfa' ?_ ((upd_ne hne).trans upd_same) upd_same ⟨⟨dp, ?_⟩, ?_⟩
      · intro b o hb hn
        have b1 : b ≠ hp := fun z => hn (by rw [z]; exact List.mem_cons_self)
        have b2 : b ≠ ca := fun z => hn (by rw [z]; exact List.mem_cons_of_mem _ List.mem_cons_self)
        rw [upd_ne b2, upd_ne b1]
        exact sm _ _ hb
      · rw [upd_ne n3, upd_ne n1]; exact c1
      · rw [upd_ne n4, upd_ne n2]; exact c2
end
structure Ce where
  birth : Int
  bulk : Int
  tone : Int
  load : Int
  fl : List (Option Int)
  deriving DecidableEq
structure Sw where
  sense : Int
  phase : Str
  grey : List Int
  looked : Int
  turn : Int
  at' : Int
  stop : Int
  walks : Int
  looks : Int
  passes : Int
  loss : V
structure Wm where
  room : Int
  used : Int
  born : Int
  cells : List (Option Ce)
  hands : List (Str × List (Option Int))
  names : List (Str × (Int × Int))
  w : Int
  tells : Int
  sw : Sw
structure Wa where
  wo : Addr
  hp : Addr
  ca : Addr
  ki : Addr
  lk : Addr
  hl : Addr
  nm : Addr
  sw : Addr
  gr : Addr
  hs : List (Addr × Addr)
  cs : List (Option (Addr × Addr))
  ns : List Addr
def oV : Option Int → V
  | none => .non
  | some i => .int i
def pV : Option (Addr × Addr) → V
  | none => .non
  | some p => .ref p.1
structure Frm (s : Nat) (t0 : Nat → Prop) (H H' : Hp) (T T' : Tg) : Prop where
  kp : ∀ b o, H b = some o → (T b).1 = s → ¬ t0 (T b).2 → H' b = some o
  tg : ∀ b o, H b = some o → T' b = T b
section
variable {CHd CC : Addr} {H H' : Hp} {T T' : Tg} {s j i : Nat} {t0 : Nat → Prop}
theorem Frm.at {a : Addr} {o : HO} {m : Nat} (f : Frm s t0 H H' T T') (ht : T a = (s, m)) (n : ¬ t0 m) (h : H a = some o) : H' a = some o := f.kp a o h (by rw [ht]) (by rw [ht]; exact n)
theorem Frm.tag {a : Addr} {o : HO} {x : Nat × Nat} (f : Frm s t0 H H' T T') (h : H a = some o) (ht : T a = x) : T' a = x := (f.tg a o h).trans ht
theorem Frm.of_upd {a : Addr} {o : HO} {m : Nat} (ht : T a = (s, m)) : Frm s (· = m) H (upd H a o) T T := ⟨fun b u h e n => by
    have : b ≠ a := fun z => n (by rw [z, ht])
    rw [upd_ne this]; exact h, fun _ _ _ => rfl⟩
theorem Frm.of_same (e : Same H H') : Frm s (fun _ => False) H H' T T := ⟨fun b o h _ _ => e b o h, fun _ _ _ => rfl⟩
theorem Frm.of_other {s' : Nat} (e : Stp s' H H' T T') (n : s ≠ s') : Frm s (fun _ => False) H H' T T' := ⟨fun b o h z _ => e.kp b o h (by rw [z]; exact n), e.tg⟩
structure HdO (CHd : Addr) (H : Hp) (T : Tg) (s j : Nat) (p : Addr × Addr) (m : Str × List (Option Int)) : Prop where
  t1 : T p.1 = (s, 20 + 2 * j)
  t2 : T p.2 = (s, 21 + 2 * j)
  o1 : ∃ dx, H p.1 = some (.ins CHd dx (handF m.1 p.2))
  o2 : H p.2 = some (.lst (m.2.map oV))
theorem HdO.mv {p : Addr × Addr} {m : Str × List (Option Int)} (h : HdO CHd H T s j p m) (f : Frm s t0 H H' T T') (n1 : ¬ t0 (20 + 2 * j)) (n2 : ¬ t0 (21 + 2 * j)) : HdO CHd H' T' s j p m := by
  obtain ⟨a1, a2, ⟨dx, b1⟩, b2⟩ := h
  exact ⟨f.tag b1 a1, f.tag b2 a2, ⟨dx, f.at a1 n1 b1⟩, f.at a2 n2 b2⟩
structure CeO (CC : Addr) (H : Hp) (T : Tg) (s i : Nat) (p : Addr × Addr) (c : Ce) : Prop where
  t1 : T p.1 = (s, 100 + 2 * i)
  t2 : T p.2 = (s, 101 + 2 * i)
  o1 : ∃ dx, H p.1 = some (.ins CC dx (cellF c.birth c.bulk c.tone c.load p.2))
  o2 : H p.2 = some (.lst (c.fl.map oV))
theorem CeO.mv {p : Addr × Addr} {c : Ce} (h : CeO CC H T s i p c) (f : Frm s t0 H H' T T') (n1 : ¬ t0 (100 + 2 * i)) (n2 : ¬ t0 (101 + 2 * i)) : CeO CC H' T' s i p c := by
  obtain ⟨a1, a2, ⟨dx, b1⟩, b2⟩ := h
  exact ⟨f.tag b1 a1, f.tag b2 a2, ⟨dx, f.at a1 n1 b1⟩, f.at a2 n2 b2⟩
def CeP (CC : Addr) (H : Hp) (T : Tg) (s i : Nat) : Option (Addr × Addr) → Option Ce → Prop
  | none, none => True
  | some p, some c => CeO CC H T s i p c
  | _, _ => False
theorem CeP.mv {p : Option (Addr × Addr)} {c : Option Ce} (h : CeP CC H T s i p c) (f : Frm s t0 H H' T T') (n1 : ¬ t0 (100 + 2 * i)) (n2 : ¬ t0 (101 + 2 * i)) : CeP CC H' T' s i p c := by
  cases p with
  | none => cases c with
    | none => trivial
    | some c => exact h.elim
  | some p => cases c with
    | none => exact h.elim
    | some c => exact CeO.mv h f n1 n2
end
def NmO (H : Hp) (T : Tg) (t : Addr) (m : Str × (Int × Int)) : Prop := T t = (0, 0) ∧ H t = some (.tup [.int m.2.1, .int m.2.2])
structure Cs where
  W : Addr
  H : Addr
  C : Addr
  K : Addr
  D : Addr
  S : Addr
  F : Addr
  E : Addr
  L : Addr
structure WB (X : Cs) (H : Hp) (T : Tg) (s : Nat) (A : Wa) (w tells : Int) : Prop where
  tw : T A.wo = (s, 0)
  tk : T A.ki = (0, 0)
  tl : T A.lk = (0, 0)
  tn : T A.hl = (s, 5)
  ow : ∃ dx, H A.wo = some (.ins X.W dx (worldF A.hp A.ki A.hl A.nm A.sw))
  ok : ∃ dx, H A.ki = some (.ins X.K dx (kindF A.lk tells))
  ol : ∃ dx, (w = 0 ∧ H A.lk = some (.ins X.F dx [])) ∨ (w = 1 ∧ H A.lk = some (.ins X.E dx [])) ∨ (w = 2 ∧ H A.lk = some (.ins X.L dx []))
  on : H A.hl = some (.lst (A.hs.map fun p => V.ref p.1))
structure WH (X : Cs) (H : Hp) (T : Tg) (s : Nat) (A : Wa) (room used born : Int) : Prop where
  th : T A.hp = (s, 1)
  tc : T A.ca = (s, 2)
  oh : ∃ dx, H A.hp = some (.ins X.H dx (heapF room A.ca used born))
  oc : H A.ca = some (.lst (A.cs.map pV))
def nmK (M : List (Str × (Int × Int))) (ns : List Addr) : List ((Int ⊕ Str) × V) := List.zipWith (fun (m : Str × (Int × Int)) (t : Addr) => (Sum.inr m.1, V.ref t)) M ns
structure WN (H : Hp) (T : Tg) (s : Nat) (A : Wa) (names : List (Str × (Int × Int))) : Prop where
  tm : T A.nm = (s, 6)
  om : H A.nm = some (.dK (nmK names A.ns))
  nms : Al (NmO H T) A.ns names
structure WS (X : Cs) (H : Hp) (T : Tg) (s : Nat) (A : Wa) (S : Sw) : Prop where
  ts : T A.sw = (s, 7)
  tg : T A.gr = (s, 8)
  os : ∃ dx, H A.sw = some (.ins X.S dx (sweepF S.sense S.phase A.gr S.looked S.turn S.at' S.stop S.walks S.looks S.passes S.loss))
  og : H A.gr = some (.lst (S.grey.map V.int))
structure WD (X : Cs) (H : Hp) (T : Tg) (s : Nat) (hs : List (Addr × Addr)) (hands : List (Str × List (Option Int))) : Prop where
  lh : hs.length = hands.length
  l5 : hs.length ≤ 30
  hd : ∀ (j : Nat) p m, hs[j]? = some p → hands[j]? = some m → HdO X.D H T s j p m
structure WC (X : Cs) (H : Hp) (T : Tg) (s : Nat) (cs : List (Option (Addr × Addr))) (cells : List (Option Ce)) : Prop where
  lc : cs.length = cells.length
  ce : ∀ (i : Nat) p c, cs[i]? = some p → cells[i]? = some c → CeP X.C H T s i p c
structure WJ (X : Cs) (H : Hp) (T : Tg) (s : Nat) (A : Wa) (M : Wm) : Prop where
  jb : WB X H T s A M.w M.tells
  jh : WH X H T s A M.room M.used M.born
  jn : WN H T s A M.names
  js : WS X H T s A M.sw
  jd : WD X H T s A.hs M.hands
  jc : WC X H T s A.cs M.cells
section
variable {X : Cs} {H H' : Hp} {T T' : Tg} {s : Nat} {t0 : Nat → Prop} {A : Wa} {M : Wm}
theorem WB.mv {w tells : Int} (j : WB X H T s A w tells) (f : Frm s t0 H H' T T') (f0 : ∀ b o, H b = some o → T b = (0, 0) → H' b = some o) (n0 : ¬ t0 0) (n5 : ¬ t0 5) : WB X H' T' s A w tells := by
  obtain ⟨tw, tk, tl, tn, ⟨d1, ow⟩, ⟨d3, ok⟩, ⟨d4, ol⟩, on⟩ := j
  have hlk : ∃ o, H A.lk = some o := by
    rcases ol with ⟨_, e⟩ | ⟨_, e⟩ | ⟨_, e⟩
    · exact ⟨_, e⟩
    · exact ⟨_, e⟩
    · exact ⟨_, e⟩
  obtain ⟨olk, elk⟩ := hlk
  refine ⟨f.tag ow tw, f.tag ok tk, f.tag elk tl, f.tag on tn, ⟨d1, f.at tw n0 ow⟩, ⟨d3, f0 _ _ ok tk⟩, ⟨d4, ?_⟩, f.at tn n5 on⟩
  rcases ol with ⟨z, e⟩ | ⟨z, e⟩ | ⟨z, e⟩
  · exact .inl ⟨z, f0 _ _ e tl⟩
  · exact .inr (.inl ⟨z, f0 _ _ e tl⟩)
  · exact .inr (.inr ⟨z, f0 _ _ e tl⟩)
theorem WH.mv {room used born : Int} (j : WH X H T s A room used born) (f : Frm s t0 H H' T T') (n1 : ¬ t0 1) (n2 : ¬ t0 2) : WH X H' T' s A room used born := by
  obtain ⟨th, tc, ⟨d, oh⟩, oc⟩ := j
  exact ⟨f.tag oh th, f.tag oc tc, ⟨d, f.at th n1 oh⟩, f.at tc n2 oc⟩
theorem WN.mv {names : List (Str × (Int × Int))} (j : WN H T s A names) (f : Frm s t0 H H' T T') (f0 : ∀ b o, H b = some o → T b = (0, 0) → H' b = some o) (n6 : ¬ t0 6) : WN H' T' s A names := by
  obtain ⟨tm, om, nms⟩ := j
  exact ⟨f.tag om tm, f.at tm n6 om, nms.mono fun t m ⟨z1, z2⟩ => ⟨f.tag z2 z1, f0 _ _ z2 z1⟩⟩
theorem WS.mv {S : Sw} (j : WS X H T s A S) (f : Frm s t0 H H' T T') (n7 : ¬ t0 7) (n8 : ¬ t0 8) : WS X H' T' s A S := by
  obtain ⟨ts, tg, ⟨d, os⟩, og⟩ := j
  exact ⟨f.tag os ts, f.tag og tg, ⟨d, f.at ts n7 os⟩, f.at tg n8 og⟩
theorem WD.mv {hs : List (Addr × Addr)} {hands : List (Str × List (Option Int))} (j : WD X H T s hs hands) (f : Frm s t0 H H' T T') (n : ∀ k, 20 ≤ k → k < 100 → ¬ t0 k) : WD X H' T' s hs hands := by
  obtain ⟨lh, l5, hd⟩ := j
  refine ⟨lh, l5, fun j p m e1 e2 => ?_⟩
  have hl : j < hs.length := (List.getElem?_eq_some_iff.mp e1).1
  exact (hd j p m e1 e2).mv f (n _ (by omega) (by omega)) (n _ (by omega) (by omega))
theorem WC.mv {cs : List (Option (Addr × Addr))} {cells : List (Option Ce)} (j : WC X H T s cs cells) (f : Frm s t0 H H' T T') (n : ∀ k, 100 ≤ k → ¬ t0 k) : WC X H' T' s cs cells := by
  obtain ⟨lc, ce⟩ := j
  exact ⟨lc, fun i p c e1 e2 => (ce i p c e1 e2).mv f (n _ (by omega)) (n _ (by omega))⟩
theorem WJ.mv (j : WJ X H T s A M) (f : Frm s (fun _ => False) H H' T T') (f0 : ∀ b o, H b = some o → T b = (0, 0) → H' b = some o) : WJ X H' T' s A M :=
  ⟨j.jb.mv f f0 id id, j.jh.mv f id id, j.jn.mv f f0 id, j.js.mv f id id, j.jd.mv f fun _ _ _ => id, j.jc.mv f fun _ _ => id⟩
theorem WJ.same (j : WJ X H T s A M) (e : Same H H') : WJ X H' T s A M := j.mv (Frm.of_same e) fun b o h _ => e b o h
theorem WJ.other {s' : Nat} (j : WJ X H T s A M) (e : Stp s' H H' T T') (n : s ≠ s') (n0 : s' ≠ 0) : WJ X H' T' s A M := j.mv (Frm.of_other e n) fun b o h t => e.kp b o h (by rw [t]; exact fun z => n0 z.symm)
theorem f0_upd {a : Addr} {o' : HO} {m : Nat} (h0 : s ≠ 0) (ta : T a = (s, m)) : ∀ b o, H b = some o → T b = (0, 0) → upd H a o' b = some o := fun b o e t => by
  rw [upd_ne (ne_tag t ta (fun z => h0 (congrArg Prod.fst z).symm))]; exact e
theorem WJ.slot (j : WJ X H T s A M) (w : WT H T) (h0 : s ≠ 0) {h k : Nat} {p : Addr × Addr} {m : Str × List (Option Int)} {x : Option Int} (hp : A.hs[h]? = some p) (hm : M.hands[h]? = some m) :
    Stp s H (upd H p.2 (.lst ((m.2.map oV).set k (oV x)))) T T ∧ WJ X (upd H p.2 (.lst ((m.2.map oV).set k (oV x)))) T s A { M with hands := M.hands.set h (m.1, m.2.set k x) } := by
  have hl := j.jd.l5
  have hh : h < A.hs.length := (List.getElem?_eq_some_iff.mp hp).1
  have hh' : h < M.hands.length := (List.getElem?_eq_some_iff.mp hm).1
  have d := j.jd.hd h p m hp hm
  refine ⟨Stp.upd w d.o2 (by rw [d.t2]), ?_⟩
  have f : Frm s (· = 21 + 2 * h) H (upd H p.2 (.lst ((m.2.map oV).set k (oV x)))) T T := Frm.of_upd d.t2
  have b2 : upd H p.2 (.lst ((m.2.map oV).set k (oV x))) p.2 = some (.lst ((m.2.set k x).map oV)) := by rw [upd_same, List.map_set]
  refine ⟨j.jb.mv f (f0_upd h0 d.t2) (by omega) (by omega), j.jh.mv f (by omega) (by omega), j.jn.mv f (f0_upd h0 d.t2) (by omega), j.js.mv f (by omega) (by omega), ⟨by rw [List.length_set]; exact j.jd.lh, hl, fun j' p' m' e1 e2 => ?_⟩, j.jc.mv f fun _ _ => by omega⟩
  by_cases hj : j' = h
  · subst hj
    dsimp only at e2
    rw [List.getElem?_set_self hh'] at e2
    rw [hp] at e1
    cases e1
    cases e2
    obtain ⟨dd, o1⟩ := d.o1
    exact ⟨d.t1, d.t2, ⟨dd, f.at d.t1 (by omega) o1⟩, b2⟩
  · dsimp only at e2
    rw [List.getElem?_set_ne (fun z => hj z.symm)] at e2
    exact (j.jd.hd j' p' m' e1 e2).mv f (by omega) (by omega)
theorem WC.at (j : WC X H T s A.cs M.cells) {i : Nat} {c : Ce} (h : M.cells[i]? = some (some c)) : ∃ p, A.cs[i]? = some (some p) ∧ CeO X.C H T s i p c := by
  have hl : i < A.cs.length := by rw [j.lc]; exact (List.getElem?_eq_some_iff.mp h).1
  have e := j.ce i _ _ (List.getElem?_eq_getElem hl) h
  cases hg : A.cs[i] with
  | none => rw [hg] at e; exact e.elim
  | some g => rw [hg] at e; exact ⟨g, by rw [List.getElem?_eq_getElem hl, hg], e⟩
theorem WC.at0 (j : WC X H T s A.cs M.cells) {i : Nat} (h : M.cells[i]? = some none) : A.cs[i]? = some none := by
  have hl : i < A.cs.length := by rw [j.lc]; exact (List.getElem?_eq_some_iff.mp h).1
  have e := j.ce i _ _ (List.getElem?_eq_getElem hl) h
  cases hg : A.cs[i] with
  | none => rw [List.getElem?_eq_getElem hl, hg]
  | some g => rw [hg] at e; exact e.elim
theorem WC.chg (j : WC X H T s A.cs M.cells) {i : Nat} {p : Addr × Addr} {c' : Ce} (f : Frm s t0 H H' T T') (hp : A.cs[i]? = some (some p)) (n : ∀ k, 100 ≤ k → k ≠ 100 + 2 * i → k ≠ 101 + 2 * i → ¬ t0 k) (e : CeO X.C H' T' s i p c') :
    WC X H' T' s A.cs (M.cells.set i (some c')) := by
  have hl : i < A.cs.length := (List.getElem?_eq_some_iff.mp hp).1
  refine ⟨by rw [List.length_set]; exact j.lc, fun k g c e1 e2 => ?_⟩
  by_cases hk : k = i
  · subst hk
    rw [List.getElem?_set_self (by rw [← j.lc]; exact hl)] at e2
    rw [hp] at e1
    cases e1
    cases e2
    exact e
  · rw [List.getElem?_set_ne (fun z => hk z.symm)] at e2
    exact (j.ce k g c e1 e2).mv f (n _ (by omega) (by omega) (by omega)) (n _ (by omega) (by omega) (by omega))
theorem WJ.cell (j : WJ X H T s A M) (w : WT H T) (h0 : s ≠ 0) {i : Nat} {p : Addr × Addr} {c : Ce} {dx : Addr} {tone load : Int} (hp : A.cs[i]? = some (some p)) (e : CeO X.C H T s i p c) :
    Stp s H (upd H p.1 (.ins X.C dx (cellF c.birth c.bulk tone load p.2))) T T ∧ WJ X (upd H p.1 (.ins X.C dx (cellF c.birth c.bulk tone load p.2))) T s A { M with cells := M.cells.set i (some { c with tone := tone, load := load }) } := by
  obtain ⟨dd, o1⟩ := e.o1
  refine ⟨Stp.upd w o1 (by rw [e.t1]), ?_⟩
  have f : Frm s (· = 100 + 2 * i) H (upd H p.1 (.ins X.C dx (cellF c.birth c.bulk tone load p.2))) T T := Frm.of_upd e.t1
  exact ⟨j.jb.mv f (f0_upd h0 e.t1) (by omega) (by omega), j.jh.mv f (by omega) (by omega), j.jn.mv f (f0_upd h0 e.t1) (by omega), j.js.mv f (by omega) (by omega), j.jd.mv f fun _ _ _ => by omega,
    j.jc.chg f hp (fun k _ n1 _ z => n1 z) ⟨e.t1, e.t2, ⟨dx, upd_same⟩, f.at e.t2 (by omega) e.o2⟩⟩
theorem WJ.sweep (j : WJ X H T s A M) (w : WT H T) (h0 : s ≠ 0) {dx : Addr} (S : Sw) (e9 : S.grey = M.sw.grey) :
    Stp s H (upd H A.sw (.ins X.S dx (sweepF S.sense S.phase A.gr S.looked S.turn S.at' S.stop S.walks S.looks S.passes S.loss))) T T ∧
    WJ X (upd H A.sw (.ins X.S dx (sweepF S.sense S.phase A.gr S.looked S.turn S.at' S.stop S.walks S.looks S.passes S.loss))) T s A { M with sw := S } := by
  obtain ⟨ts, tg, ⟨dd, os⟩, og⟩ := j.js
  refine ⟨Stp.upd w os (by rw [ts]), ?_⟩
  have f : Frm s (· = 7) H (upd H A.sw (.ins X.S dx (sweepF S.sense S.phase A.gr S.looked S.turn S.at' S.stop S.walks S.looks S.passes S.loss))) T T := Frm.of_upd ts
  exact ⟨j.jb.mv f (f0_upd h0 ts) (by omega) (by omega), j.jh.mv f (by omega) (by omega), j.jn.mv f (f0_upd h0 ts) (by omega), ⟨ts, tg, ⟨dx, upd_same⟩, by rw [e9]; exact f.at tg (by omega) og⟩, j.jd.mv f fun _ _ _ => by omega, j.jc.mv f fun _ _ => by omega⟩
theorem WJ.greys (j : WJ X H T s A M) (w : WT H T) (h0 : s ≠ 0) {g : List Int} : Stp s H (upd H A.gr (.lst (g.map V.int))) T T ∧ WJ X (upd H A.gr (.lst (g.map V.int))) T s A { M with sw := { M.sw with grey := g } } := by
  obtain ⟨ts, tg, ⟨dd, os⟩, og⟩ := j.js
  refine ⟨Stp.upd w og (by rw [tg]), ?_⟩
  have f : Frm s (· = 8) H (upd H A.gr (.lst (g.map V.int))) T T := Frm.of_upd tg
  exact ⟨j.jb.mv f (f0_upd h0 tg) (by omega) (by omega), j.jh.mv f (by omega) (by omega), j.jn.mv f (f0_upd h0 tg) (by omega), ⟨ts, tg, ⟨dd, f.at ts (by omega) os⟩, upd_same⟩, j.jd.mv f fun _ _ _ => by omega, j.jc.mv f fun _ _ => by omega⟩
theorem WJ.back (j : WJ X H T s A M) (w : WT H T) (h0 : s ≠ 0) {i : Nat} {dx : Addr} {used' : Int} (hi : i < A.cs.length) (H' : Hp) (kp : ∀ b o, H b = some o → b ≠ A.hp → b ≠ A.ca → H' b = some o) (a1 : H' A.hp = some (.ins X.H dx (heapF M.room A.ca used' M.born))) (a2 : H' A.ca = some (.lst ((A.cs.map pV).set i V.non))) :
    Stp s H H' T T ∧ WJ X H' T s { A with cs := A.cs.set i none } { M with used := used', cells := M.cells.set i none } := by
  obtain ⟨th, tc, ⟨dd, oh⟩, oc⟩ := j.jh
  have al : ∀ b o, H b = some o → ∃ o', H' b = some o' := fun b o h => by
    by_cases z1 : b = A.hp
    · exact ⟨_, by rw [z1]; exact a1⟩
    · by_cases z2 : b = A.ca
      · exact ⟨_, by rw [z2]; exact a2⟩
      · exact ⟨o, kp b o h z1 z2⟩
  have f : Frm s (fun k => k = 1 ∨ k = 2) H H' T T := ⟨fun b o h e n => kp b o h (fun z => n (.inl (by rw [z, th]))) (fun z => n (.inr (by rw [z, tc]))), fun _ _ _ => rfl⟩
  have f0 : ∀ b o, H b = some o → T b = (0, 0) → H' b = some o := fun b o h t => kp b o h (ne_tag t th (fun z => h0 (congrArg Prod.fst z).symm)) (ne_tag t tc (fun z => h0 (congrArg Prod.fst z).symm))
  refine ⟨⟨fun b o h n => kp b o h (fun z => n (by rw [z, th])) (fun z => n (by rw [z, tc])), al, fun _ _ _ => rfl, fun b h => w b ?_⟩, ?_⟩
  · cases z : H b with
    | none => rfl
    | some o => obtain ⟨o', z'⟩ := al b o z; rw [h] at z'; cases z'
  · refine ⟨?_, ⟨th, tc, ⟨dx, a1⟩, by rw [List.map_set]; exact a2⟩, ?_, ?_, j.jd.mv f fun _ _ _ => by omega, ⟨by rw [List.length_set, List.length_set]; exact j.jc.lc, fun k g c e1 e2 => ?_⟩⟩
    · obtain ⟨b1, b2, b3, b4, b5, b6, b7, b8⟩ := j.jb.mv f f0 (by omega) (by omega)
      exact ⟨b1, b2, b3, b4, b5, b6, b7, b8⟩
    · obtain ⟨b1, b2, b3⟩ := j.jn.mv f f0 (by omega)
      exact ⟨b1, b2, b3⟩
    · obtain ⟨b1, b2, b3, b4⟩ := j.js.mv f (by omega) (by omega)
      exact ⟨b1, b2, b3, b4⟩
    · by_cases hk : k = i
      · subst hk
        dsimp only at e1 e2
        rw [List.getElem?_set_self hi] at e1
        rw [List.getElem?_set_self (by rw [← j.jc.lc]; exact hi)] at e2
        cases e1
        cases e2
        trivial
      · dsimp only at e1 e2
        rw [List.getElem?_set_ne (fun z => hk z.symm)] at e1 e2
        exact (j.jc.ce k g c e1 e2).mv f (by omega) (by omega)
end
def fst0 {α : Type} : List (Option α) → Nat
  | [] => 0
  | none :: _ => 0
  | some _ :: l => fst0 l + 1
def putO {α : Type} (l : List (Option α)) (x : α) : List (Option α) := if fst0 l < l.length then l.set (fst0 l) (some x) else l ++ [some x]
theorem fst0_le {α : Type} (l : List (Option α)) : fst0 l ≤ l.length := by
  induction l with
  | nil => exact Nat.le_refl _
  | cons a l ih => cases a with
    | none => exact Nat.zero_le _
    | some a => exact Nat.succ_le_succ ih
theorem fst0_idx {α : Type} {f : Option α → V} (hf : ∀ x, f x = V.non ↔ x = none) (l : List (Option α)) : (l.map f).idxOf V.non = fst0 l ∧ (V.non ∈ l.map f ↔ fst0 l < l.length) := by
  induction l with
  | nil => exact ⟨rfl, ⟨fun z => (nomatch z), fun z => absurd z (Nat.lt_irrefl _)⟩⟩
  | cons a l ih =>
    rw [List.map_cons, List.idxOf_cons]
    cases a with
    | none =>
      have e : f none = V.non := (hf none).mpr rfl
      rw [e]
      exact ⟨rfl, ⟨fun _ => Nat.zero_lt_succ _, fun _ => List.mem_cons_self⟩⟩
    | some a =>
      have e : f (some a) ≠ V.non := fun z => by cases (hf (some a)).mp z
      have b : (f (some a) == V.non) = false := beq_eq_false_iff_ne.mpr e
      rw [b]
      refine ⟨congrArg (· + 1) ih.1, ?_⟩
      show _ ↔ fst0 l + 1 < l.length + 1
      rw [List.mem_cons, ih.2]
      constructor
      · rintro (z | z)
        · exact absurd z.symm e
        · omega
      · intro z
        exact .inr (by omega)
theorem putO_map {α : Type} {f : Option α → V} (hf : ∀ x, f x = V.non ↔ x = none) (l : List (Option α)) (x : α) : putN (l.map f) (f (some x)) = (putO l x).map f := by
  obtain ⟨e1, e2⟩ := fst0_idx hf l
  unfold putN putO
  by_cases z : fst0 l < l.length
  · rw [if_pos z, if_pos (e2.mpr z), List.map_set]
    exact congrArg (fun k => (l.map f).set k (f (some x))) e1
  · rw [if_neg z, if_neg (fun w => z (e2.mp w)), List.map_append]; rfl
theorem pV_non (p : Option (Addr × Addr)) : pV p = V.non ↔ p = none := by cases p <;> simp [pV]
theorem putO_at {α : Type} (l : List (Option α)) (x : α) : (putO l x)[fst0 l]? = some (some x) := by
  unfold putO
  by_cases z : fst0 l < l.length
  · rw [if_pos z, List.getElem?_set_self z]
  · have e : fst0 l = l.length := Nat.le_antisymm (fst0_le l) (by omega)
    rw [if_neg z, e, List.getElem?_append_right (Nat.le_refl _), Nat.sub_self]; rfl
theorem putO_ne {α : Type} {l : List (Option α)} {x : α} {i : Nat} {y : Option α} (hi : i ≠ fst0 l) (h : (putO l x)[i]? = some y) : l[i]? = some y := by
  unfold putO at h
  by_cases z : fst0 l < l.length
  · rw [if_pos z, List.getElem?_set_ne (fun w => hi w.symm)] at h; exact h
  · rw [if_neg z] at h
    have e : fst0 l = l.length := Nat.le_antisymm (fst0_le l) (by omega)
    have hl := (List.getElem?_eq_some_iff.mp h).1
    rw [List.length_append, List.length_singleton] at hl
    rw [List.getElem?_append_left (by omega)] at h
    exact h
theorem putO_len {α β : Type} {l : List (Option α)} {m : List (Option β)} {x : α} {y : β} (hl : l.length = m.length) (hf : fst0 l = fst0 m) : (putO l x).length = (putO m y).length := by
  unfold putO
  by_cases z : fst0 l < l.length
  · rw [if_pos z, if_pos (by omega), List.length_set, List.length_set]; exact hl
  · rw [if_neg z, if_neg (by omega), List.length_append, List.length_append, hl]; rfl
theorem putO_le {α : Type} (l : List (Option α)) (x : α) : (putO l x).length ≤ l.length + 1 := by
  unfold putO
  by_cases z : fst0 l < l.length
  · rw [if_pos z, List.length_set]; omega
  · rw [if_neg z, List.length_append]; exact Nat.le_refl _
theorem fst0_eq {α β : Type} : ∀ (l : List (Option α)) (m : List (Option β)), l.length = m.length → (∀ (i : Nat) x y, l[i]? = some x → m[i]? = some y → (x = none ↔ y = none)) → fst0 l = fst0 m := by
  intro l
  induction l with
  | nil =>
    intro m hl _
    cases m with
    | nil => rfl
    | cons b m => simp at hl
  | cons a l ih =>
    intro m hl h
    cases m with
    | nil => simp at hl
    | cons b m =>
      have ih' := ih m (by simpa using hl) fun i x y h1 h2 => h (i + 1) x y (by simpa using h1) (by simpa using h2)
      have e := h 0 a b rfl rfl
      cases a with
      | none => rw [e.mp rfl]; rfl
      | some a => cases b with
        | none => exact absurd (e.mpr rfl) (fun z => by cases z)
        | some b => exact congrArg (· + 1) ih'
section
variable {X : Cs} {H H' : Hp} {T T' : Tg} {s : Nat} {A : Wa} {M : Wm}
theorem WC.fst (j : WC X H T s A.cs M.cells) : fst0 A.cs = fst0 M.cells := fst0_eq _ _ j.lc fun i p c e1 e2 => by
  have e := j.ce i p c e1 e2
  cases p with
  | none => cases c with
    | none => exact ⟨fun _ => rfl, fun _ => rfl⟩
    | some c => exact e.elim
  | some p => cases c with
    | none => exact e.elim
    | some c => exact ⟨fun z => (by cases z), fun z => (by cases z)⟩
theorem WJ.put (j : WJ X H T s A M) (w : WT H T) (h0 : s ≠ 0) {dx : Addr} {used' : Int} {p fa : Addr} {c : Ce} (kp : ∀ b o, H b = some o → b ≠ A.hp → b ≠ A.ca → H' b = some o) (a1 : H' A.hp = some (.ins X.H dx (heapF M.room A.ca used' (M.born + 1)))) (a2 : H' A.ca = some (.lst (putN (A.cs.map pV) (.ref p))))
    (n1 : H p = none) (n2 : H fa = none) (m1 : p ≠ fa) (o1 : ∃ dx, H' p = some (.ins X.C dx (cellF c.birth c.bulk c.tone c.load fa))) (o2 : H' fa = some (.lst (c.fl.map oV))) :
    ∃ T', Stp s H H' T T' ∧ WJ X H' T' s { A with cs := putO A.cs (p, fa) } { M with used := used', born := M.born + 1, cells := putO M.cells c } := by
  obtain ⟨th, tc, ⟨dd, oh⟩, oc⟩ := j.jh
  have i1 := j.jc.fst
  let k := fst0 A.cs
  let T' : Tg := setT (setT T p (s, 100 + 2 * k)) fa (s, 101 + 2 * k)
  have told : ∀ b o, H b = some o → T' b = T b := fun b o h => by
    show setT _ _ _ b = _
    rw [setT_ne (ne_of_none h n2), setT_ne (ne_of_none h n1)]
  have t1 : T' p = (s, 100 + 2 * k) := by show setT _ _ _ p = _; rw [setT_ne m1, setT_same]
  have t2 : T' fa = (s, 101 + 2 * k) := by show setT _ _ _ fa = _; rw [setT_same]
  have al : ∀ b o, H b = some o → ∃ o', H' b = some o' := fun b o h => by
    by_cases z1 : b = A.hp
    · exact ⟨_, by rw [z1]; exact a1⟩
    · by_cases z2 : b = A.ca
      · exact ⟨_, by rw [z2]; exact a2⟩
      · exact ⟨o, kp b o h z1 z2⟩
  have f : Frm s (fun k => k = 1 ∨ k = 2) H H' T T' := ⟨fun b o h e n => kp b o h (fun z => n (.inl (by rw [z, th]))) (fun z => n (.inr (by rw [z, tc]))), told⟩
  have f0 : ∀ b o, H b = some o → T b = (0, 0) → H' b = some o := fun b o h t => kp b o h (ne_tag t th (fun z => h0 (congrArg Prod.fst z).symm)) (ne_tag t tc (fun z => h0 (congrArg Prod.fst z).symm))
  refine ⟨T', ⟨fun b o h nn => kp b o h (fun z => nn (by rw [z, th])) (fun z => nn (by rw [z, tc])), al, told, fun b h => ?_⟩, ?_⟩
  · have b1 : b ≠ p := fun e => by obtain ⟨d, z⟩ := o1; rw [e, z] at h; cases h
    have b2 : b ≠ fa := fun e => by rw [e, o2] at h; cases h
    have hb : H b = none := by
      cases z : H b with
      | none => rfl
      | some o => obtain ⟨o', z'⟩ := al b o z; rw [h] at z'; cases z'
    show setT _ _ _ b = _
    rw [setT_ne b2, setT_ne b1]
    exact w b hb
  · refine ⟨?_, ⟨f.tag oh th, f.tag oc tc, ⟨dx, a1⟩, ?_⟩, ?_, ?_, j.jd.mv f fun _ _ _ => by omega, ⟨putO_len j.jc.lc i1, fun i g cc e1 e2 => ?_⟩⟩
    · obtain ⟨b1, b2, b3, b4, b5, b6, b7, b8⟩ := j.jb.mv f f0 (by omega) (by omega)
      exact ⟨b1, b2, b3, b4, b5, b6, b7, b8⟩
    · show H' A.ca = some (.lst ((putO A.cs (p, fa)).map pV))
      rw [← putO_map pV_non]; exact a2
    · obtain ⟨b1, b2, b3⟩ := j.jn.mv f f0 (by omega)
      exact ⟨b1, b2, b3⟩
    · obtain ⟨b1, b2, b3, b4⟩ := j.js.mv f (by omega) (by omega)
      exact ⟨b1, b2, b3, b4⟩
    · dsimp only at e1 e2
      by_cases hk : i = fst0 A.cs
      · subst hk
        rw [putO_at] at e1
        rw [i1, putO_at] at e2
        cases e1
        cases e2
        exact ⟨t1, t2, o1, o2⟩
      · exact (j.jc.ce i g cc (putO_ne hk e1) (putO_ne (by rw [← i1]; exact hk) e2)).mv f (by omega) (by omega)
end
def cellAt (M : Wm) (x : Int) : Option Ce := if 0 ≤ x then (M.cells[x.toNat]?).join else none
def bAt (M : Wm) : Option Int → Option Int
  | none => none
  | some x => (cellAt M x).map (·.birth)
def slotOf (M : Wm) (h k : Nat) : Option Int := ((M.hands[h]?).bind fun m => m.2[k]?).join
def setSlot (M : Wm) (h k : Nat) (x : Option Int) : Wm := { M with hands := M.hands.modify h fun m => (m.1, m.2.set k x) }
def setCell (M : Wm) (i : Int) (c : Ce) : Wm := { M with cells := M.cells.set i.toNat (some c) }
def noteM (M : Wm) : Option Int → Option Int × Wm
  | none => (none, M)
  | some i => match cellAt M i with
    | none => (none, M)
    | some c => if M.sw.phase = "walk" ∧ c.tone ≠ M.sw.sense then (some c.birth, { setCell M i { c with tone := M.sw.sense } with sw := { M.sw with grey := M.sw.grey ++ [i] } }) else (none, M)
def lookedAt (M : Wm) (h : Nat) : Bool := decide (M.sw.looked / 2 ^ h % 2 = 1)
def goneM (M : Wm) (place birth : Int) : Bool := match cellAt M place with
  | none => true
  | some c => if c.birth = birth then decide (M.sw.phase = "give" ∧ c.tone ≠ M.sw.sense) else true
def putNm (l : List (Str × (Int × Int))) (k : Str) (v : Int × Int) : List (Str × (Int × Int)) := if (l.any fun m => decide (m.1 = k)) = true then l.map (fun m => if m.1 = k then (m.1, v) else m) else l ++ [(k, v)]
def getNm (l : List (Str × (Int × Int))) (k : Str) : Option (Int × Int) := (l.find? fun m => decide (m.1 = k)).map (·.2)
inductive Rf where
  | full | empty | nofield | noname
  deriving DecidableEq
structure Ev where
  word : Str
  thing : Option Int
  notes : List Int
inductive Deed where
  | make (h s : Nat) (many bulk : Int)
  | get (h s t f : Nat)
  | put (h t f s : Nat)
  | copy (h s t : Nat)
  | drop (h s : Nat)
  | give (h s g t : Nat)
  | write (h t : Nat) (load : Int)
  | read (h t : Nat)
  | name (h t : Nat) (word : Str)
  | seek (h s : Nat) (word : Str)
def old? (M : Wm) : Bool := decide (M.tells % 2 = 1)
def new? (M : Wm) : Bool := decide (M.tells / 2 % 2 = 1)
def ofN : Option Int → List Int
  | none => []
  | some b => [b]
def notesM (M : Wm) : List (Option Int) → List Int × Wm
  | [] => ([], M)
  | x :: l => (ofN (noteM M x).1 ++ (notesM (noteM M x).2 l).1, (notesM (noteM M x).2 l).2)
def doM (M : Wm) : Deed → Except Rf (Ev × Wm)
  | .make h s many bulk =>
    if M.used + (1 + many + bulk) ≤ M.room then
      .ok (⟨"made", some (M.born + 1), []⟩, setSlot { M with used := M.used + (1 + many + bulk), born := M.born + 1, cells := putO M.cells ⟨M.born + 1, bulk, M.sw.sense, 0, List.replicate many.toNat none⟩ } h s (some (fst0 M.cells)))
    else .error .full
  | .get h s t f => match slotOf M h t with
    | none => .error .empty
    | some x => match cellAt M x with
      | none => .error .empty
      | some c => match c.fl[f]? with
        | none => .error .nofield
        | some v => .ok (⟨"got", bAt M v, []⟩, setSlot M h s v)
  | .put h t f s => match slotOf M h t with
    | none => .error .empty
    | some x => match cellAt M x with
      | none => .error .empty
      | some c => match c.fl[f]? with
        | none => .error .nofield
        | some v =>
          let M1 := setCell M x { c with fl := c.fl.set f (slotOf M h s) }
          let r := notesM M1 ((if old? M = true then [v] else []) ++ if (new? M && !lookedAt M h) = true then [slotOf M h s] else [])
          .ok (⟨"put", bAt M v, r.1⟩, r.2)
  | .copy h s t => .ok (⟨"copied", bAt M (slotOf M h t), []⟩, setSlot M h s (slotOf M h t))
  | .drop h s => .ok (⟨"dropped", bAt M (slotOf M h s), []⟩, setSlot M h s none)
  | .give h s g t =>
    let r := notesM (setSlot M g t (slotOf M h s)) (if (new? M && !lookedAt M h) = true then [slotOf M h s] else [])
    .ok (⟨"given", bAt M (slotOf M h s), r.1⟩, r.2)
  | .write h t load => match slotOf M h t with
    | none => .error .empty
    | some x => match cellAt M x with
      | none => .error .empty
      | some c => .ok (⟨"wrote", some c.load, []⟩, setCell M x { c with load := load })
  | .read h t => match slotOf M h t with
    | none => .error .empty
    | some x => match cellAt M x with
      | none => .error .empty
      | some c => .ok (⟨"read", some c.load, []⟩, M)
  | .name h t word => match slotOf M h t with
    | none => .error .empty
    | some x => match cellAt M x with
      | none => .error .empty
      | some c => .ok (⟨"named", some c.birth, []⟩, { M with names := putNm M.names word (x, c.birth) })
  | .seek h s word => match getNm M.names word with
    | none => .error .noname
    | some (p, b) =>
      if goneM M p b = true then .ok (⟨"sought", none, []⟩, setSlot M h s none)
      else
        let r := notesM (setSlot M h s (some p)) [some p]
        .ok (⟨"sought", some b, r.1⟩, r.2)
def dV : Deed → List V
  | .make h s many bulk => [.str "make", .int h, .int s, .int many, .int bulk]
  | .get h s t f => [.str "get", .int h, .int s, .int t, .int f]
  | .put h t f s => [.str "put", .int h, .int t, .int f, .int s]
  | .copy h s t => [.str "copy", .int h, .int s, .int t]
  | .drop h s => [.str "drop", .int h, .int s]
  | .give h s g t => [.str "give", .int h, .int s, .int g, .int t]
  | .write h t load => [.str "write", .int h, .int t, .int load]
  | .read h t => [.str "read", .int h, .int t]
  | .name h t word => [.str "name", .int h, .int t, .str word]
  | .seek h s word => [.str "seek", .int h, .int s, .str word]
def okS (M : Wm) (h s : Nat) : Prop := ∃ m, M.hands[h]? = some m ∧ s < m.2.length
def okD (M : Wm) : Deed → Prop
  | .make h s many bulk => okS M h s ∧ 0 ≤ many ∧ many ≤ 1000 ∧ 0 ≤ bulk
  | .get h s t _ => okS M h s ∧ okS M h t
  | .put h t _ s => okS M h t ∧ okS M h s
  | .copy h s t => okS M h s ∧ okS M h t
  | .drop h s => okS M h s
  | .give h s g t => okS M h s ∧ okS M g t
  | .write h t _ => okS M h t
  | .read h t => okS M h t
  | .name h t _ => okS M h t
  | .seek h s _ => okS M h s
structure Ok (M : Wm) : Prop where
  sl : ∀ m ∈ M.hands, ∀ x, some x ∈ m.2 → ∃ c, cellAt M x = some c
  fl : ∀ c, some c ∈ M.cells → ∀ x, some x ∈ c.fl → ∃ d, cellAt M x = some d
  tn : ∀ c, some c ∈ M.cells → c.tone = 0 ∨ c.tone = 1
def rfA (CFull CEmpty CNoField CNoName : Addr) : Rf → Addr
  | .full => CFull
  | .empty => CEmpty
  | .nofield => CNoField
  | .noname => CNoName
def EvO (H : Hp) (a : Addr) (e : Ev) : Prop := ∃ l, H a = some (.tup [.str e.word, oV e.thing, .ref l]) ∧ H l = some (.lst (e.notes.map V.int))
def EvN (H0 H : Hp) (a : Addr) (e : Ev) : Prop := ∃ l, H0 l = none ∧ H a = some (.tup [.str e.word, oV e.thing, .ref l]) ∧ H l = some (.lst (e.notes.map V.int))
def S_deed (X : Cs) (rf : Rf → Addr) (P : Deed → Prop) : Sp := fun vs H Q E => ∃ wo dd, vs = [.ref wo, .ref dd] ∧ ∃ T s A M d, P d ∧ WT H T ∧ s ≠ 0 ∧ WJ X H T s A M ∧ A.wo = wo ∧ H dd = some (.tup (dV d)) ∧ okD M d ∧ Ok M ∧ M.cells.length ≤ 900 ∧ (M.sw.phase = "walk" → M.sw.grey.length ≤ 10000) ∧ (0 ≤ M.tells ∧ M.tells < 4) ∧ M.names.length ≤ 1000 ∧
  (∀ r, doM M d = .error r → ∀ H', Same H H' → E (.ref (rf r)) none H') ∧
  (∀ e M', doM M d = .ok (e, M') → ∀ H' T' A' a, Stp s H H' T T' → WJ X H' T' s A' M' → A'.wo = wo → EvN H H' a e → Q (.ref a) H')
abbrev S_do (X : Cs) (rf : Rf → Addr) : Sp := S_deed X rf fun _ => True
theorem cellAt_some {M : Wm} {x : Int} {c : Ce} : cellAt M x = some c ↔ 0 ≤ x ∧ M.cells[x.toNat]? = some (some c) := by
  unfold cellAt
  by_cases z : 0 ≤ x
  · rw [if_pos z]
    cases e : M.cells[x.toNat]? with
    | none => simp
    | some y => cases y with
      | none => simp
      | some d => simp [z]
  · rw [if_neg z]
    simp [z]
theorem mem_putO {α : Type} {l : List (Option α)} {x : α} {y : Option α} (h : y ∈ putO l x) : y ∈ l ∨ y = some x := by
  unfold putO at h
  by_cases z : fst0 l < l.length
  · rw [if_pos z] at h
    rcases List.mem_or_eq_of_mem_set h with h | h
    · exact .inl h
    · exact .inr h
  · rw [if_neg z] at h
    rcases List.mem_append.mp h with h | h
    · exact .inl h
    · exact .inr (List.mem_singleton.mp h)
theorem setSlot_hands {M : Wm} {h k : Nat} {x : Option Int} {m : Str × List (Option Int)} (hm : M.hands[h]? = some m) : (setSlot M h k x).hands = M.hands.set h (m.1, m.2.set k x) := by
  show M.hands.modify h _ = _
  apply List.ext_getElem?
  intro i
  rw [List.getElem?_modify]
  by_cases e : h = i
  · subst e
    rw [List.getElem?_set_self (List.getElem?_eq_some_iff.mp hm).1, hm]
    simp
  · rw [List.getElem?_set_ne e]
    simp [e]
def rowsOf (M : Wm) : List (List (Option Int)) := M.hands.map fun m => m.2.map (bAt M)
theorem noteM_rest {M : Wm} (h : M.sw.phase ≠ "walk") (x : Option Int) : noteM M x = (none, M) := by
  cases x with
  | none => rfl
  | some x =>
    unfold noteM
    dsimp only
    cases cellAt M x with
    | none => rfl
    | some c =>
      dsimp only
      rw [if_neg (fun z => h z.1)]
structure TxW (K : PySem.W.Frag) (X : Cs) : Prop where
  c : TxC K X.C X.H
  cW : Cls K X.W
  nWh : NoAttr K X.W "heap"
  nWk : NoAttr K X.W "kind"
  nWd : NoAttr K X.W "hands"
  nWn : NoAttr K X.W "names"
  nWs : NoAttr K X.W "sweeper"
  cD : Cls K X.D
  nDn : NoAttr K X.D "name"
  nDs : NoAttr K X.D "slots"
  cK : Cls K X.K
  nKl : NoAttr K X.K "looking"
  nKt : NoAttr K X.K "tells"
  cS : Cls K X.S
  n1 : NoAttr K X.S "sense"
  n2 : NoAttr K X.S "phase"
  n3 : NoAttr K X.S "grey"
  n4 : NoAttr K X.S "looked"
  n5 : NoAttr K X.S "turn"
  n6 : NoAttr K X.S "at"
  n7 : NoAttr K X.S "stop"
  n8 : NoAttr K X.S "walks"
  n9 : NoAttr K X.S "looks"
  n10 : NoAttr K X.S "passes"
  n11 : NoAttr K X.S "loss"
structure WJ0 (X : Cs) (H : Hp) (T : Tg) (s : Nat) (A : Wa) (M : Wm) : Prop where
  jb : WB X H T s A M.w M.tells
  jh : WH X H T s A M.room M.used M.born
  js : WS X H T s A M.sw
  jd : WD X H T s A.hs M.hands
  jc : WC X H T s A.cs M.cells
theorem WJ.w0 {X : Cs} {H : Hp} {T : Tg} {s : Nat} {A : Wa} {M : Wm} (j : WJ X H T s A M) : WJ0 X H T s A M := ⟨j.jb, j.jh, j.js, j.jd, j.jc⟩
theorem WJ.names {X : Cs} {H : Hp} {T : Tg} {s : Nat} {A : Wa} {M : Wm} {o : HO} (j : WJ X H T s A M) (h0 : s ≠ 0) : WJ0 X (upd H A.nm o) T s A M := by
  have f : Frm s (· = 6) H (upd H A.nm o) T T := Frm.of_upd j.jn.tm
  exact ⟨j.jb.mv f (f0_upd h0 j.jn.tm) (by omega) (by omega), j.jh.mv f (by omega) (by omega), j.js.mv f (by omega) (by omega), j.jd.mv f fun _ _ _ => by omega, j.jc.mv f fun _ _ => by omega⟩
theorem WJ0.same {X : Cs} {H H' : Hp} {T : Tg} {s : Nat} {A : Wa} {M : Wm} (j : WJ0 X H T s A M) (e : Same H H') : WJ0 X H' T s A M := by
  have f : Frm s (fun _ => False) H H' T T := Frm.of_same e
  exact ⟨j.jb.mv f (fun b o h _ => e b o h) id id, j.jh.mv f id id, j.js.mv f id id, j.jd.mv f fun _ _ _ => id, j.jc.mv f fun _ _ => id⟩
def atO (cs : List V) : V → V
  | .int i => if 0 ≤ i then (cs[i.toNat]?).getD .non else .non
  | _ => .non
def S_cell_at (CH : Addr) : Sp := fun vs H Q E => ∃ hp pl, vs = [.ref hp, pl] ∧ (pl = .non ∨ ∃ i, pl = .int i) ∧ ∃ ca room used born cs, HpO CH H hp ca room used born cs ∧ Q (atO cs pl) H
def cO (M : Wm) (x : Option Int) : Option Ce := x.bind (cellAt M)
def S_birth_at (X : Cs) : Sp := fun vs H Q E => ∃ hp pl, vs = [.ref hp, pl] ∧ ∃ x, pl = oV x ∧ ∃ T s A M, WJ X H T s A M ∧ A.hp = hp ∧ Q (oV (bAt M x)) H
def S_has_field (X : Cs) : Sp := fun vs H Q E => ∃ p f, vs = [.ref p, .int f] ∧ ∃ T s i q c, CeO X.C H T s i q c ∧ q.1 = p ∧ Q (.bl (decide (0 ≤ f) && decide (f < c.fl.length))) H
def S_slots_of (X : Cs) : Sp := fun vs H Q E => ∃ wo h, vs = [.ref wo, .int h] ∧ ∃ T s A M k p, WJ X H T s A M ∧ A.wo = wo ∧ h = ((k : Nat) : Int) ∧ A.hs[k]? = some p ∧ Q (.ref p.2) H
def S_has_sense (X : Cs) : Sp := fun vs H Q E => ∃ wo p, vs = [.ref wo, .ref p] ∧ ∃ T s A M i q c, WJ0 X H T s A M ∧ A.wo = wo ∧ CeO X.C H T s i q c ∧ q.1 = p ∧ Q (.bl (decide (c.tone = M.sw.sense))) H
def S_looked_at (X : Cs) : Sp := fun vs H Q E => ∃ wo h, vs = [.ref wo, .int h] ∧ ∃ T s A M k, WJ X H T s A M ∧ A.wo = wo ∧ h = ((k : Nat) : Int) ∧ Q (.bl (lookedAt M k)) H
def S_told_old (X : Cs) : Sp := fun vs H Q E => ∃ wo v, vs = [.ref wo, v] ∧ ∃ T s A M, WJ X H T s A M ∧ A.wo = wo ∧ (0 ≤ M.tells ∧ M.tells < 4) ∧ ∀ l, H l = none → Q (.ref l) (upd H l (.lst (if old? M = true then [v] else [])))
def S_told_new (X : Cs) : Sp := fun vs H Q E => ∃ wo h v, vs = [.ref wo, .int h, v] ∧ ∃ T s A M k, WJ X H T s A M ∧ A.wo = wo ∧ (0 ≤ M.tells ∧ M.tells < 4) ∧ h = ((k : Nat) : Int) ∧ ∀ l, H l = none → Q (.ref l) (upd H l (.lst (if (new? M && !lookedAt M k) = true then [v] else [])))
def S_cell_in (X : Cs) (CE : Addr) : Sp := fun vs H Q E => ∃ wo h t, vs = [.ref wo, .int h, .int t] ∧ ∃ T s A M hn tn, WJ X H T s A M ∧ A.wo = wo ∧ h = ((hn : Nat) : Int) ∧ t = ((tn : Nat) : Int) ∧ okS M hn tn ∧
  (cO M (slotOf M hn tn) = none → E (.ref CE) none H) ∧
  (∀ i c p, slotOf M hn tn = some i → 0 ≤ i → cellAt M i = some c → A.cs[i.toNat]? = some (some p) → CeO X.C H T s i.toNat p c → Q (.ref p.1) H)
def S_fields_in (X : Cs) (CE CF : Addr) : Sp := fun vs H Q E => ∃ wo h t f, vs = [.ref wo, .int h, .int t, .int f] ∧ ∃ T s A M hn tn fn, WJ X H T s A M ∧ A.wo = wo ∧ h = ((hn : Nat) : Int) ∧ t = ((tn : Nat) : Int) ∧ f = ((fn : Nat) : Int) ∧ okS M hn tn ∧
  (cO M (slotOf M hn tn) = none → E (.ref CE) none H) ∧
  (∀ i c, slotOf M hn tn = some i → 0 ≤ i → cellAt M i = some c → c.fl[fn]? = none → E (.ref CF) none H) ∧
  (∀ i c p, slotOf M hn tn = some i → 0 ≤ i → cellAt M i = some c → A.cs[i.toNat]? = some (some p) → CeO X.C H T s i.toNat p c → fn < c.fl.length → Q (.ref p.2) H)
def S_note (X : Cs) : Sp := fun vs H Q E => ∃ wo pl, vs = [.ref wo, pl] ∧ ∃ x, pl = oV x ∧ ∃ T s A M, WT H T ∧ s ≠ 0 ∧ WJ X H T s A M ∧ A.wo = wo ∧ (M.sw.phase = "walk" → M.sw.grey.length ≤ 20000) ∧
  ∀ H', Stp s H H' T T → WJ X H' T s A (noteM M x).2 → Q (oV (noteM M x).1) H'
def S_note_all (X : Cs) : Sp := fun vs H Q E => ∃ wo pl, vs = [.ref wo, .ref pl] ∧ ∃ xs T s A M, WT H T ∧ s ≠ 0 ∧ WJ X H T s A M ∧ A.wo = wo ∧ H pl = some (.lst (xs.map oV)) ∧ T pl = (0, 0) ∧ xs.length ≤ 100 ∧ (M.sw.phase = "walk" → M.sw.grey.length ≤ 10000) ∧
  ∀ H' T' l, Stp s H H' T T' → WJ X H' T' s A (notesM M xs).2 → H' l = some (.lst ((notesM M xs).1.map V.int)) → H l = none → Q (.ref l) H'
def S_gone (X : Cs) : Sp := fun vs H Q E => ∃ wo p b, vs = [.ref wo, .int p, .int b] ∧ ∃ T s A M, WJ0 X H T s A M ∧ A.wo = wo ∧ Q (.bl (goneM M p b)) H
def S_place_named (X : Cs) (CN : Addr) : Sp := fun vs H Q E => ∃ wo z, vs = [.ref wo, .str z] ∧ ∃ T s A M, WJ X H T s A M ∧ A.wo = wo ∧ (getNm M.names z = none → E (.ref CN) none H) ∧ (∀ p b, getNm M.names z = some (p, b) → Q (if goneM M p b = true then .non else .int p) H)
theorem oV_cases (x : Option Int) : oV x = .non ∨ ∃ i, oV x = .int i := by cases x with
  | none => exact .inl rfl
  | some i => exact .inr ⟨i, rfl⟩
section
variable {X : Cs} {H H' : Hp} {T T' : Tg} {s : Nat} {A : Wa} {M : Wm}
theorem WJ0.hpO (j : WJ0 X H T s A M) : HpO X.H H A.hp A.ca M.room M.used M.born (A.cs.map pV) := ⟨j.jh.oh, j.jh.oc⟩
theorem WJ0.look (j : WJ0 X H T s A M) (x : Option Int) : (cO M x = none ∧ atO (A.cs.map pV) (oV x) = .non) ∨ ∃ i c p, x = some i ∧ 0 ≤ i ∧ cellAt M i = some c ∧ M.cells[i.toNat]? = some (some c) ∧ A.cs[i.toNat]? = some (some p) ∧ atO (A.cs.map pV) (oV x) = .ref p.1 ∧ CeO X.C H T s i.toNat p c := by
  cases x with
  | none => exact .inl ⟨rfl, rfl⟩
  | some i =>
    show (cellAt M i = none ∧ atO _ (.int i) = _) ∨ _
    by_cases h0 : 0 ≤ i
    · cases hc : M.cells[i.toNat]? with
      | none =>
        have hl : A.cs[i.toNat]? = none := by
          rw [List.getElem?_eq_none_iff] at hc ⊢
          rw [j.jc.lc]; exact hc
        refine .inl ⟨by unfold cellAt; rw [if_pos h0, hc]; rfl, ?_⟩
        show (if 0 ≤ i then _ else _) = _
        rw [if_pos h0, List.getElem?_map, hl]; rfl
      | some y => cases y with
        | none =>
          refine .inl ⟨by unfold cellAt; rw [if_pos h0, hc]; rfl, ?_⟩
          show (if 0 ≤ i then _ else _) = _
          rw [if_pos h0, List.getElem?_map, j.jc.at0 hc]; rfl
        | some c =>
          obtain ⟨p, hp, e⟩ := j.jc.at hc
          refine .inr ⟨i, c, p, rfl, h0, by unfold cellAt; rw [if_pos h0, hc]; rfl, hc, hp, ?_, e⟩
          show (if 0 ≤ i then _ else _) = _
          rw [if_pos h0, List.getElem?_map, hp]; rfl
    · refine .inl ⟨by unfold cellAt; rw [if_neg h0], ?_⟩
      show (if 0 ≤ i then _ else _) = _
      rw [if_neg h0]
theorem WJ.hpO (j : WJ X H T s A M) : HpO X.H H A.hp A.ca M.room M.used M.born (A.cs.map pV) := j.w0.hpO
theorem WJ.look (j : WJ X H T s A M) (x : Option Int) : (cO M x = none ∧ atO (A.cs.map pV) (oV x) = .non) ∨ ∃ i c p, x = some i ∧ 0 ≤ i ∧ cellAt M i = some c ∧ M.cells[i.toNat]? = some (some c) ∧ A.cs[i.toNat]? = some (some p) ∧ atO (A.cs.map pV) (oV x) = .ref p.1 ∧ CeO X.C H T s i.toNat p c := j.w0.look x
theorem WJ.hand (j : WJ X H T s A M) {k : Nat} {p : Addr × Addr} (hp : A.hs[k]? = some p) : ∃ m, M.hands[k]? = some m ∧ HdO X.D H T s k p m := by
  have hl : k < M.hands.length := by rw [← j.jd.lh]; exact (List.getElem?_eq_some_iff.mp hp).1
  exact ⟨_, List.getElem?_eq_getElem hl, j.jd.hd k p _ hp (List.getElem?_eq_getElem hl)⟩
theorem WJ.fresh (j : WJ X H T s A M) {l : Addr} {o : HO} {v : Nat × Nat} (h : H l = none) : WJ X (upd H l o) (setT T l v) s A M :=
  j.mv (H' := upd H l o) (T' := setT T l v) ⟨fun b u e _ _ => by rw [upd_ne (ne_of_none e h)]; exact e, fun b u e => setT_ne (ne_of_none e h)⟩ fun b u e _ => by rw [upd_ne (ne_of_none e h)]; exact e
end
section
variable {K : PySem.W.Frag} {X : Cs} {H : Hp} {Q : VK} {E : XK} {n : St → Hp → Prop} {bk ct : St → Hp → Prop}
theorem cell_at_rd {hp : Addr} {pl : V} (T : TxW K X) (q : (pl = .non ∨ ∃ i, pl = .int i) ∧ ∃ ca room used born cs, HpO X.H H hp ca room used born cs ∧ Q (atO cs pl) H) : rd_cell_at K ⟨n, Q, bk, ct⟩ [some (.ref hp), some pl] H := by
  obtain ⟨hpl, ca, room, used, born, cs, ⟨⟨dx, h1⟩, h2⟩, q⟩ := q
  unfold rd_cell_at
  rcases hpl with rfl | ⟨i, rfl⟩
  · walk_at "ev"
    exact q
  · walk_at "ev"
    refine ifd (fun z => ?_) (fun z => ?_)
    · walk_at "ev"
      rw [show atO cs (.int i) = .non from if_neg (by omega)] at q
      exact q
    · rw [show atO cs (.int i) = (cs[i.toNat]?).getD .non from if_pos (by omega)] at q
      walk_at "ev"
      refine i_fldK h1 T.c.cl_Heap T.c.n_Heap_cells heapF_lk_cells ?_
      walk_at "ev"
      refine i_lenL (SqL.of h2) ?_
      walk_at "ev"
      refine ifd (fun y => ?_) (fun y => ?_)
      · walk_at "ev"
        rw [List.getElem?_eq_none_iff.mpr (by omega)] at q
        exact q
      · walk_at "ev"
        refine i_fldK h1 T.c.cl_Heap T.c.n_Heap_cells heapF_lk_cells ?_
        walk_at "ev"
        have hl : i.toNat < cs.length := by omega
        refine i_ixL (SqL.of h2) (atI_int (by omega) (List.getElem?_eq_getElem hl)) ?_
        rw [List.getElem?_eq_getElem hl] at q
        exact q
theorem has_sense_rd {wo p : Addr} (T : TxW K X) (q : ∃ T s A M i q c, WJ0 X H T s A M ∧ A.wo = wo ∧ CeO X.C H T s i q c ∧ q.1 = p ∧ Q (.bl (decide (c.tone = M.sw.sense))) H) : rd_has_sense K ⟨n, Q, bk, ct⟩ [some (.ref wo), some (.ref p)] H := by
  obtain ⟨Tg, s, A, M, i, r, c, j, rfl, ⟨t1, t2, ⟨dx, o1⟩, o2⟩, rfl, q⟩ := q
  obtain ⟨d1, ow⟩ := j.jb.ow
  obtain ⟨d2, os⟩ := j.js.os
  unfold rd_has_sense
  walk_at "ev"
  refine i_fldK o1 T.c.cl_Cell T.c.n_Cell_tone cellF_lk_tone ?_
  walk_at "ev"
  refine i_fldK ow T.cW T.nWs worldF_lk_sweeper ?_
  walk_at "ev"
  refine i_fldK os T.cS T.n1 sweepF_lk_sense ?_
  walk_at "ev"
  exact q
end
section
variable {K : PySem.W.Frag} {X : Cs} {H : Hp} {Q : VK} {E : XK} {n : St → Hp → Prop} {bk ct : St → Hp → Prop} {CE CF CN : Addr}
theorem gone_rd {wo : Addr} {pl b : Int} (T : TxW K X) (q : ∃ T s A M, WJ0 X H T s A M ∧ A.wo = wo ∧ Q (.bl (goneM M pl b)) H) : rd_gone K (S_cell_at X.H) (S_has_sense X) ⟨n, Q, bk, ct⟩ [some (.ref wo), some (.int pl), some (.int b), none] H := by
  obtain ⟨Tg, s, A, M, j, rfl, q⟩ := q
  obtain ⟨d1, ow⟩ := j.jb.ow
  obtain ⟨d2, os⟩ := j.js.os
  unfold rd_gone
  walk_at "ev"
  refine i_fldK ow T.cW T.nWh worldF_lk_heap ?_
  walk_at "ev"
  refine ⟨_, _, rfl, oV_cases (some pl), _, _, _, _, _, j.hpO, ?_⟩
  unfold goneM at q
  rcases j.look (some pl) with ⟨e1, e2⟩ | ⟨i, c, p, ei, h0, ec, _, hp, e2, ce⟩
  · rw [show atO (A.cs.map pV) (.int pl) = .non from e2]
    rw [show cellAt M pl = none from e1] at q
    walk_at "ev"
    exact q
  · cases ei
    rw [show atO (A.cs.map pV) (.int pl) = .ref p.1 from e2]
    rw [ec] at q
    dsimp only at q
    obtain ⟨t1, t2, ⟨dx, o1⟩, o2⟩ := id ce
    walk_at "ev"
    refine i_fldK o1 T.c.cl_Cell T.c.n_Cell_birth cellF_lk_birth ?_
    walk_at "ev"
    refine ifnd (fun z => ?_) (fun z => ?_)
    · rw [if_neg z] at q
      walk_at "ev"
      exact q
    · rw [if_pos z] at q
      walk_at "ev"
      refine i_fldK ow T.cW T.nWs worldF_lk_sweeper ?_
      walk_at "ev"
      refine i_fldK os T.cS T.n2 sweepF_lk_phase ?_
      walk_at "ev"
      refine ifd (fun y => ?_) (fun y => ?_)
      · walk_at "ev"
        refine ⟨_, _, rfl, Tg, s, A, M, _, p, c, j, rfl, ce, rfl, ?_⟩
        walk_at "ev"
        have : decide (M.sw.phase = "give" ∧ c.tone ≠ M.sw.sense) = !decide (c.tone = M.sw.sense) := by simp [y]
        rw [this] at q
        exact q
      · have : decide (M.sw.phase = "give" ∧ c.tone ≠ M.sw.sense) = false := decide_eq_false fun w => y w.1
        rw [this] at q
        exact q
theorem note_rd {wo : Addr} {pl : V} (T : TxW K X) (q : ∃ x, pl = oV x ∧ ∃ T s A M, WT H T ∧ s ≠ 0 ∧ WJ X H T s A M ∧ A.wo = wo ∧ (M.sw.phase = "walk" → M.sw.grey.length ≤ 20000) ∧
  ∀ H', Stp s H H' T T → WJ X H' T s A (noteM M x).2 → Q (oV (noteM M x).1) H') : rd_note K (S_cell_at X.H) (S_has_sense X) ⟨n, Q, bk, ct⟩ [some (.ref wo), some pl, none, none] H := by
  obtain ⟨x, rfl, Tg, s, A, M, w, s0, j, rfl, hg, q⟩ := q
  obtain ⟨d1, ow⟩ := j.jb.ow
  obtain ⟨d2, os⟩ := j.js.os
  unfold rd_note
  walk_at "ev"
  refine i_fldK ow T.cW T.nWs worldF_lk_sweeper ?_
  walk_at "ev"
  refine i_fldK ow T.cW T.nWh worldF_lk_heap ?_
  walk_at "ev"
  refine ⟨_, _, rfl, oV_cases x, _, _, _, _, _, j.hpO, ?_⟩
  walk_at "ev"
  refine i_fldK os T.cS T.n2 sweepF_lk_phase ?_
  walk_at "ev"
  have stay : noteM M x = (none, M) → Q .non H := fun e => by
    have := q H (Stp.refl w)
    rw [e] at this
    exact this j
  refine ifnd (fun z => ?_) (fun z => ?_)
  · walk_at "ev"
    exact stay (noteM_rest z x)
  · rcases j.look x with ⟨e1, e2⟩ | ⟨i, c, p, rfl, h0, ec, hc, hp, e2, ce⟩
    · rw [e2]
      walk_at "ev"
      refine stay ?_
      cases x with
      | none => rfl
      | some i => unfold noteM; dsimp only; rw [show cellAt M i = none from e1]
    · rw [e2]
      obtain ⟨t1, t2, ⟨dx, o1⟩, o2⟩ := id ce
      walk_at "ev"
      refine ⟨_, _, rfl, Tg, s, A, M, _, p, c, j.w0, rfl, ce, rfl, ?_⟩
      by_cases y : c.tone = M.sw.sense
      · rw [decide_eq_true y]
        walk_at "ev"
        refine stay ?_
        unfold noteM; dsimp only; rw [ec]; dsimp only; rw [if_neg fun w => w.2 y]
      · rw [decide_eq_false y]
        have en : noteM M (some i) = (some c.birth, { setCell M i { c with tone := M.sw.sense } with sw := { M.sw with grey := M.sw.grey ++ [i] } }) := by
          unfold noteM; dsimp only; rw [ec]; dsimp only; rw [if_pos ⟨z, y⟩]
        rw [en] at q
        walk_at "ev"
        refine i_fldK os T.cS T.n1 sweepF_lk_sense ?_
        walk_at "ev"
        refine ⟨p.1, X.C, dx, _, rfl, o1, T.c.cl_Cell, T.c.n_Cell_tone, by show 5 < 1000; decide, ?_⟩
        rw [cellF_put_tone]
        obtain ⟨st1, j1⟩ := j.cell w s0 (dx := dx) (tone := M.sw.sense) (load := c.load) hp ce
        generalize upd H p.1 (.ins X.C dx (cellF c.birth c.bulk M.sw.sense c.load p.2)) = H1 at st1 j1 ⊢
        obtain ⟨d3, os1⟩ := j1.js.os
        obtain ⟨p1, hp1, ce1⟩ := j1.jc.at (i := i.toNat) (c := { c with tone := M.sw.sense, load := c.load }) (by rw [List.getElem?_set_self (List.getElem?_eq_some_iff.mp hc).1])
        rw [hp] at hp1
        cases hp1
        walk_at "ev"
        refine i_fldK os1 T.cS T.n3 sweepF_lk_grey ?_
        walk_at "ev"
        have hgl := hg z
        refine ⟨.inl ⟨rfl, _, SqL.of j1.js.og⟩, ?_⟩
        walk_at "ev"
        refine ⟨_, _, _, rfl, rfl, j1.js.og, ?_, ?_⟩
        · rw [List.length_map]
          exact Nat.lt_of_le_of_lt hgl (by decide)
        obtain ⟨st2, j2⟩ := j1.greys st1.wt s0 (g := M.sw.grey ++ [i])
        have eg : (M.sw.grey.map V.int ++ [V.int i]) = (M.sw.grey ++ [i]).map V.int := by rw [List.map_append]; rfl
        show tRet _ _ _ (upd H1 A.gr (.lst (M.sw.grey.map V.int ++ [oV (some i)])))
        rw [show (M.sw.grey.map V.int ++ [oV (some i)]) = (M.sw.grey ++ [i]).map V.int from eg]
        generalize upd H1 A.gr (.lst ((M.sw.grey ++ [i]).map V.int)) = H2 at st2 j2 ⊢
        obtain ⟨p2, hp2, ce2⟩ := j2.jc.at (i := i.toNat) (c := { c with tone := M.sw.sense, load := c.load }) (by show (M.cells.set _ _)[_]? = _; rw [List.getElem?_set_self (List.getElem?_eq_some_iff.mp hc).1])
        rw [hp] at hp2
        cases hp2
        obtain ⟨_, _, ⟨dx2, o3⟩, _⟩ := ce2
        walk_at "ev"
        refine i_fldK o3 T.c.cl_Cell T.c.n_Cell_birth cellF_lk_birth ?_
        exact q H2 (st1.trans st2) j2
end
theorem setSlot_eq {M : Wm} {h k : Nat} {x : Option Int} {m : Str × List (Option Int)} (hm : M.hands[h]? = some m) : { M with hands := M.hands.set h (m.1, m.2.set k x) } = setSlot M h k x := by
  have e := setSlot_hands (k := k) (x := x) hm
  show _ = { M with hands := _ }
  rw [show (M.hands.modify h fun m => (m.1, m.2.set k x)) = M.hands.set h (m.1, m.2.set k x) from e]
def isMake (d : Deed) : Prop := ∃ h s many bulk, d = .make h s many bulk
def isGet (d : Deed) : Prop := ∃ h s t f, d = .get h s t f
def isPut (d : Deed) : Prop := ∃ h t f s, d = .put h t f s
def isCopy (d : Deed) : Prop := ∃ h s t, d = .copy h s t
def isDrop (d : Deed) : Prop := ∃ h s, d = .drop h s
def isGive (d : Deed) : Prop := ∃ h s g t, d = .give h s g t
def isWrite (d : Deed) : Prop := ∃ h t load, d = .write h t load
def isRead (d : Deed) : Prop := ∃ h t, d = .read h t
def isName (d : Deed) : Prop := ∃ h t word, d = .name h t word
def isSeek (d : Deed) : Prop := ∃ h s word, d = .seek h s word
abbrev DeedQ (X : Cs) (rf : Rf → Addr) (P : Deed → Prop) (wo dd : Addr) (H : Hp) (Q : VK) (E : XK) : Prop := ∃ T s A M d, P d ∧ WT H T ∧ s ≠ 0 ∧ WJ X H T s A M ∧ A.wo = wo ∧ H dd = some (.tup (dV d)) ∧ okD M d ∧ Ok M ∧ M.cells.length ≤ 900 ∧ (M.sw.phase = "walk" → M.sw.grey.length ≤ 10000) ∧ (0 ≤ M.tells ∧ M.tells < 4) ∧ M.names.length ≤ 1000 ∧
  (∀ r, doM M d = .error r → ∀ H', Same H H' → E (.ref (rf r)) none H') ∧
  (∀ e M', doM M d = .ok (e, M') → ∀ H' T' A' a, Stp s H H' T T' → WJ X H' T' s A' M' → A'.wo = wo → EvN H H' a e → Q (.ref a) H')
section
variable {X : Cs} {H Hx : Hp} {T Tx : Tg} {s : Nat} {A Ax : Wa} {M M' : Wm} {d : Deed} {e : Ev} {wo : Addr} {Q : VK}
end
section
variable {K : PySem.W.Frag} {X : Cs} {H : Hp} {Q : VK} {E : XK} {n : St → Hp → Prop} {bk ct : St → Hp → Prop} {rf : Rf → Addr}
end
def putL (M : Wm) (h s : Nat) (v : Option Int) : List (Option Int) := (if old? M = true then [v] else []) ++ if (new? M && !lookedAt M h) = true then [slotOf M h s] else []
section
variable {X : Cs} {H H' : Hp} {T T' : Tg} {s : Nat} {A : Wa} {M : Wm}
theorem nm_put {z : Str} {v : Int × Int} {t : Addr} (ht : NmO H T t (z, v)) : ∀ {ns : List Addr} {names : List (Str × (Int × Int))}, Al (NmO H T) ns names → (∃ ns', (nmK names ns).map (fun kv => if kv.1 = Sum.inr z then (kv.1, V.ref t) else kv) = nmK (names.map fun m => if m.1 = z then (m.1, v) else m) ns' ∧ Al (NmO H T) ns' (names.map fun m => if m.1 = z then (m.1, v) else m)) ∧
    ((nmK names ns).any fun kv => decide (kv.1 = Sum.inr z)) = (names.any fun m => decide (m.1 = z)) ∧ nmK names ns ++ [(Sum.inr z, V.ref t)] = nmK (names ++ [(z, v)]) (ns ++ [t]) ∧ Al (NmO H T) (ns ++ [t]) (names ++ [(z, v)]) := by
  intro ns names h
  induction h with
  | nil => exact ⟨⟨[], rfl, .nil⟩, rfl, rfl, .cons ht .nil⟩
  | @cons a m ns names h1 _ ih =>
    obtain ⟨⟨ns', e1, e2⟩, e3, e4, e5⟩ := ih
    refine ⟨?_, ?_, ?_, .cons h1 e5⟩
    · by_cases e : m.1 = z
      · refine ⟨t :: ns', ?_, ?_⟩
        · show (if (Sum.inr m.1 : Int ⊕ Str) = Sum.inr z then _ else _) :: _ = _
          rw [if_pos (by rw [e]), List.map_cons, if_pos e]
          show _ :: _ = (Sum.inr m.1, V.ref t) :: nmK _ ns'
          rw [← e1]; rfl
        · rw [List.map_cons, if_pos e]
          exact .cons (by rw [e]; exact ht) e2
      · refine ⟨a :: ns', ?_, ?_⟩
        · show (if (Sum.inr m.1 : Int ⊕ Str) = Sum.inr z then _ else _) :: _ = _
          rw [if_neg (fun w => e (Sum.inr.inj w)), List.map_cons, if_neg e]
          show _ :: _ = (Sum.inr m.1, V.ref a) :: nmK _ ns'
          rw [← e1]; rfl
        · rw [List.map_cons, if_neg e]
          exact .cons h1 e2
    · show (decide ((Sum.inr m.1 : Int ⊕ Str) = Sum.inr z) || (nmK names ns).any _) = (decide (m.1 = z) || names.any _)
      rw [e3]
      congr 1
      by_cases e : m.1 = z <;> simp [e]
    · show (Sum.inr m.1, V.ref a) :: (nmK names ns ++ _) = (Sum.inr m.1, V.ref a) :: nmK (names ++ _) (ns ++ _)
      rw [e4]
theorem nm_len {ns : List Addr} {names : List (Str × (Int × Int))} (h : Al (NmO H T) ns names) : (nmK names ns).length = names.length := by
  induction h with
  | nil => rfl
  | @cons a m ns names h1 _ ih => show (_ :: nmK names ns).length = _; rw [List.length_cons, List.length_cons, ih]
theorem WJ.named (j : WJ X H T s A M) (w : WT H T) (h0 : s ≠ 0) {z : Str} {v : Int × Int} {t : Addr} (ht : NmO H T t (z, v)) : ∃ ns', Stp s H (upd H A.nm (.dK (putK (nmK M.names A.ns) (Sum.inr z) (.ref t)))) T T ∧
    WJ X (upd H A.nm (.dK (putK (nmK M.names A.ns) (Sum.inr z) (.ref t)))) T s { A with ns := ns' } { M with names := putNm M.names z v } := by
  obtain ⟨tm, om, nms⟩ := j.jn
  obtain ⟨⟨n1, e1, e2⟩, e3, e4, e5⟩ := nm_put ht nms
  have f : Frm s (· = 6) H (upd H A.nm (.dK (putK (nmK M.names A.ns) (Sum.inr z) (.ref t)))) T T := Frm.of_upd tm
  have mvn : ∀ {ns : List Addr} {names : List (Str × (Int × Int))}, Al (NmO H T) ns names → Al (NmO (upd H A.nm (.dK (putK (nmK M.names A.ns) (Sum.inr z) (.ref t)))) T) ns names := fun h => h.mono fun t m ⟨z1, z2⟩ => ⟨z1, f0_upd h0 tm _ _ z2 z1⟩
  have go : ∀ ns', putK (nmK M.names A.ns) (Sum.inr z) (.ref t) = nmK (putNm M.names z v) ns' → Al (NmO H T) ns' (putNm M.names z v) → WJ X (upd H A.nm (.dK (putK (nmK M.names A.ns) (Sum.inr z) (.ref t)))) T s { A with ns := ns' } { M with names := putNm M.names z v } := fun ns' g1 g2 => by
    refine ⟨?_, ?_, ⟨tm, by show upd _ A.nm _ A.nm = _; rw [upd_same, g1], mvn g2⟩, ?_, j.jd.mv f fun _ _ _ => by omega, j.jc.mv f fun _ _ => by omega⟩
    · obtain ⟨b1, b2, b3, b4, b5, b6, b7, b8⟩ := j.jb.mv f (f0_upd h0 tm) (by omega) (by omega)
      exact ⟨b1, b2, b3, b4, b5, b6, b7, b8⟩
    · obtain ⟨b1, b2, b3, b4⟩ := j.jh.mv f (by omega) (by omega)
      exact ⟨b1, b2, b3, b4⟩
    · obtain ⟨b1, b2, b3, b4⟩ := j.js.mv f (by omega) (by omega)
      exact ⟨b1, b2, b3, b4⟩
  by_cases ha : (M.names.any fun m => decide (m.1 = z)) = true
  · refine ⟨n1, Stp.upd w om (by rw [tm]), go n1 ?_ ?_⟩
    · unfold putK putNm
      rw [if_pos (e3.trans ha), if_pos ha, e1]
    · unfold putNm; rw [if_pos ha]; exact e2
  · refine ⟨A.ns ++ [t], Stp.upd w om (by rw [tm]), go _ ?_ ?_⟩
    · unfold putK putNm
      rw [if_neg (fun y => ha (e3.symm.trans y)), if_neg ha, e4]
    · unfold putNm; rw [if_neg ha]; exact e5
end
section
variable {K : PySem.W.Frag} {X : Cs} {H : Hp} {Q : VK} {E : XK} {n : St → Hp → Prop} {bk ct : St → Hp → Prop} {rf : Rf → Addr} {CE CF CN : Addr}
end
section
variable {K : PySem.W.Frag} {X : Cs} {H : Hp} {Q : VK} {E : XK} {n : St → Hp → Prop} {bk ct : St → Hp → Prop} {rf : Rf → Addr} {f1 f2 f3 f4 f5 f6 f7 f8 f9 f10 : Addr}
end
def S_births_at (X : Cs) : Sp := fun vs H Q E => ∃ hp sl, vs = [.ref hp, .ref sl] ∧ ∃ T s A M, ∃ xs : List (Option Int), WJ X H T s A M ∧ A.hp = hp ∧ H sl = some (.lst (xs.map oV)) ∧ xs.length ≤ 1000 ∧ ∀ l, H l = none → Q (.ref l) (upd H l (.lst ((xs.map (bAt M)).map oV)))
def S_births (X : Cs) : Sp := fun vs H Q E => ∃ wo, vs = [.ref wo] ∧ ∃ T s A M, WJ X H T s A M ∧ A.wo = wo ∧ M.cells.length ≤ 1000 ∧ (∀ m ∈ M.hands, m.2.length ≤ 1000) ∧ ∀ (l : Addr) (ls : List Addr) H', Same H H' → H' l = some (.lst (ls.map V.ref)) → ls.length = (rowsOf M).length → (∀ (j : Nat) r x, ls[j]? = some r → (rowsOf M)[j]? = some x → H' r = some (.lst (x.map oV))) → Q (.ref l) H'
section
variable {K : PySem.W.Frag} {X : Cs} {H : Hp} {Q : VK} {E : XK} {n : St → Hp → Prop} {bk ct : St → Hp → Prop}
end
def S_Hand_init (CD : Addr) : Sp := fun vs H Q E => ∃ p nm many, vs = [.ref p, .str nm, .int many] ∧ ∃ dx, H p = some (.ins CD dx []) ∧ 0 ≤ many ∧ many ≤ 1000 ∧
  ∀ sa H', H sa = none → H' p = some (.ins CD dx (handF nm sa)) → H' sa = some (.lst (List.replicate many.toNat V.non)) → (∀ b o, H b = some o → b ≠ p → H' b = some o) → Q .non H'
def S_Sweeper_init (CS : Addr) : Sp := fun vs H Q E => ∃ p, vs = [.ref p] ∧ ∃ dx, H p = some (.ins CS dx []) ∧
  ∀ gr H', H gr = none → H' p = some (.ins CS dx (sweepF 0 "rest" gr 0 0 0 0 0 0 0 .non)) → H' gr = some (.lst []) → (∀ b o, H b = some o → b ≠ p → H' b = some o) → Q .non H'
section
variable {K : PySem.W.Frag} {X : Cs} {H : Hp} {Q : VK} {E : XK} {n : St → Hp → Prop} {bk ct : St → Hp → Prop}
theorem Hand___init___rd {p : Addr} {nm : Str} {many : Int} (T : TxW K X) (q : ∃ dx, H p = some (.ins X.D dx []) ∧ 0 ≤ many ∧ many ≤ 1000 ∧
  ∀ sa H', H sa = none → H' p = some (.ins X.D dx (handF nm sa)) → H' sa = some (.lst (List.replicate many.toNat V.non)) → (∀ b o, H b = some o → b ≠ p → H' b = some o) → Q .non H') :
    rd_Hand___init__ K ⟨fun _ H' => Q .non H', Q, bk, ct⟩ [some (.ref p), some (.str nm), some (.int many)] H := by
  obtain ⟨dx, hp, h0, h1, h⟩ := q
  unfold rd_Hand___init__
  walk_at "ev"
  refine ⟨p, X.D, dx, [], rfl, hp, T.cD, T.nDn, by decide, ?_⟩
  walk_at "ev"
  refine ⟨by decide, fun l0 hl0 => ?_⟩
  walk_at "ev"
  refine ⟨l0, many, _, rfl, rfl, upd_same, by omega, by omega, ?_, fun fa hfa => ?_⟩
  · show 1 * many.toNat ≤ sizeLine
    exact len_ok (by omega)
  have npl : p ≠ l0 := ne_of_none upd_same hl0
  have npf : p ≠ fa := ne_of_none (by rw [upd_ne npl]; exact upd_same) hfa
  have hfa0 : H fa = none := by
    by_cases z : fa = l0
    · rw [z, upd_same] at hfa; cases hfa
    · rw [upd_ne z, upd_ne (fun e => npf e.symm)] at hfa; exact hfa
  have hl00 : H l0 = none := by rw [upd_ne (fun e => npl e.symm)] at hl0; exact hl0
  walk_at "ev"
  refine ⟨p, X.D, dx, _, rfl, by rw [upd_ne npf, upd_ne npl]; exact upd_same, T.cD, T.nDs, by show 1 < 1000; decide, ?_⟩
  refine h fa _ hfa0 ?_ ?_ fun b o hb nb => ?_
  · rw [upd_same, handF_mk]
  · rw [upd_ne npf.symm, upd_same]
    congr 2
    generalize many.toNat = k
    induction k with
    | zero => rfl
    | succ k ih => rw [List.replicate_succ, List.replicate_succ, List.flatten_cons, ih]; rfl
  · rw [upd_ne nb, upd_ne (ne_of_none hb hfa0), upd_ne (ne_of_none hb hl00), upd_ne nb]; exact hb
theorem Sweeper___init___rd {p : Addr} (T : TxW K X) (q : ∃ dx, H p = some (.ins X.S dx []) ∧
  ∀ gr H', H gr = none → H' p = some (.ins X.S dx (sweepF 0 "rest" gr 0 0 0 0 0 0 0 .non)) → H' gr = some (.lst []) → (∀ b o, H b = some o → b ≠ p → H' b = some o) → Q .non H') :
    rd_Sweeper___init__ K ⟨fun _ H' => Q .non H', Q, bk, ct⟩ [some (.ref p)] H := by
  obtain ⟨dx, hp, h⟩ := q
  unfold rd_Sweeper___init__
  walk_at "ev"
  refine ⟨p, X.S, dx, [], rfl, hp, T.cS, T.n1, by decide, ?_⟩
  walk_at "ev"
  refine ⟨p, X.S, dx, _, rfl, upd_same, T.cS, T.n2, by show 1 < 1000; decide, ?_⟩
  rw [upd_upd]
  walk_at "ev"
  refine ⟨by decide, fun gr hgr => ?_⟩
  have npg : p ≠ gr := ne_of_none upd_same hgr
  have hgr0 : H gr = none := by rw [upd_ne npg.symm] at hgr; exact hgr
  walk_at "ev"
  refine ⟨p, X.S, dx, _, rfl, by rw [upd_ne npg]; exact upd_same, T.cS, T.n3, by show 2 < 1000; decide, ?_⟩
  walk_at "ev"
  refine ⟨p, X.S, dx, _, rfl, upd_same, T.cS, T.n4, by show 3 < 1000; decide, ?_⟩
  rw [upd_upd]
  walk_at "ev"
  refine ⟨p, X.S, dx, _, rfl, upd_same, T.cS, T.n5, by show 4 < 1000; decide, ?_⟩
  rw [upd_upd]
  walk_at "ev"
  refine ⟨p, X.S, dx, _, rfl, upd_same, T.cS, T.n6, by show 5 < 1000; decide, ?_⟩
  rw [upd_upd]
  walk_at "ev"
  refine ⟨p, X.S, dx, _, rfl, upd_same, T.cS, T.n7, by show 6 < 1000; decide, ?_⟩
  rw [upd_upd]
  walk_at "ev"
  refine ⟨p, X.S, dx, _, rfl, upd_same, T.cS, T.n8, by show 7 < 1000; decide, ?_⟩
  rw [upd_upd]
  walk_at "ev"
  refine ⟨p, X.S, dx, _, rfl, upd_same, T.cS, T.n9, by show 8 < 1000; decide, ?_⟩
  rw [upd_upd]
  walk_at "ev"
  refine ⟨p, X.S, dx, _, rfl, upd_same, T.cS, T.n10, by show 9 < 1000; decide, ?_⟩
  rw [upd_upd]
  walk_at "ev"
  refine ⟨p, X.S, dx, _, rfl, upd_same, T.cS, T.n11, by show 10 < 1000; decide, ?_⟩
  rw [upd_upd]
  refine h gr _ hgr0 ?_ ?_ fun b o hb nb => ?_
  · rw [upd_same, sweepF_mk]
  · rw [upd_ne npg.symm, upd_same]
  · rw [upd_ne nb, upd_ne (ne_of_none hb hgr0), upd_ne nb]; exact hb
end
def wd (w : Int) : Str := if w = 0 then "first" else if w = 1 then "each" else "last"
def tlS (t : Int) : Str := if t = 0 then "" else if t = 1 then " old" else if t = 2 then " new" else " old new"
def words (w t : Int) : Str := wd w ++ tlS t
theorem words_inj {w t w' t' : Int} (w0 : 0 ≤ w) (w1 : w < 3) (t0 : 0 ≤ t) (t1 : t < 4) (a0 : 0 ≤ w') (a1 : w' < 3) (b0 : 0 ≤ t') (b1 : t' < 4) (e : words w t = words w' t') : w = w' ∧ t = t' := by
  have key : ∀ a ∈ [(0 : Int), 1, 2], ∀ b ∈ [(0 : Int), 1, 2, 3], ∀ a' ∈ [(0 : Int), 1, 2], ∀ b' ∈ [(0 : Int), 1, 2, 3], words a b = words a' b' → a = a' ∧ b = b' := by decide +kernel
  exact key w (by simp; omega) t (by simp; omega) w' (by simp; omega) t' (by simp; omega) e
theorem wd_len (w : Int) : (wd w).length ≤ 5 := by
  unfold wd
  by_cases h : w = 0
  · rw [if_pos h]; decide
  · rw [if_neg h]
    by_cases h : w = 1
    · rw [if_pos h]; decide
    · rw [if_neg h]; decide
structure KdO (X : Cs) (H : Hp) (ki lk : Addr) (w t : Int) : Prop where
  ok : ∃ dx, H ki = some (.ins X.K dx (kindF lk t))
  ol : ∃ dx, (w = 0 ∧ H lk = some (.ins X.F dx [])) ∨ (w = 1 ∧ H lk = some (.ins X.E dx [])) ∨ (w = 2 ∧ H lk = some (.ins X.L dx []))
theorem KdO.same {X : Cs} {H H' : Hp} {ki lk : Addr} {w t : Int} (k : KdO X H ki lk w t) (s : Same H H') : KdO X H' ki lk w t := by
  obtain ⟨⟨d1, a⟩, ⟨d2, b⟩⟩ := k
  refine ⟨⟨d1, s _ _ a⟩, ⟨d2, ?_⟩⟩
  rcases b with ⟨z, e⟩ | ⟨z, e⟩ | ⟨z, e⟩
  · exact .inl ⟨z, s _ _ e⟩
  · exact .inr (.inl ⟨z, s _ _ e⟩)
  · exact .inr (.inr ⟨z, s _ _ e⟩)
def S_kind_of (X : Cs) : Sp := fun vs H Q E => ∃ z, vs = [.str z] ∧ ∃ w t, 0 ≤ w ∧ w < 3 ∧ 0 ≤ t ∧ t < 4 ∧ z = words w t ∧ ∀ ki lk H', Same H H' → H ki = none → H lk = none → KdO X H' ki lk w t → Q (.ref ki) H'
def newW (room : Int) (hands : List (Str × Int)) (w t : Int) : Wm := ⟨room, 0, 0, [], hands.map fun m => (m.1, List.replicate m.2.toNat none), [], w, t, ⟨0, "rest", [], 0, 0, 0, 0, 0, 0, 0, .non⟩⟩
def S_World_init (X : Cs) : Sp := fun vs H Q E => ∃ p room ki hl0, vs = [.ref p, .int room, .ref ki, .ref hl0] ∧ ∃ dx T s lk w t ts hands, H p = some (.ins X.W dx []) ∧ WT H T ∧ s ≠ 0 ∧ KdO X H ki lk w t ∧ T ki = (0, 0) ∧ T lk = (0, 0) ∧ ki ≠ p ∧ lk ≠ p ∧ H hl0 = some (.lst (ts.map V.ref)) ∧
  Al (fun (t : Addr) (m : Str × Int) => H t = some (.tup [.str m.1, .int m.2]) ∧ 0 ≤ m.2 ∧ m.2 ≤ 1000) ts hands ∧ hands.length ≤ 30 ∧
  ∀ H' T' A, (∀ b o, H b = some o → b ≠ p → H' b = some o) → (∀ b o, H b = some o → b ≠ p → T' b = T b) → WT H' T' → A.wo = p → WJ X H' T' s A (newW room hands w t) → Q .non H'
def S_Kind_init (CK : Addr) : Sp := fun vs H Q E => ∃ p l t, vs = [.ref p, .ref l, .int t] ∧ ∃ dx, H p = some (.ins CK dx []) ∧ ∀ H', H' p = some (.ins CK dx (kindF l t)) → (∀ b o, H b = some o → b ≠ p → H' b = some o) → Q .non H'
def S_tell (v : V) : Sp := fun vs H Q E => ∃ a, vs = [.ref a] ∧ Q v H
def S_words (X : Cs) : Sp := fun vs H Q E => ∃ ki, vs = [.ref ki] ∧ ∃ lk w t, KdO X H ki lk w t ∧ 0 ≤ t ∧ t < 4 ∧ ∀ H', Same H H' → Q (.str (words w t)) H'
section
variable {K : PySem.W.Frag} {X : Cs} {H : Hp} {Q : VK} {E : XK} {n : St → Hp → Prop} {bk ct : St → Hp → Prop}
theorem First_word_rd {a : Addr} (T : TxW K X) (q : Q (.str "first") H) : rd_First_word ⟨n, Q, bk, ct⟩ [some (.ref a)] H := by
  unfold rd_First_word
  walk_at "ev"
  exact q
theorem Each_word_rd {a : Addr} (T : TxW K X) (q : Q (.str "each") H) : rd_Each_word ⟨n, Q, bk, ct⟩ [some (.ref a)] H := by
  unfold rd_Each_word
  walk_at "ev"
  exact q
theorem Last_word_rd {a : Addr} (T : TxW K X) (q : Q (.str "last") H) : rd_Last_word ⟨n, Q, bk, ct⟩ [some (.ref a)] H := by
  unfold rd_Last_word
  walk_at "ev"
  exact q
theorem Kind___init___rd {p l : Addr} {t : Int} (T : TxW K X) (q : ∃ dx, H p = some (.ins X.K dx []) ∧ ∀ H', H' p = some (.ins X.K dx (kindF l t)) → (∀ b o, H b = some o → b ≠ p → H' b = some o) → Q .non H') :
    rd_Kind___init__ K ⟨fun _ H' => Q .non H', Q, bk, ct⟩ [some (.ref p), some (.ref l), some (.int t)] H := by
  obtain ⟨dx, hp, h⟩ := q
  unfold rd_Kind___init__
  walk_at "ev"
  refine ⟨p, X.K, dx, [], rfl, hp, T.cK, T.nKl, by decide, ?_⟩
  walk_at "ev"
  refine ⟨p, X.K, dx, _, rfl, upd_same, T.cK, T.nKt, by show 1 < 1000; decide, ?_⟩
  rw [upd_upd]
  refine h _ ?_ fun b o hb nb => ?_
  · rw [upd_same, kindF_mk]
  · rw [upd_ne nb]; exact hb
theorem w0 {w : Int} (hw : w = 0 ∨ w = 1 ∨ w = 2) : words w 0 = wd w := by rcases hw with rfl | rfl | rfl <;> decide +kernel
theorem w3 {w : Int} (hw : w = 0 ∨ w = 1 ∨ w = 2) : words w 3 = (wd w ++ " old") ++ " new" := by rcases hw with rfl | rfl | rfl <;> decide +kernel
theorem w3l {w : Int} (hw : w = 0 ∨ w = 1 ∨ w = 2) : (wd w ++ " old" : Str).length ≤ 20 := by rcases hw with rfl | rfl | rfl <;> decide +kernel
theorem words_go {p lk : Addr} {dx : Addr} {w t : Int} (hw : w = 0 ∨ w = 1 ∨ w = 2) (T : TxW K X) (hp : H p = some (.ins X.K dx (kindF lk t))) (t0 : 0 ≤ t) (t1 : t < 4) (q : Q (.str (words w t)) H) :
    (tSeq (tIfS (tTest (tOp (rNe) (tOp (rI0 fun i j => .int (Builtin.bitAnd i j)) (tFld K (tVar 0) "tells") (tC (.int 1))) (tC (.int 0)))) (tAsg (tOp (G.rCatS) (tVar 1) (tC (.str " old"))) (gName 1)) tNext)
      (tSeq (tIfS (tTest (tOp (rNe) (tOp (rI0 fun i j => .int (Builtin.bitAnd i j)) (tFld K (tVar 0) "tells") (tC (.int 2))) (tC (.int 0)))) (tAsg (tOp (G.rCatS) (tVar 1) (tC (.str " new"))) (gName 1)) tNext)
      (tRet (tVar 1)))) ⟨n, Q, bk, ct⟩ [some (.ref p), some (.str (wd w))] H := by
  have lw := wd_len w
  have ht : t = 0 ∨ t = 1 ∨ t = 2 ∨ t = 3 := by omega
  walk_at "ev"
  refine i_fldK hp T.cK T.nKt kindF_lk_tells ?_
  walk_at "ev"
  rcases ht with rfl | rfl | rfl | rfl
  · refine ifnd (fun z => absurd (by decide) z) (fun _ => ?_)
    walk_at "ev"
    refine i_fldK hp T.cK T.nKt kindF_lk_tells ?_
    walk_at "ev"
    refine ifnd (fun z => absurd (by decide) z) (fun _ => ?_)
    walk_at "ev"
    rw [w0 hw] at q
    exact q
  · refine ifnd (fun _ => ?_) (fun z => absurd z (by decide))
    walk_at "ev"
    refine i_catS (len_ok (by have : (" old" : Str).length = 4 := rfl; omega)) ?_
    walk_at "ev"
    refine i_fldK hp T.cK T.nKt kindF_lk_tells ?_
    walk_at "ev"
    refine ifnd (fun z => absurd (by decide) z) (fun _ => ?_)
    walk_at "ev"
    exact q
  · refine ifnd (fun z => absurd (by decide) z) (fun _ => ?_)
    walk_at "ev"
    refine i_fldK hp T.cK T.nKt kindF_lk_tells ?_
    walk_at "ev"
    refine ifnd (fun _ => ?_) (fun z => absurd z (by decide))
    walk_at "ev"
    refine i_catS (len_ok (by have : (" new" : Str).length = 4 := rfl; omega)) ?_
    walk_at "ev"
    exact q
  · refine ifnd (fun _ => ?_) (fun z => absurd z (by decide))
    walk_at "ev"
    refine i_catS (len_ok (by have : (" old" : Str).length = 4 := rfl; omega)) ?_
    walk_at "ev"
    refine i_fldK hp T.cK T.nKt kindF_lk_tells ?_
    walk_at "ev"
    refine ifnd (fun _ => ?_) (fun z => absurd z (by decide))
    walk_at "ev"
    refine i_catS (len_ok (by have : (" new" : Str).length = 4 := rfl; have := w3l hw; omega)) ?_
    walk_at "ev"
    rw [w3 hw] at q
    exact q
theorem Kind_words_rd {p : Addr} (T : TxW K X) (q : ∃ lk w t, KdO X H p lk w t ∧ 0 ≤ t ∧ t < 4 ∧ ∀ H', Same H H' → Q (.str (words w t)) H') :
    rd_Kind_words K X.E X.F X.L (S_tell (.str "each")) (S_tell (.str "first")) (S_tell (.str "last")) ⟨n, Q, bk, ct⟩ [some (.ref p), none] H := by
  obtain ⟨lk, w, t, ⟨⟨dx, hp⟩, ⟨dl, ol⟩⟩, t0, t1, h⟩ := q
  have h := h H (Same.refl _)
  unfold rd_Kind_words
  refine i_seq ?_
  walk_at "es"
  rcases ol with ⟨rfl, o⟩ | ⟨rfl, o⟩ | ⟨rfl, o⟩
  · refine i_orL ?_
    walk_at "ev"
    refine i_fldK hp T.cK T.nKl kindF_lk_looking ?_
    walk_at "es"
    refine ⟨lk, dl, _, rfl, o, rfl, ?_⟩
    walk_at "es"
    refine ⟨lk, rfl, ?_⟩
    walk_at "es"
    exact words_go (w := 0) (by decide) T hp t0 t1 h
  · refine i_orR (i_orL ?_)
    walk_at "ev"
    refine i_fldK hp T.cK T.nKl kindF_lk_looking ?_
    walk_at "es"
    refine ⟨lk, dl, _, rfl, o, rfl, ?_⟩
    walk_at "es"
    refine ⟨lk, rfl, ?_⟩
    walk_at "es"
    exact words_go (w := 1) (by decide) T hp t0 t1 h
  · refine i_orR (i_orR ?_)
    walk_at "ev"
    refine i_fldK hp T.cK T.nKl kindF_lk_looking ?_
    walk_at "es"
    refine ⟨lk, dl, _, rfl, o, rfl, ?_⟩
    walk_at "es"
    refine ⟨lk, rfl, ?_⟩
    walk_at "es"
    exact words_go (w := 2) (by decide) T hp t0 t1 h
theorem kind_of_rd {z : Str} (T : TxW K X) (q : ∃ w t, 0 ≤ w ∧ w < 3 ∧ 0 ≤ t ∧ t < 4 ∧ z = words w t ∧ ∀ ki lk H', Same H H' → H ki = none → H lk = none → KdO X H' ki lk w t → Q (.ref ki) H') :
    rd_kind_of K X.E X.F X.K X.L (S_Kind_init X.K) (S_words X) ⟨n, Q, bk, ct⟩ [some (.str z), none, none, none] H := by
  obtain ⟨wq, tq, wq0, wq1, tq0, tq1, ez, hq⟩ := q
  unfold rd_kind_of
  walk_at "ev"
  intro af df n1 m1 e1
  have s1 : Same H (upd (upd H df (.own af)) af (.ins X.F df [])) := fun b o hb => by rw [upd_ne (ne_of_none hb n1), upd_ne (ne_of_none hb m1)]; exact hb
  have o1 : upd (upd H df (.own af)) af (.ins X.F df []) af = some (.ins X.F df []) := upd_same
  generalize upd (upd H df (.own af)) af (.ins X.F df []) = H1 at s1 o1 ⊢
  walk_at "ev"
  intro ae de n2 m2 e2
  have s2 : Same H1 (upd (upd H1 de (.own ae)) ae (.ins X.E de [])) := fun b o hb => by rw [upd_ne (ne_of_none hb n2), upd_ne (ne_of_none hb m2)]; exact hb
  have o2 : upd (upd H1 de (.own ae)) ae (.ins X.E de []) ae = some (.ins X.E de []) := upd_same
  generalize upd (upd H1 de (.own ae)) ae (.ins X.E de []) = H2 at s2 o2 ⊢
  walk_at "ev"
  intro al dl n3 m3 e3
  have s3 : Same H2 (upd (upd H2 dl (.own al)) al (.ins X.L dl [])) := fun b o hb => by rw [upd_ne (ne_of_none hb n3), upd_ne (ne_of_none hb m3)]; exact hb
  have o3 : upd (upd H2 dl (.own al)) al (.ins X.L dl []) al = some (.ins X.L dl []) := upd_same
  generalize upd (upd H2 dl (.own al)) al (.ins X.L dl []) = H3 at s3 o3 ⊢
  walk_at "ev"
  refine ⟨len_ok (by simp), fun lp hlp => ?_⟩
  have s4 := same_new hlp (.lst [.ref af, .ref ae, .ref al])
  have g4 : upd H3 lp (.lst [.ref af, .ref ae, .ref al]) lp = some (.lst [.ref af, .ref ae, .ref al]) := upd_same
  generalize upd H3 lp (.lst [.ref af, .ref ae, .ref al]) = H4 at s4 g4 ⊢
  have of4 := s4 _ _ (s3 _ _ (s2 _ _ o1))
  have oe4 := s4 _ _ (s3 _ _ o2)
  have ol4 := s4 _ _ o3
  have s04 := s1.trans (s2.trans (s3.trans s4))
  have lko : ∀ {i : Nat} {x : V}, ([.ref af, .ref ae, .ref al] : List V)[i]? = some x → i < 3 ∧ ∃ lk, x = .ref lk ∧ H lk = none ∧ ∃ dx, ((i : Int) = 0 ∧ H4 lk = some (.ins X.F dx [])) ∨ ((i : Int) = 1 ∧ H4 lk = some (.ins X.E dx [])) ∨ ((i : Int) = 2 ∧ H4 lk = some (.ins X.L dx [])) := by
    intro i x hx
    match i, hx with
    | 0, hx => cases hx; exact ⟨by omega, af, rfl, n1, df, .inl ⟨rfl, of4⟩⟩
    | 1, hx => cases hx; exact ⟨by omega, ae, rfl, s1.free n2, de, .inr (.inl ⟨rfl, oe4⟩)⟩
    | 2, hx => cases hx; exact ⟨by omega, al, rfl, (s1.trans s2).free n3, dl, .inr (.inr ⟨rfl, ol4⟩)⟩
    | k + 3, hx => cases hx
  clear s1 s2 s3 s4 of4 oe4 ol4
  refine ⟨lp, rfl, ⟨_, SqL.of g4⟩, forL [.ref af, .ref ae, .ref al] (fun i σ Hx => ∃ v1 v2 v3, σ = [some (.str z), v1, v2, v3] ∧ Same H4 Hx ∧ ∀ (w : Nat) (t : Int), w < i → 0 ≤ t → t < 4 → z ≠ words w t) ⟨_, _, _, rfl, Same.refl _, fun w t hw => absurd hw (Nat.not_lt_zero _)⟩ (fun _ _ _ _ ⟨_, _, _, _, s, _⟩ => SqL.of (s _ _ g4)) ?_ ?_⟩
  · rintro i x σ H5 hi ⟨v1, v2, v3, rfl, s5, hn⟩
    obtain ⟨hi3, lk, rfl, nlk, dlk, ol⟩ := lko hi
    walk_at "ev"
    refine ⟨4, rfl, by omega, by omega, ?_⟩
    refine forR (fun k σ Hx => ∃ v2 v3, σ = [some (.str z), some (.ref lk), v2, v3] ∧ Same H4 Hx ∧ ∀ (t : Int), 0 ≤ t → t < k → z ≠ words i t) ⟨_, _, rfl, s5, fun t h0 h1 => absurd h1 (by omega)⟩ ?_ ?_
    · rintro k σ H6 hk ⟨v2, v3, rfl, s6, hn2⟩
      have hk4 : k < 4 := hk
      have e0 : (0 : Int) + (k : Int) = k := by omega
      rw [e0]
      walk_at "ev"
      intro p dx np ndx ned
      refine ⟨p, lk, k, rfl, dx, upd_same, fun H7 k1 k2 => ⟨rfl, ?_⟩⟩
      have s7 : Same H6 H7 := fun b o hb => by
        refine k2 b o ?_ (ne_of_none hb np)
        rw [upd_ne (ne_of_none hb np), upd_ne (ne_of_none hb ndx)]
        exact hb
      have kd : KdO X H7 p lk i k := ⟨⟨dx, k1⟩, ⟨dlk, by
        rcases ol with ⟨e, o⟩ | ⟨e, o⟩ | ⟨e, o⟩
        · exact .inl ⟨e, s7 _ _ (s6 _ _ o)⟩
        · exact .inr (.inl ⟨e, s7 _ _ (s6 _ _ o)⟩)
        · exact .inr (.inr ⟨e, s7 _ _ (s6 _ _ o)⟩)⟩⟩
      walk_at "ev"
      refine ⟨p, dx, _, rfl, k1, kindF_no_words, ?_⟩
      walk_at "ev"
      refine ⟨p, rfl, lk, i, k, kd, by omega, by omega, fun H8 s8 => ?_⟩
      walk_at "ev"
      refine ifd (fun e => ?_) (fun e => ?_)
      · walk_at "ev"
        obtain ⟨rfl, rfl⟩ := words_inj wq0 wq1 tq0 tq1 (by omega) (by omega) (by omega) (by omega) (ez.symm.trans e.symm)
        refine hq p lk _ (s04.trans (s6.trans (s7.trans s8))) ((s04.trans s6).free np) nlk ⟨⟨dx, s8 _ _ k1⟩, ?_⟩
        obtain ⟨_, ⟨d, od⟩⟩ := kd
        refine ⟨d, ?_⟩
        rcases od with ⟨e, o⟩ | ⟨e, o⟩ | ⟨e, o⟩
        · exact .inl ⟨e, s8 _ _ o⟩
        · exact .inr (.inl ⟨e, s8 _ _ o⟩)
        · exact .inr (.inr ⟨e, s8 _ _ o⟩)
      · walk_at "ev"
        refine ⟨_, _, rfl, s6.trans (s7.trans s8), fun t t0 t1 => ?_⟩
        by_cases ht : t = k
        · rw [ht]
          exact fun w => e w.symm
        · exact hn2 t t0 (by omega)
    · rintro σ H3 ⟨v2, v3, rfl, s3, hn2⟩
      refine ⟨_, _, _, rfl, s3, fun w t hw t0 t1 => ?_⟩
      by_cases hwi : w = i
      · rw [hwi]
        exact hn2 t t0 t1
      · exact hn w t (by omega) t0 t1
  · rintro σ H2 ⟨v1, v2, v3, rfl, s2, hn⟩
    exfalso
    have := hn wq.toNat tq (by show wq.toNat < 3; omega) tq0 tq1
    have e : ((wq.toNat : Nat) : Int) = wq := by omega
    rw [e] at this
    exact this ez
end
structure Ex (p : Addr) (H H' : Hp) (T T' : Tg) : Prop where
  kp : ∀ b o, H b = some o → b ≠ p → H' b = some o
  al : ∀ b o, H b = some o → ∃ o', H' b = some o'
  tg : ∀ b o, H b = some o → T' b = T b
  wt : WT H' T'
section
variable {p : Addr} {H H1 H2 H' : Hp} {T T1 T2 T' : Tg}
theorem Ex.trans (a : Ex p H H1 T T1) (b : Ex p H1 H2 T1 T2) : Ex p H H2 T T2 where
  kp := fun x o h n => b.kp x o (a.kp x o h n) n
  al := fun x o h => by obtain ⟨o1, h1⟩ := a.al x o h; exact b.al x o1 h1
  tg := fun x o h => by obtain ⟨o1, h1⟩ := a.al x o h; rw [b.tg x o1 h1, a.tg x o h]
  wt := b.wt
theorem wt_of (w : WT H T) (al : ∀ b o, H b = some o → ∃ o', H' b = some o') : WT H' T := fun b h => w b (by
  cases z : H b with
  | none => rfl
  | some o => obtain ⟨o', e⟩ := al b o z; rw [h] at e; cases e)
theorem wt_set {a : Addr} {o : HO} {v : Nat × Nat} (w : WT H T) (h : H a = some o) : WT H (setT T a v) := fun b hb => by
  rw [setT_ne (fun e => by rw [e, h] at hb; cases hb)]; exact w b hb
theorem Ex.updp {o o0 : HO} (w : WT H T) (h : H p = some o0) : Ex p H (upd H p o) T T where
  kp := fun x u hx n => by rw [upd_ne n]; exact hx
  al := fun x u hx => by
    by_cases e : x = p
    · exact ⟨o, by rw [e, upd_same]⟩
    · exact ⟨u, by rw [upd_ne e]; exact hx⟩
  tg := fun _ _ _ => rfl
  wt := wt_of w fun x u hx => by
    by_cases e : x = p
    · exact ⟨o, by rw [e, upd_same]⟩
    · exact ⟨u, by rw [upd_ne e]; exact hx⟩
theorem Ex.news {vs : List (Addr × (Nat × Nat))} (w : WT H T) (s : Same H H') (hn : ∀ v ∈ vs, H v.1 = none ∧ ∃ o, H' v.1 = some o) : Ex p H H' T (vs.foldr (fun v t => setT t v.1 v.2) T) := by
  have tg : ∀ b o, H b = some o → (vs.foldr (fun v t => setT t v.1 v.2) T) b = T b := by
    intro b o hb
    induction vs with
    | nil => rfl
    | cons v vs ih =>
      show setT _ v.1 v.2 b = _
      rw [setT_ne (ne_of_none hb (hn v List.mem_cons_self).1)]
      exact ih fun u hu => hn u (List.mem_cons_of_mem _ hu)
  refine ⟨fun b o hb _ => s _ _ hb, fun b o hb => ⟨o, s _ _ hb⟩, tg, ?_⟩
  clear tg
  induction vs with
  | nil => exact w.same s
  | cons v vs ih =>
    obtain ⟨o, ho⟩ := (hn v List.mem_cons_self).2
    exact wt_set (ih fun u hu => hn u (List.mem_cons_of_mem _ hu)) ho
end
section
variable {K : PySem.W.Frag} {X : Cs} {H : Hp} {Q : VK} {E : XK} {n : St → Hp → Prop} {bk ct : St → Hp → Prop}
theorem World___init___rd {p ki hl0 : Addr} {room : Int} (T : TxW K X) (q : ∃ dx T s lk w t, ∃ ts : List Addr, ∃ hands, H p = some (.ins X.W dx []) ∧ WT H T ∧ s ≠ 0 ∧ KdO X H ki lk w t ∧ T ki = (0, 0) ∧ T lk = (0, 0) ∧ ki ≠ p ∧ lk ≠ p ∧ H hl0 = some (.lst (ts.map V.ref)) ∧
  Al (fun (t : Addr) (m : Str × Int) => H t = some (.tup [.str m.1, .int m.2]) ∧ 0 ≤ m.2 ∧ m.2 ≤ 1000) ts hands ∧ hands.length ≤ 30 ∧
  ∀ H' T' A, (∀ b o, H b = some o → b ≠ p → H' b = some o) → (∀ b o, H b = some o → b ≠ p → T' b = T b) → WT H' T' → A.wo = p → WJ X H' T' s A (newW room hands w t) → Q .non H') :
    rd_World___init__ K X.D X.H X.S (S_Hand_init X.D) (S_Heap_init X.H) (S_Sweeper_init X.S) ⟨fun _ H' => Q .non H', Q, bk, ct⟩ [some (.ref p), some (.int room), some (.ref ki), some (.ref hl0)] H := by
  obtain ⟨dx, T0, s, lk, w, t, ts, hands, hp, wt0, s0, kd, tki, tlk, nki, nlk, oh0, al, hn, hQ⟩ := q
  -- the world's own tag
  have x0 : WT H (setT T0 p (s, 0)) := wt_set wt0 hp
  have tp : setT T0 p (s, 0) p = (s, 0) := setT_same
  have to0 : ∀ b o, H b = some o → b ≠ p → setT T0 p (s, 0) b = T0 b := fun b _ _ hb => setT_ne hb
  generalize hT : setT T0 p (s, 0) = Ta at x0 tp to0
  unfold rd_World___init__
  walk_at "ev"
  -- the heap
  intro hq dh nh ndh neh
  refine ⟨hq, room, rfl, dh, upd_same, fun ca H1 nca a1 a2 k1 => ⟨rfl, ?_⟩⟩
  have nca0 : H ca = none := by
    by_cases z : ca = hq
    · rw [z, upd_same] at nca; cases nca
    · rw [upd_ne z] at nca
      by_cases y : ca = dh
      · rw [y, upd_same] at nca; cases nca
      · rw [upd_ne y] at nca; exact nca
  have sm1 : Same H H1 := fun b o hb => k1 b o (by rw [upd_ne (ne_of_none hb nh), upd_ne (ne_of_none hb ndh)]; exact hb) (ne_of_none hb nh)
  have e1 : Ex p H H1 Ta _ := Ex.news (vs := [(hq, (s, 1)), (ca, (s, 2))]) x0 sm1 (by
    intro v hv
    simp only [List.mem_cons, List.not_mem_nil, or_false] at hv
    rcases hv with rfl | rfl
    · exact ⟨nh, _, a1⟩
    · exact ⟨nca0, _, a2⟩)
  have nhc : hq ≠ ca := ne_of a1 a2 (fun z => by cases z)
  have th1 : ([(hq, (s, 1)), (ca, (s, 2))].foldr (fun v t => setT t v.1 v.2) Ta) hq = (s, 1) := setT_same
  have tc1 : ([(hq, (s, 1)), (ca, (s, 2))].foldr (fun v t => setT t v.1 v.2) Ta) ca = (s, 2) := (setT_ne nhc.symm).trans setT_same
  generalize ([(hq, (s, 1)), (ca, (s, 2))] : List (Addr × (Nat × Nat))).foldr (fun v t => setT t v.1 v.2) Ta = Tb at e1 th1 tc1
  have hp1 := sm1 _ _ hp
  have nph : hq ≠ p := fun z => by rw [z, hp] at nh; cases nh
  have npc : ca ≠ p := fun z => by rw [z, hp] at nca0; cases nca0
  clear k1 nca
  walk_at "ev"
  refine ⟨p, X.W, dx, [], rfl, hp1, T.cW, T.nWh, by decide, ?_⟩
  have e2 := e1.trans (Ex.updp (o := .ins X.W dx (putF "heap" (.ref hq) [])) e1.wt hp1)
  have g2 : upd H1 p (.ins X.W dx (putF "heap" (.ref hq) [])) p = some (.ins X.W dx (putF "heap" (.ref hq) [])) := upd_same
  have a1 := (upd_ne (o := .ins X.W dx (putF "heap" (.ref hq) [])) nph).trans a1
  have a2 := (upd_ne (o := .ins X.W dx (putF "heap" (.ref hq) [])) npc).trans a2
  generalize upd H1 p (.ins X.W dx (putF "heap" (.ref hq) [])) = H2 at e2 g2 a1 a2 ⊢
  walk_at "ev"
  refine ⟨p, X.W, dx, _, rfl, g2, T.cW, T.nWk, by show 1 < 1000; decide, ?_⟩
  have e3 := e2.trans (Ex.updp (o := .ins X.W dx (putF "kind" (.ref ki) (putF "heap" (.ref hq) []))) e2.wt g2)
  have g3 : upd H2 p (.ins X.W dx (putF "kind" (.ref ki) (putF "heap" (.ref hq) []))) p = some (.ins X.W dx (putF "kind" (.ref ki) (putF "heap" (.ref hq) []))) := upd_same
  have a1 := (upd_ne (o := .ins X.W dx (putF "kind" (.ref ki) (putF "heap" (.ref hq) []))) nph).trans a1
  have a2 := (upd_ne (o := .ins X.W dx (putF "kind" (.ref ki) (putF "heap" (.ref hq) []))) npc).trans a2
  generalize upd H2 p (.ins X.W dx (putF "kind" (.ref ki) (putF "heap" (.ref hq) []))) = H3 at e3 g3 a1 a2 ⊢
  generalize hF3 : (putF "kind" (.ref ki) (putF "heap" (.ref hq) [])) = F3 at g3 ⊢
  have lF3 : F3.length = 2 := by rw [← hF3]; rfl
  have oh3 : H3 hl0 = some (.lst (ts.map V.ref)) := e3.kp _ _ oh0 (fun z => by rw [z, hp] at oh0; cases oh0)
  have ltl : ts.length = hands.length := al.length
  have tup3 : ∀ (i : Nat) a, ts[i]? = some a → ∃ m, hands[i]? = some m ∧ H3 a = some (.tup [.str m.1, .int m.2]) ∧ 0 ≤ m.2 ∧ m.2 ≤ 1000 := fun i a ha => by
    have hl : i < hands.length := by rw [← ltl]; exact (List.getElem?_eq_some_iff.mp ha).1
    obtain ⟨a', ha', z1, z2, z3⟩ := al.get (List.getElem?_eq_getElem hl)
    rw [ha] at ha'
    cases ha'
    exact ⟨_, List.getElem?_eq_getElem hl, e3.kp _ _ z1 (fun z => by rw [z, hp] at z1; cases z1), z2, z3⟩
  have lo := e3.wt
  walk_at "ev"
  refine ⟨_, rfl, ⟨_, SqL.of oh3⟩, lcg2_of ?_⟩
  refine ⟨fun i m ys Hx => i ≤ ts.length ∧ m = ts.length - i ∧ ∃ (hs : List (Addr × Addr)) (Tx : Tg), ys = hs.map (fun q => V.ref q.1) ∧ hs.length = i ∧ Same H3 Hx ∧ Ex p H3 Hx Tb Tx ∧ ∀ (j : Nat) q m, hs[j]? = some q → hands[j]? = some m → HdO X.D Hx Tx s j q (m.1, List.replicate m.2.toNat none) ∧ q.1 ≠ p ∧ q.2 ≠ p,
    ⟨ts.length, Nat.zero_le _, rfl, [], Tb, rfl, rfl, Same.refl _, ⟨fun _ _ h _ => h, fun _ o h => ⟨o, h⟩, fun _ _ _ => rfl, lo⟩, fun j q m e => by simp at e⟩, ?_⟩
  rintro i m ys Hx ⟨hi, rfl, hs, Tx, rfl, hl, sx, ex, hds⟩
  by_cases hk : i = ts.length
  · refine .inl ⟨⟨_, SqL.of (sx _ _ oh3), by rw [List.length_map]; omega⟩, fun hla nhl => ?_⟩
    -- the list of the hands
    have nhl3 : H3 hla = none := sx.free nhl
    have s4 := same_new nhl (.lst (hs.map fun q => V.ref q.1))
    have e4 : Ex p Hx _ Tx _ := Ex.news (p := p) (vs := [(hla, (s, 5))]) ex.wt s4 (by
      intro v hv
      rw [List.mem_singleton.mp hv]
      exact ⟨nhl, _, upd_same⟩)
    have t4 : ([(hla, (s, 5))].foldr (fun v t => setT t v.1 v.2) Tx) hla = (s, 5) := setT_same
    have o4 : upd Hx hla (.lst (hs.map fun q => V.ref q.1)) hla = some (.lst (hs.map fun q => V.ref q.1)) := upd_same
    have hpx := sx _ _ g3
    have nhp : hla ≠ p := fun z => by rw [z, hpx] at nhl; cases nhl
    have hp4 := s4 _ _ hpx
    generalize upd Hx hla (.lst (hs.map fun q => V.ref q.1)) = H4 at s4 e4 o4 hp4 ⊢
    generalize ([(hla, (s, 5))] : List (Addr × (Nat × Nat))).foldr (fun v t => setT t v.1 v.2) Tx = T4 at e4 t4
    walk_at "ev"
    refine ⟨p, X.W, dx, _, rfl, hp4, T.cW, T.nWd, by rw [lF3]; decide, ?_⟩
    have e5 := Ex.updp (p := p) (o := .ins X.W dx (putF "hands" (.ref hla) F3)) e4.wt hp4
    have hp5 : upd H4 p (.ins X.W dx (putF "hands" (.ref hla) F3)) p = some (.ins X.W dx (putF "hands" (.ref hla) F3)) := upd_same
    generalize upd H4 p (.ins X.W dx (putF "hands" (.ref hla) F3)) = H5 at e5 hp5 ⊢
    walk_at "ev"
    -- the names
    intro nm hnm
    have nnp : nm ≠ p := fun z => by rw [z, hp5] at hnm; cases hnm
    have s6 := same_new hnm (.dK [])
    have e6 : Ex p H5 _ T4 _ := Ex.news (p := p) (vs := [(nm, (s, 6))]) e5.wt s6 (by
      intro v hv
      rw [List.mem_singleton.mp hv]
      exact ⟨hnm, _, upd_same⟩)
    have t6 : ([(nm, (s, 6))].foldr (fun v t => setT t v.1 v.2) T4) nm = (s, 6) := setT_same
    have o6 : upd H5 nm (.dK []) nm = some (.dK []) := upd_same
    have hp6 := s6 _ _ hp5
    generalize upd H5 nm (.dK []) = H6 at s6 e6 o6 hp6 ⊢
    generalize ([(nm, (s, 6))] : List (Addr × (Nat × Nat))).foldr (fun v t => setT t v.1 v.2) T4 = T6 at e6 t6
    walk_at "ev"
    refine ⟨p, X.W, dx, _, rfl, hp6, T.cW, T.nWn, by rw [← hF3]; show 3 < 1000; decide, ?_⟩
    have e7 := Ex.updp (p := p) (o := .ins X.W dx (putF "names" (.ref nm) (putF "hands" (.ref hla) F3))) e6.wt hp6
    have hp7 : upd H6 p (.ins X.W dx (putF "names" (.ref nm) (putF "hands" (.ref hla) F3))) p = some (.ins X.W dx (putF "names" (.ref nm) (putF "hands" (.ref hla) F3))) := upd_same
    generalize upd H6 p (.ins X.W dx (putF "names" (.ref nm) (putF "hands" (.ref hla) F3))) = H7 at e7 hp7 ⊢
    walk_at "ev"
    -- the sweeper
    intro sw ds nsw nds nes
    refine ⟨sw, rfl, ds, upd_same, fun gr H8 ngr b1 b2 k8 => ⟨rfl, ?_⟩⟩
    have ngr0 : H7 gr = none := by
      by_cases z : gr = sw
      · rw [z, upd_same] at ngr; cases ngr
      · rw [upd_ne z] at ngr
        by_cases y : gr = ds
        · rw [y, upd_same] at ngr; cases ngr
        · rw [upd_ne y] at ngr; exact ngr
    have s8 : Same H7 H8 := fun b o hb => k8 b o (by rw [upd_ne (ne_of_none hb nsw), upd_ne (ne_of_none hb nds)]; exact hb) (ne_of_none hb nsw)
    have e8 : Ex p H7 H8 T6 _ := Ex.news (p := p) (vs := [(sw, (s, 7)), (gr, (s, 8))]) e7.wt s8 (by
      intro v hv
      simp only [List.mem_cons, List.not_mem_nil, or_false] at hv
      rcases hv with rfl | rfl
      · exact ⟨nsw, _, b1⟩
      · exact ⟨ngr0, _, b2⟩)
    have nsg : sw ≠ gr := ne_of b1 b2 (fun z => by cases z)
    have ts8 : ([(sw, (s, 7)), (gr, (s, 8))].foldr (fun v t => setT t v.1 v.2) T6) sw = (s, 7) := setT_same
    have tg8 : ([(sw, (s, 7)), (gr, (s, 8))].foldr (fun v t => setT t v.1 v.2) T6) gr = (s, 8) := (setT_ne nsg.symm).trans setT_same
    generalize ([(sw, (s, 7)), (gr, (s, 8))] : List (Addr × (Nat × Nat))).foldr (fun v t => setT t v.1 v.2) T6 = T8 at e8 ts8 tg8
    have hp8 := s8 _ _ hp7
    have nsp : sw ≠ p := fun z => by rw [z, hp7] at nsw; cases nsw
    have ngp : gr ≠ p := fun z => by rw [z, hp7] at ngr0; cases ngr0
    clear k8 ngr
    walk_at "ev"
    refine ⟨p, X.W, dx, _, rfl, hp8, T.cW, T.nWs, by rw [← hF3]; show 4 < 1000; decide, ?_⟩
    have e9 := Ex.updp (p := p) (o := .ins X.W dx (putF "sweeper" (.ref sw) (putF "names" (.ref nm) (putF "hands" (.ref hla) F3)))) e8.wt hp8
    have hp9 : upd H8 p (.ins X.W dx (putF "sweeper" (.ref sw) (putF "names" (.ref nm) (putF "hands" (.ref hla) F3)))) p = some (.ins X.W dx (worldF hq ki hla nm sw)) := by
      rw [upd_same, ← hF3, worldF_mk]
    generalize upd H8 p (.ins X.W dx (putF "sweeper" (.ref sw) (putF "names" (.ref nm) (putF "hands" (.ref hla) F3)))) = H9 at e9 hp9 ⊢
    -- all of it
    have f89 := e9
    have f69 := e7.trans (e8.trans e9)
    have f49 := e5.trans (e6.trans f69)
    have fx9 := e4.trans f49
    have f39 := ex.trans fx9
    have f09 := e3.trans f39
    obtain ⟨⟨dk, ok⟩, ⟨dl, ol⟩⟩ := kd
    have hlk : ∃ o, H lk = some o := by
      rcases ol with ⟨_, z⟩ | ⟨_, z⟩ | ⟨_, z⟩
      · exact ⟨_, z⟩
      · exact ⟨_, z⟩
      · exact ⟨_, z⟩
    obtain ⟨olk, elk⟩ := hlk
    refine hQ H9 T8 ⟨p, hq, ca, ki, lk, hla, nm, sw, gr, hs, [], []⟩ f09.kp (fun b o hb nb => (f09.tg b o hb).trans (to0 b o hb nb)) f09.wt rfl ⟨⟨(f09.tg _ _ hp).trans tp, (f09.tg _ _ ok).trans ((to0 _ _ ok nki).trans tki), (f09.tg _ _ elk).trans ((to0 _ _ elk nlk).trans tlk), (f49.tg _ _ o4).trans t4, ⟨dx, hp9⟩, ⟨dk, f09.kp _ _ ok nki⟩, ⟨dl, ?_⟩, f49.kp _ _ o4 nhp⟩,
      ⟨(f39.tg _ _ a1).trans th1, (f39.tg _ _ a2).trans tc1, ⟨dh, f39.kp _ _ a1 nph⟩, f39.kp _ _ a2 npc⟩, ⟨(f69.tg _ _ o6).trans t6, f69.kp _ _ o6 nnp, .nil⟩,
      ⟨(f89.tg _ _ b1).trans ts8, (f89.tg _ _ b2).trans tg8, ⟨ds, f89.kp _ _ b1 nsp⟩, f89.kp _ _ b2 ngp⟩, ⟨?_, by show hs.length ≤ 30; rw [hl, hk, ltl]; exact hn, ?_⟩, ⟨rfl, fun i q c z => by simp at z⟩⟩
    · rcases ol with ⟨z, y⟩ | ⟨z, y⟩ | ⟨z, y⟩
      · exact .inl ⟨z, f09.kp _ _ y nlk⟩
      · exact .inr (.inl ⟨z, f09.kp _ _ y nlk⟩)
      · exact .inr (.inr ⟨z, f09.kp _ _ y nlk⟩)
    · show hs.length = (hands.map _).length
      rw [List.length_map, hl, hk, ltl]
    · intro j q m z1 z2
      have z2 : (hands.map fun m => (m.1, List.replicate m.2.toNat none))[j]? = some m := z2
      rw [List.getElem?_map] at z2
      obtain ⟨m0, y1, rfl⟩ := Option.map_eq_some_iff.mp z2
      obtain ⟨⟨u1, u2, ⟨du, u3⟩, u4⟩, v1, v2⟩ := hds j q m0 z1 y1
      exact ⟨(fx9.tg _ _ u3).trans u1, (fx9.tg _ _ u4).trans u2, ⟨du, fx9.kp _ _ u3 v1⟩, fx9.kp _ _ u4 v2⟩
  · have hlt : i < ts.length := by omega
    refine .inr ⟨⟨_, _, SqL.of (sx _ _ oh3), by rw [List.getElem?_map, List.getElem?_eq_getElem hlt]; rfl⟩, ?_, fun x H' y => ?_⟩
    · rw [List.length_map, hl]
      exact Nat.lt_of_lt_of_le hlt (len_ok (by omega))
    obtain ⟨y1, y2⟩ := y
    subst y1
    have ey := y2 _ (SqL.of (sx _ _ oh3))
    rw [List.getElem?_map, List.getElem?_eq_getElem hlt] at ey
    have ey : x = .ref ts[i] := (Option.some.inj ey).symm
    subst ey
    obtain ⟨m, hm, ot, m0, m1⟩ := tup3 i _ (List.getElem?_eq_getElem hlt)
    refine i_true (iteT ⟨ts[i], .str m.1, .int m.2, _, rfl, SqT.of (sx _ _ ot), ?_⟩)
    walk_at "caps"
    walk_at "ev"
    intro q1 dq nq ndq neq
    refine ⟨q1, m.1, m.2, rfl, dq, upd_same, m0, m1, fun sa Hy nsa b1 b2 k => ⟨rfl, ?_⟩⟩
    have nsa0 : H' sa = none := by
      by_cases z : sa = q1
      · rw [z, upd_same] at nsa; cases nsa
      · rw [upd_ne z] at nsa
        by_cases y : sa = dq
        · rw [y, upd_same] at nsa; cases nsa
        · rw [upd_ne y] at nsa; exact nsa
    have sy : Same H' Hy := fun b o hb => k b o (by rw [upd_ne (ne_of_none hb nq), upd_ne (ne_of_none hb ndq)]; exact hb) (ne_of_none hb nq)
    have ey : Ex p H' Hy Tx _ := Ex.news (p := p) (vs := [(q1, (s, 20 + 2 * i)), (sa, (s, 21 + 2 * i))]) ex.wt sy (by
      intro v hv
      simp only [List.mem_cons, List.not_mem_nil, or_false] at hv
      rcases hv with rfl | rfl
      · exact ⟨nq, _, b1⟩
      · exact ⟨nsa0, _, b2⟩)
    have nqs : q1 ≠ sa := ne_of b1 b2 (fun z => by cases z)
    have hpx := sx _ _ g3
    refine ⟨ts.length - (i + 1), by omega, by omega, rfl, hs ++ [(q1, sa)], _, by rw [List.map_append]; rfl, by rw [List.length_append, hl]; rfl, sx.trans sy, ex.trans ey, fun j q m' z1 z2 => ?_⟩
    by_cases hj : j < hs.length
    · rw [List.getElem?_append_left hj] at z1
      obtain ⟨⟨u1, u2, ⟨du, u3⟩, u4⟩, v1, v2⟩ := hds j q m' z1 z2
      exact ⟨⟨(ey.tg _ _ u3).trans u1, (ey.tg _ _ u4).trans u2, ⟨du, sy _ _ u3⟩, sy _ _ u4⟩, v1, v2⟩
    · have hj' := (List.getElem?_eq_some_iff.mp z1).1
      rw [List.length_append, List.length_singleton] at hj'
      have ej : j = hs.length := by omega
      subst ej
      rw [List.getElem?_append_right (Nat.le_refl _), Nat.sub_self] at z1
      cases z1
      rw [hl] at z2 ⊢
      rw [hm] at z2
      cases z2
      exact ⟨⟨setT_same, (setT_ne nqs.symm).trans setT_same, ⟨dq, b1⟩, by rw [b2, List.map_replicate]; rfl⟩, (fun z => by rw [show q1 = p from z, hpx] at nq; cases nq), (fun z => by rw [show sa = p from z, hpx] at nsa0; cases nsa0)⟩
end
theorem wd_at {w : Int} (h0 : 0 ≤ w) (h1 : w < 3) : atI [V.str "first", .str "each", .str "last"] w = some (.str (wd w)) := by
  have : w = 0 ∨ w = 1 ∨ w = 2 := by omega
  rcases this with rfl | rfl | rfl <;> rfl
theorem tl_at {w : Int} (h0 : 0 ≤ w) (h1 : w < 4) : atI [V.str "", .str " old", .str " new", .str " old new"] w = some (.str (tlS w)) := by
  have : w = 0 ∨ w = 1 ∨ w = 2 ∨ w = 3 := by omega
  rcases this with rfl | rfl | rfl | rfl <;> rfl
theorem tlS_len (w : Int) : (tlS w).length ≤ 8 := by
  unfold tlS
  by_cases h : w = 0
  · rw [if_pos h]; decide
  · rw [if_neg h]
    by_cases h : w = 1
    · rw [if_pos h]; decide
    · rw [if_neg h]
      by_cases h : w = 2
      · rw [if_pos h]; decide
      · rw [if_neg h]; decide
def S_at (K : PySem.W.Frag) : Sp := fun vs H Q E => ∃ a k, vs = [.ref a, .int k] ∧ ∃ ns : List Int, SqL K H a (ns.map V.int) ∧ 0 ≤ k ∧ ∀ z : Int, Q (.int z) H
def mixF (c f : Int) : Int := (c * f + 12345) % 2147483647 * ((c * f + 12345) % 2147483647) % 2147483629 / 3
def S_mix : Sp := fun vs H Q E => ∃ c f, vs = [.int c, .int f] ∧ 0 ≤ f ∧ f < 2 ^ 31 ∧ ∀ z : Int, 0 ≤ z → z = mixF c f → Q (.int z) H
def S_kindL : Sp := fun vs H Q E => ∃ c, vs = [.int c] ∧ ∀ w t H', 0 ≤ w → w < 3 → 0 ≤ t → t < 4 → Same H H' → Q (.str (words w t)) H'
section
variable {K : PySem.W.Frag} {H : Hp} {Q : VK} {E : XK} {n : St → Hp → Prop} {bk ct : St → Hp → Prop}
theorem _law_mix_rd {c f : Int} (q : 0 ≤ f ∧ f < 2 ^ 31 ∧ ∀ z : Int, 0 ≤ z → z = mixF c f → Q (.int z) H) : rd__law_mix ⟨n, Q, bk, ct⟩ [some (.int c), some (.int f), none] H := by
  obtain ⟨h0, h1, h⟩ := q
  unfold rd__law_mix
  walk_at "ev"
  refine h _ ?_ rfl
  generalize (c * f + 12345) % 2147483647 = d
  have := Int.emod_nonneg (d * d) (show (2147483629 : Int) ≠ 0 by decide)
  generalize d * d % 2147483629 = e at this ⊢
  omega
theorem _law_cell_at_rd {a : Addr} {k : Int} (q : ∃ ns : List Int, SqL K H a (ns.map V.int) ∧ 0 ≤ k ∧ ∀ z : Int, Q (.int z) H) : rd__law_cell_at K ⟨n, Q, bk, ct⟩ [some (.ref a), some (.int k)] H := by
  obtain ⟨ns, hS, h0, h⟩ := q
  unfold rd__law_cell_at
  walk_at "ev"
  refine i_lenL hS ?_
  walk_at "ev"
  refine ifd (fun h1 => ?_) (fun h1 => ?_)
  · walk_at "ev"
    rw [List.length_map] at h1
    have hk : k.toNat < ns.length := by omega
    exact i_ixL hS (atI_int h0 (by rw [List.getElem?_map, List.getElem?_eq_getElem hk] <;> rfl)) (h _)
  · walk_at "ev"
    exact h _
theorem _law_kind_rd {c : Int} (q : ∀ w t H', 0 ≤ w → w < 3 → 0 ≤ t → t < 4 → Same H H' → Q (.str (words w t)) H') : rd__law_kind K S_mix ⟨n, Q, bk, ct⟩ [some (.int c), none] H := by
  unfold rd__law_kind
  walk_at "ev"
  refine ⟨len_ok (by simp), fun l1 h1 => ?_⟩
  have s1 := same_new h1 (.lst [.str "first", .str "each", .str "last"])
  have g1 : upd H l1 (.lst [.str "first", .str "each", .str "last"]) l1 = some (.lst [.str "first", .str "each", .str "last"]) := upd_same
  generalize upd H l1 (.lst [.str "first", .str "each", .str "last"]) = H1 at s1 g1 ⊢
  walk_at "ev"
  refine ⟨_, _, rfl, by decide, by decide, fun z hz _ => ?_⟩
  walk_at "ev"
  have z0 : 0 ≤ z % 3 := by omega
  have z1 : z % 3 < 3 := by omega
  generalize z % 3 = w at z0 z1 ⊢
  refine i_ixL (SqL.of g1) (wd_at z0 z1) ?_
  walk_at "ev"
  refine ⟨len_ok (by simp), fun l2 h2 => ?_⟩
  have s2 := same_new h2 (.lst [.str "", .str " old", .str " new", .str " old new"])
  have g2 : upd H1 l2 (.lst [.str "", .str " old", .str " new", .str " old new"]) l2 = some (.lst [.str "", .str " old", .str " new", .str " old new"]) := upd_same
  generalize upd H1 l2 (.lst [.str "", .str " old", .str " new", .str " old new"]) = H2 at s2 g2 ⊢
  walk_at "ev"
  refine ⟨_, _, rfl, by decide, by decide, fun y hy _ => ?_⟩
  walk_at "ev"
  have y0 : 0 ≤ y % 4 := by omega
  have y1 : y % 4 < 4 := by omega
  generalize y % 4 = t at y0 y1 ⊢
  refine i_ixL (SqL.of g2) (tl_at y0 y1) ?_
  walk_at "ev"
  have a1 := wd_len w
  have a2 := tlS_len t
  refine i_catS (len_ok (by omega)) ?_
  exact q w t H2 z0 z1 y0 y1 (s1.trans s2)
end
def heldOf (M : Wm) : List (List (Option Int)) := M.hands.map (·.2)
def S_held (X : Cs) : Sp := fun vs H Q E => ∃ wo, vs = [.ref wo] ∧ ∃ T s A M, WJ X H T s A M ∧ A.wo = wo ∧ M.hands.length ≤ 1000 ∧ ∀ (l : Addr) (ls : List Addr) H', Same H H' → H l = none → H' l = some (.lst (ls.map V.ref)) → ls.length = (heldOf M).length → ls.Nodup → (∀ r ∈ ls, H r = none) → l ∉ ls → (∀ (j : Nat) r x, ls[j]? = some r → (heldOf M)[j]? = some x → H' r = some (.lst (x.map oV))) → Q (.ref l) H'
section
variable {K : PySem.W.Frag} {X : Cs} {H : Hp} {Q : VK} {E : XK} {n : St → Hp → Prop} {bk ct : St → Hp → Prop}
theorem held_rd {wo : Addr} (T : TxW K X) (q : ∃ T s A M, WJ X H T s A M ∧ A.wo = wo ∧ M.hands.length ≤ 1000 ∧ ∀ (l : Addr) (ls : List Addr) H', Same H H' → H l = none → H' l = some (.lst (ls.map V.ref)) → ls.length = (heldOf M).length → ls.Nodup → (∀ r ∈ ls, H r = none) → l ∉ ls → (∀ (j : Nat) r x, ls[j]? = some r → (heldOf M)[j]? = some x → H' r = some (.lst (x.map oV))) → Q (.ref l) H') :
    rd_held K ⟨n, Q, bk, ct⟩ [some (.ref wo)] H := by
  obtain ⟨Tg, s, A, M, j, rfl, hl, q⟩ := q
  obtain ⟨dx, ow⟩ := j.jb.ow
  unfold rd_held
  walk_at "ev"
  refine i_lcg ?_
  walk_at "ev"
  refine i_fldK ow T.cW T.nWd worldF_lk_hands ?_
  have l5 := j.jd.l5
  refine ⟨_, rfl, ⟨_, SqL.of j.jb.on⟩, ?_⟩
  refine lc_newDL (SqL.of j.jb.on) (by rw [List.length_map]; omega) (fun i r Hx => ∃ x, (heldOf M)[i]? = some x ∧ Hx r = some (.lst (x.map oV))) (fun _ _ _ _ ⟨x, e, z⟩ s => ⟨x, e, s _ _ z⟩) (fun _ _ _ ⟨_, _, z⟩ => ⟨_, z⟩) (fun x H1 q hq => i_true hq) (fun i x H1 hi s1 q' hq => ?_) ?_
  · rw [List.getElem?_map] at hi
    obtain ⟨p, hp, rfl⟩ := Option.map_eq_some_iff.mp hi
    have j1 := j.same s1
    obtain ⟨m, hm, hd⟩ := j1.hand hp
    obtain ⟨dx, o1⟩ := hd.o1
    walk_at "caps"
    walk_at "ev"
    refine i_fldK o1 T.cD T.nDs handF_lk_slots ?_
    walk_at "ev"
    refine i_listL (SqL.of hd.o2) fun l hl => ?_
    exact hq l _ (same_new hl _) hl ⟨_, by unfold heldOf; rw [List.getElem?_map, hm]; rfl, upd_same⟩
  · intro rs H' s1 hl nd nn hr p hp
    have s2 := same_new hp (.lst (rs.map V.ref))
    refine q p rs _ (s1.trans s2) (s1.free hp) upd_same ?_ nd nn (fun z => ?_) fun j' r x e1 e2 => ?_
    · rw [hl, List.length_map]
      unfold heldOf
      rw [List.length_map, j.jd.lh]
    · obtain ⟨k, hk, e⟩ := List.getElem_of_mem z
      obtain ⟨_, _, e4⟩ := hr k p (by rw [List.getElem?_eq_getElem hk, e])
      rw [hp] at e4; cases e4
    · obtain ⟨y, e3, z⟩ := hr j' r e1
      rw [e2] at e3
      cases e3
      exact s2 _ _ z
end
def Sm (H : Hp) : Nat → V → V → Prop
  | 0, x, y => x = y ∧ flatV x = true
  | d + 1, x, y => (x = y ∧ flatV x = true) ∨ ∃ a b xs ys, x = .ref a ∧ y = .ref b ∧ ((H a = some (.lst xs) ∧ H b = some (.lst ys)) ∨ (H a = some (.tup xs) ∧ H b = some (.tup ys))) ∧ xs.length ≤ 1000000 ∧ G.Al (Sm H d) xs ys
def S_same (d : Nat) : Sp := fun vs H Q E => ∃ x y, vs = [x, y] ∧ Sm H d x y ∧ Q (.bl true) H
def S_never : Sp := fun vs H Q E => ∃ x y : V, vs = [x, y] ∧ False
section
variable {K : PySem.W.Frag} {H : Hp} {Q : VK} {n : St → Hp → Prop} {bk ct : St → Hp → Prop}
theorem same_flat {sp : Sp} {x : V} (hf : flatV x = true) (q : Q (.bl true) H) : rd__law_same K sp ⟨n, Q, bk, ct⟩ [some x, some x, none] H := by
  unfold rd__law_same
  cases x with
  | non =>
    walk_at "ev"
    exact q
  | bl b =>
    walk_at "ev"
    cases b with
    | true =>
      refine i_iteT ?_
      walk_at "ev"
      exact q
    | false =>
      refine i_iteF ?_
      walk_at "ev"
      refine i_iteT ?_
      walk_at "ev"
      exact q
  | int i =>
    walk_at "ev"
    refine i_iteF ?_
    walk_at "ev"
    refine i_iteF ?_
    walk_at "ev"
    rw [decide_eq_true rfl]
    exact q
  | str z =>
    walk_at "ev"
    refine i_iteF ?_
    walk_at "ev"
    refine i_iteF ?_
    walk_at "ev"
    rw [decide_eq_true rfl]
    exact q
  | _ => exact absurd (show false = true from hf) Bool.false_ne_true
theorem same_seq {sp : Sp} {a b : Addr} {xs ys : List V} (hl : xs.length = ys.length) (h1000 : xs.length ≤ 1000000) (hab : (H a = some (.lst xs) ∧ H b = some (.lst ys)) ∨ (H a = some (.tup xs) ∧ H b = some (.tup ys)))
    (hs : ∀ (i : Nat) (x y : V), xs[i]? = some x → ys[i]? = some y → ∀ Q' E', Q' (.bl true) H → sp [x, y] H Q' E') (q : Q (.bl true) H) : rd__law_same K sp ⟨n, Q, bk, ct⟩ [some (.ref a), some (.ref b), none] H := by
  unfold rd__law_same
  walk_at "ev"
  refine i_iteF ?_
  walk_at "ev"
  refine i_iteF ?_
  walk_at "ev"
  have lp : ∀ (T : TE), True := fun _ => trivial
  rcases hab with ⟨ha, hb⟩ | ⟨ha, hb⟩
  · refine i_isiL_int hb ?_
    walk_at "ev"
    refine i_isiL_str hb ?_
    walk_at "ev"
    refine i_isiL_list hb ?_
    walk_at "ev"
    refine i_isiL_list ha ?_
    walk_at "ev"
    refine i_isiL_tuple hb ?_
    walk_at "ev"
    refine i_lenL (SqL.of ha) ?_
    walk_at "ev"
    refine i_lenL (SqL.of hb) ?_
    walk_at "ev"
    rw [hl]
    refine ifnd (fun z => absurd rfl z) (fun _ => ?_)
    walk_at "ev"
    refine i_lenL (SqL.of hb) ?_
    walk_at "ev"
    refine ⟨_, rfl, by omega, by omega, ?_⟩
    refine forR (fun _ σ Hx => ∃ v, σ = [some (.ref a), some (.ref b), v] ∧ Hx = H) ⟨_, rfl, rfl⟩ ?_ ?_
    · rintro i σ Hx hi ⟨v, rfl, rfl⟩
      have e0 : (0 : Int) + (i : Int) = i := by omega
      rw [e0]
      have hy : i < ys.length := by omega
      have hx : i < xs.length := by omega
      walk_at "ev"
      refine .inl (i_ixL (SqL.of ha) (atI_nat (List.getElem?_eq_getElem hx)) ?_)
      walk_at "ev"
      refine .inl (i_ixL (SqL.of hb) (atI_nat (List.getElem?_eq_getElem hy)) ?_)
      walk_at "ev"
      refine hs i _ _ (List.getElem?_eq_getElem hx) (List.getElem?_eq_getElem hy) _ _ ?_
      walk_at "ev"
      exact ⟨_, rfl, rfl⟩
    · rintro σ Hx ⟨v, rfl, rfl⟩
      walk_at "ev"
      exact q
  · refine i_isiT_int hb ?_
    walk_at "ev"
    refine i_isiT_str hb ?_
    walk_at "ev"
    refine i_isiT_list hb ?_
    walk_at "ev"
    refine i_isiT_tuple hb ?_
    walk_at "ev"
    refine i_isiT_tuple ha ?_
    walk_at "ev"
    refine ⟨a, xs, rfl, .inr (SqT.of ha), ?_⟩
    walk_at "ev"
    refine ⟨b, ys, rfl, .inr (SqT.of hb), ?_⟩
    walk_at "ev"
    rw [hl]
    refine ifnd (fun z => absurd rfl z) (fun _ => ?_)
    walk_at "ev"
    refine ⟨b, ys, rfl, .inr (SqT.of hb), ?_⟩
    walk_at "ev"
    refine ⟨_, rfl, by omega, by omega, ?_⟩
    refine forR (fun _ σ Hx => ∃ v, σ = [some (.ref a), some (.ref b), v] ∧ Hx = H) ⟨_, rfl, rfl⟩ ?_ ?_
    · rintro i σ Hx hi ⟨v, rfl, rfl⟩
      have e0 : (0 : Int) + (i : Int) = i := by omega
      rw [e0]
      have hy : i < ys.length := by omega
      have hx : i < xs.length := by omega
      walk_at "ev"
      refine .inr (.inl ⟨a, xs, i, _, rfl, rfl, SqT.of ha, atI_nat (List.getElem?_eq_getElem hx), ?_⟩)
      walk_at "ev"
      refine .inr (.inl ⟨b, ys, i, _, rfl, rfl, SqT.of hb, atI_nat (List.getElem?_eq_getElem hy), ?_⟩)
      walk_at "ev"
      refine hs i _ _ (List.getElem?_eq_getElem hx) (List.getElem?_eq_getElem hy) _ _ ?_
      walk_at "ev"
      exact ⟨_, rfl, rfl⟩
    · rintro σ Hx ⟨v, rfl, rfl⟩
      walk_at "ev"
      exact q
theorem _law_same_rd0 {x y : V} (q : Sm H 0 x y ∧ Q (.bl true) H) : rd__law_same K S_never ⟨n, Q, bk, ct⟩ [some x, some y, none] H := by
  obtain ⟨⟨rfl, hf⟩, q⟩ := q
  exact same_flat hf q
theorem _law_same_rd {d : Nat} {x y : V} (q : Sm H (d + 1) x y ∧ Q (.bl true) H) : rd__law_same K (S_same d) ⟨n, Q, bk, ct⟩ [some x, some y, none] H := by
  obtain ⟨h | ⟨a, b, xs, ys, rfl, rfl, hab, hz, al⟩, q⟩ := q
  · obtain ⟨rfl, hf⟩ := h
    exact same_flat hf q
  · refine same_seq al.length hz hab (fun i x y e1 e2 Q' E' hq => ?_) q
    obtain ⟨x', e3, hs⟩ := al.get e2
    rw [e1] at e3
    cases e3
    exact ⟨x, y, rfl, hs, hq⟩
end
structure Rw (H : Hp) (T : Tg) (lr : Addr) (rs : List Addr) (rows : List (List (Option Int))) : Prop where
  tl : T lr = (2, 0)
  ol : H lr = some (.lst (rs.map V.ref))
  ln : rs.length = rows.length
  at_ : ∀ (j : Nat) r x, rs[j]? = some r → rows[j]? = some x → T r = (2, 1 + j) ∧ H r = some (.lst (x.map oV))
section
variable {H H' : Hp} {T T' : Tg} {lr : Addr} {rs : List Addr} {rows : List (List (Option Int))}
theorem Rw.mv (w : Rw H T lr rs rows) (hh : ∀ b o, H b = some o → (T b).1 = 2 → H' b = some o) (ht : ∀ b o, H b = some o → T' b = T b) : Rw H' T' lr rs rows := by
  obtain ⟨a1, a2, a3, a4⟩ := w
  refine ⟨(ht _ _ a2).trans a1, hh _ _ a2 (by rw [a1]), a3, fun j r x e1 e2 => ?_⟩
  obtain ⟨b1, b2⟩ := a4 j r x e1 e2
  exact ⟨(ht _ _ b2).trans b1, hh _ _ b2 (by rw [b1])⟩
theorem Rw.same (w : Rw H T lr rs rows) (e : Same H H') : Rw H' T lr rs rows := w.mv (fun b o h _ => e b o h) fun _ _ _ => rfl
theorem Rw.other {s : Nat} (w : Rw H T lr rs rows) (e : Stp s H H' T T') (n : s ≠ 2) : Rw H' T' lr rs rows := w.mv (fun b o h t => e.kp b o h (by rw [t]; exact fun z => n z.symm)) e.tg
theorem Rw.get (w : Rw H T lr rs rows) {j : Nat} {x : List (Option Int)} (h : rows[j]? = some x) : ∃ r, rs[j]? = some r ∧ T r = (2, 1 + j) ∧ H r = some (.lst (x.map oV)) := by
  have hl : j < rs.length := by rw [w.ln]; exact (List.getElem?_eq_some_iff.mp h).1
  obtain ⟨b1, b2⟩ := w.at_ j _ x (List.getElem?_eq_getElem hl) h
  exact ⟨_, List.getElem?_eq_getElem hl, b1, b2⟩
theorem Rw.set (w : Rw H T lr rs rows) (wt : WT H T) {j k : Nat} {r : Addr} {x : List (Option Int)} {y : Option Int} (hr : rs[j]? = some r) (hx : rows[j]? = some x) :
    Stp 2 H (upd H r (.lst ((x.map oV).set k (oV y)))) T T ∧ Rw (upd H r (.lst ((x.map oV).set k (oV y)))) T lr rs (rows.set j (x.set k y)) := by
  obtain ⟨b1, b2⟩ := w.at_ j r x hr hx
  refine ⟨Stp.upd wt b2 (by rw [b1]), w.tl, ?_, by rw [List.length_set]; exact w.ln, fun i r' x' e1 e2 => ?_⟩
  · rw [upd_ne (ne_tag w.tl b1 (by simp; omega))]; exact w.ol
  · by_cases hi : i = j
    · subst hi
      rw [List.getElem?_set_self (List.getElem?_eq_some_iff.mp hx).1] at e2
      rw [hr] at e1
      cases e1
      cases e2
      exact ⟨b1, by rw [upd_same, List.map_set]⟩
    · rw [List.getElem?_set_ne (fun z => hi z.symm)] at e2
      obtain ⟨c1, c2⟩ := w.at_ i r' x' e1 e2
      exact ⟨c1, by rw [upd_ne (ne_tag c1 b1 (by simp; omega))]; exact c2⟩
def tagR (T : Tg) (lr : Addr) (rs : List Addr) : Tg := fun b => if b ∈ rs then (2, 1 + rs.idxOf b) else if b = lr then (2, 0) else T b
theorem idxOf_nodup : ∀ {rs : List Addr} {j : Nat} {r : Addr}, rs.Nodup → rs[j]? = some r → rs.idxOf r = j := by
  intro rs
  induction rs with
  | nil => intro j r _ e; simp at e
  | cons a rs ih =>
    intro j r nd e
    obtain ⟨n1, n2⟩ := List.nodup_cons.mp nd
    rw [List.idxOf_cons]
    cases j with
    | zero => simp at e; subst e; simp
    | succ j =>
      have e' : rs[j]? = some r := by simpa using e
      have hne : a ≠ r := fun z => n1 (by rw [z]; exact List.mem_of_getElem? e')
      have hb : (a == r) = false := beq_eq_false_iff_ne.mpr hne
      rw [hb]
      show rs.idxOf r + 1 = j + 1
      rw [ih n2 e']
theorem Rw.init (wt : WT H T) (s : Same H H') (nd : rs.Nodup) (nr : ∀ r ∈ rs, H r = none) (nl : H lr = none) (nlr : lr ∉ rs) (ol : H' lr = some (.lst (rs.map V.ref))) (ln : rs.length = rows.length) (at_ : ∀ (j : Nat) r x, rs[j]? = some r → rows[j]? = some x → H' r = some (.lst (x.map oV))) :
    Rw H' (tagR T lr rs) lr rs rows ∧ WT H' (tagR T lr rs) ∧ ∀ b o, H b = some o → tagR T lr rs b = T b := by
  refine ⟨⟨?_, ol, ln, fun j r x e1 e2 => ⟨?_, at_ j r x e1 e2⟩⟩, fun b hb => ?_, fun b o hb => ?_⟩
  · unfold tagR
    rw [if_neg nlr, if_pos rfl]
  · unfold tagR
    rw [if_pos (List.mem_of_getElem? e1), idxOf_nodup nd e1]
  · have h1 : b ∉ rs := fun z => by
      obtain ⟨j, hj, e⟩ := List.getElem_of_mem z
      have hj2 : j < rows.length := by rw [← ln]; exact hj
      have := at_ j b _ (by rw [List.getElem?_eq_getElem hj, e]) (List.getElem?_eq_getElem hj2)
      rw [hb] at this; cases this
    have h2 : b ≠ lr := fun z => by rw [z, ol] at hb; cases hb
    unfold tagR
    rw [if_neg h1, if_neg h2]
    exact wt b (s.free hb)
  · have h1 : b ∉ rs := fun z => by rw [nr b z] at hb; cases hb
    have h2 : b ≠ lr := fun z => by rw [z, nl] at hb; cases hb
    unfold tagR
    rw [if_neg h1, if_neg h2]
end
theorem flat_oV (x : Option Int) : flatV (oV x) = true := by cases x <;> rfl
theorem sm_flat {H : Hp} {d : Nat} {x : V} (h : flatV x = true) : Sm H d x x := by
  cases d with
  | zero => exact ⟨rfl, h⟩
  | succ d => exact .inl ⟨rfl, h⟩
theorem sm_flats {H : Hp} {d : Nat} : ∀ {xs : List V}, xs.all flatV = true → Al (Sm H d) xs xs
  | [], _ => .nil
  | x :: xs, h => by
    rw [List.all_cons, Bool.and_eq_true] at h
    exact .cons (sm_flat h.1) (sm_flats h.2)
theorem all_oV (l : List (Option Int)) : (l.map oV).all flatV = true := by
  rw [List.all_eq_true]
  intro x hx
  obtain ⟨i, _, rfl⟩ := List.mem_map.mp hx
  exact flat_oV i
theorem al_of {α β : Type} {P : α → β → Prop} : ∀ {xs : List α} {ys : List β}, xs.length = ys.length → (∀ (i : Nat) x y, xs[i]? = some x → ys[i]? = some y → P x y) → Al P xs ys
  | [], [], _, _ => .nil
  | [], _ :: _, h, _ => by simp at h
  | _ :: _, [], h, _ => by simp at h
  | x :: xs, y :: ys, h, p => .cons (p 0 x y rfl rfl) (al_of (by simpa using h) fun i a b h1 h2 => p (i + 1) a b (by simpa using h1) (by simpa using h2))
theorem sm_rows {H : Hp} {l lr : Addr} {ls rs : List Addr} {rows : List (List (Option Int))} (h1 : H l = some (.lst (ls.map V.ref))) (h2 : H lr = some (.lst (rs.map V.ref))) (n1 : ls.length = rows.length) (n2 : rs.length = rows.length) (hb : rows.length ≤ 1000) (hr : ∀ x ∈ rows, x.length ≤ 1000)
    (g1 : ∀ (j : Nat) r x, ls[j]? = some r → rows[j]? = some x → H r = some (.lst (x.map oV))) (g2 : ∀ (j : Nat) r x, rs[j]? = some r → rows[j]? = some x → H r = some (.lst (x.map oV))) : Sm H 3 (.ref l) (.ref lr) := by
  refine .inr ⟨l, lr, _, _, rfl, rfl, .inl ⟨h1, h2⟩, by rw [List.length_map]; omega, al_of (by rw [List.length_map, List.length_map]; omega) fun i x y e1 e2 => ?_⟩
  rw [List.getElem?_map] at e1 e2
  cases c1 : ls[i]? with
  | none => rw [c1] at e1; cases e1
  | some r1 =>
    cases c2 : rs[i]? with
    | none => rw [c2] at e2; cases e2
    | some r2 =>
      rw [c1] at e1
      rw [c2] at e2
      cases e1
      cases e2
      have hi : i < rows.length := by rw [← n1]; exact (List.getElem?_eq_some_iff.mp c1).1
      refine .inr ⟨r1, r2, _, _, rfl, rfl, .inl ⟨g1 i r1 _ c1 (List.getElem?_eq_getElem hi), g2 i r2 _ c2 (List.getElem?_eq_getElem hi)⟩, ?_, sm_flats (all_oV _)⟩
      rw [List.length_map]
      have := hr _ (List.getElem_mem hi)
      omega
theorem toN {x : Int} (h : 0 ≤ x) : ∃ k : Nat, x = k := ⟨x.toNat, by omega⟩
def partBegin : Unit := ()
def atBegin (w : Int) (h : Nat) : Int := if w = 0 then 2 ^ h - 1 else 0
def beginM (M : Wm) : Wm := { M with sw := { M.sw with sense := 1 - M.sw.sense, phase := "walk", grey := [], looked := atBegin M.w M.hands.length, turn := M.sw.turn + 1, walks := 0, looks := 0, passes := 0 } }
def S_all_of : Sp := fun vs H Q E => ∃ h, vs = [.int h] ∧ 0 ≤ h ∧ h ≤ 30 ∧ Q (.int (2 ^ h.toNat - 1)) H
def S_at_begin (k : Nat) : Sp := fun vs H Q E => ∃ a h, vs = [.ref a, .int h] ∧ 0 ≤ h ∧ h ≤ 30 ∧ Q (.int (if k = 0 then 2 ^ h.toNat - 1 else 0)) H
def S_begin (X : Cs) : Sp := fun vs H Q E => ∃ wo, vs = [.ref wo] ∧ ∃ T s A M, WT H T ∧ s ≠ 0 ∧ WJ X H T s A M ∧ A.wo = wo ∧ ∀ H' T' A', Stp s H H' T T' → WJ X H' T' s A' (beginM M) → A'.wo = wo → Q .non H'
section
variable {X : Cs} {H H' : Hp} {T T' : Tg} {s : Nat} {A : Wa} {M : Wm}
theorem WJ.newgrey (j : WJ X H T s A M) (w : WT H T) (h0 : s ≠ 0) {dx l : Addr} (S : Sw) (hl : H l = none) (e9 : S.grey = []) :
    Stp s H (upd (upd H l (.lst [])) A.sw (.ins X.S dx (sweepF S.sense S.phase l S.looked S.turn S.at' S.stop S.walks S.looks S.passes S.loss))) T (setT T l (s, 8)) ∧
    WJ X (upd (upd H l (.lst [])) A.sw (.ins X.S dx (sweepF S.sense S.phase l S.looked S.turn S.at' S.stop S.walks S.looks S.passes S.loss))) (setT T l (s, 8)) s { A with gr := l } { M with sw := S } := by
  obtain ⟨ts, tg, ⟨dd, os⟩, og⟩ := id j.js
  have nls : l ≠ A.sw := (ne_of_none os hl).symm
  have w1 : WT (upd H l (.lst [])) (setT T l (s, 8)) := wt_set (w.same (same_new hl _)) upd_same
  have st1 : Stp s H (upd H l (.lst [])) T (setT T l (s, 8)) := ⟨fun b o h _ => (same_new hl _) _ _ h, fun b o h => ⟨o, (same_new hl _) _ _ h⟩, fun b o h => setT_ne (ne_of_none h hl), w1⟩
  have j1 : WJ X (upd H l (.lst [])) (setT T l (s, 8)) s A M := j.fresh hl
  obtain ⟨ts1, tg1, ⟨dd1, os1⟩, og1⟩ := id j1.js
  refine ⟨st1.trans (Stp.upd w1 os1 (by rw [ts1])), ?_⟩
  have f : Frm s (· = 7) (upd H l (.lst [])) (upd (upd H l (.lst [])) A.sw (.ins X.S dx (sweepF S.sense S.phase l S.looked S.turn S.at' S.stop S.walks S.looks S.passes S.loss))) (setT T l (s, 8)) (setT T l (s, 8)) := Frm.of_upd ts1
  have b1 := j1.jb.mv f (f0_upd h0 ts1) (by omega) (by omega)
  have b2 := j1.jh.mv f (by omega) (by omega)
  have b3 := j1.jn.mv f (f0_upd h0 ts1) (by omega)
  have b5 := j1.jd.mv f fun _ _ _ => by omega
  have b6 := j1.jc.mv f fun _ _ => by omega
  obtain ⟨x1, x2, x3, x4, x5, x6, x7, x8⟩ := b1
  obtain ⟨y1, y2, y3, y4⟩ := b2
  obtain ⟨z1, z2, z3⟩ := b3
  exact ⟨⟨x1, x2, x3, x4, x5, x6, x7, x8⟩, ⟨y1, y2, y3, y4⟩, ⟨z1, z2, z3⟩, ⟨ts1, setT_same, ⟨dx, upd_same⟩, by rw [upd_ne nls, upd_same, e9]; rfl⟩, b5, b6⟩
end
section
variable {K : PySem.W.Frag} {X : Cs} {H : Hp} {Q : VK} {E : XK} {n : St → Hp → Prop} {bk ct : St → Hp → Prop}
theorem cpow1 {j : Int} (h0 : 0 ≤ j) (h1 : j ≤ 1000) : CPow 1 j := ⟨h0, by omega, by decide⟩
theorem all_of_rd {h : Int} (q : 0 ≤ h ∧ h ≤ 30 ∧ Q (.int (2 ^ h.toNat - 1)) H) : rd_all_of ⟨n, Q, bk, ct⟩ [some (.int h)] H := by
  obtain ⟨h0, h1, q⟩ := q
  unfold rd_all_of
  walk_at "ev"
  refine ⟨_, _, rfl, rfl, cpow1 h0 (by omega), ?_⟩
  walk_at "ev"
  rw [Int.one_mul]
  exact q
theorem Looking_at_begin_rd {a : Addr} {h : Int} (q : 0 ≤ h ∧ h ≤ 30 ∧ Q (.int (if (1 : Nat) = 0 then 2 ^ h.toNat - 1 else 0)) H) : rd_Looking_at_begin ⟨n, Q, bk, ct⟩ [some (.ref a), some (.int h)] H := by
  unfold rd_Looking_at_begin
  walk_at "ev"
  exact q.2.2
theorem First_at_begin_rd {a : Addr} {h : Int} (q : 0 ≤ h ∧ h ≤ 30 ∧ Q (.int (if (0 : Nat) = 0 then 2 ^ h.toNat - 1 else 0)) H) : rd_First_at_begin S_all_of ⟨n, Q, bk, ct⟩ [some (.ref a), some (.int h)] H := by
  obtain ⟨h0, h1, q⟩ := q
  unfold rd_First_at_begin
  walk_at "ev"
  exact ⟨h, rfl, h0, h1, q⟩
theorem begin_rd {wo : Addr} (Tx : TxW K X) (q : ∃ T s A M, WT H T ∧ s ≠ 0 ∧ WJ X H T s A M ∧ A.wo = wo ∧ ∀ H' T' A', Stp s H H' T T' → WJ X H' T' s A' (beginM M) → A'.wo = wo → Q .non H') :
    rd_begin K X.E X.F X.L (S_at_begin 0) (S_at_begin 1) ⟨fun _ H' => Q .non H', Q, bk, ct⟩ [some (.ref wo), none] H := by
  obtain ⟨T, s, A, M, w, h0, j, rfl, q⟩ := q
  obtain ⟨dw, ow⟩ := j.jb.ow
  obtain ⟨ds, os⟩ := j.js.os
  obtain ⟨dk, ok⟩ := j.jb.ok
  obtain ⟨dl, ol⟩ := j.jb.ol
  have on := j.jb.on
  have lh := j.jd.lh
  have l5 := j.jd.l5
  unfold rd_begin
  walk_at "ev"
  refine i_fldK ow Tx.cW Tx.nWs worldF_lk_sweeper ?_
  walk_at "ev"
  refine i_fldK os Tx.cS Tx.n1 sweepF_lk_sense ?_
  walk_at "ev"
  refine ⟨A.sw, X.S, ds, _, rfl, os, Tx.cS, Tx.n1, by show 11 < 1000; decide, ?_⟩
  rw [sweepF_put_sense]
  walk_at "ev"
  refine i_fldK upd_same Tx.cS Tx.n5 sweepF_lk_turn ?_
  walk_at "ev"
  refine ⟨A.sw, X.S, ds, _, rfl, upd_same, Tx.cS, Tx.n5, by show 11 < 1000; decide, ?_⟩
  rw [sweepF_put_turn, upd_upd]
  walk_at "ev"
  refine ⟨A.sw, X.S, ds, _, rfl, upd_same, Tx.cS, Tx.n2, by show 11 < 1000; decide, ?_⟩
  rw [sweepF_put_phase, upd_upd]
  walk_at "ev"
  refine ⟨by decide, fun gr hgr => ?_⟩
  have nsg : A.sw ≠ gr := ne_of_none upd_same hgr
  have hgr0 : H gr = none := by rw [upd_ne nsg.symm] at hgr; exact hgr
  walk_at "ev"
  refine ⟨A.sw, X.S, ds, _, rfl, by rw [upd_ne nsg]; exact upd_same, Tx.cS, Tx.n3, by show 11 < 1000; decide, ?_⟩
  rw [sweepF_put_grey]
  -- the order of the two changes
  have sw2 : ∀ (a b : HO) (o : HO), upd (upd (upd H A.sw a) gr o) A.sw b = upd (upd H gr o) A.sw b := fun a b o => by
    funext x
    by_cases z : x = A.sw
    · rw [z, upd_same, upd_same]
    · rw [upd_ne z, upd_ne z]
      by_cases y : x = gr
      · rw [y, upd_same, upd_same]
      · rw [upd_ne y, upd_ne y, upd_ne z]
  rw [sw2]
  have fin : ∀ {lo : Int} {σ : St}, σ = [some (.ref A.wo), some (.ref A.sw)] → lo = atBegin M.w M.hands.length → ∀ (H3 : Hp), H3 = upd (upd H gr (.lst [])) A.sw (.ins X.S ds (sweepF (1 - M.sw.sense) "walk" gr M.sw.looked (M.sw.turn + 1) M.sw.at' M.sw.stop M.sw.walks M.sw.looks M.sw.passes M.sw.loss)) →
      (∃ a C dx fs, V.ref A.sw = .ref a ∧ H3 a = some (.ins C dx fs) ∧ Cls K C ∧ NoAttr K C "looked" ∧ fs.length < 1000 ∧ (tSeq (sFld K (tVar 1) (tC (.int 0)) "walks") (tSeq (sFld K (tVar 1) (tC (.int 0)) "looks") (sFld K (tVar 1) (tC (.int 0)) "passes"))) ⟨fun _ H' => Q .non H', Q, bk, ct⟩ σ (upd H3 a (.ins C dx (putF "looked" (.int lo) fs)))) := by
    rintro lo σ rfl elo H3 rfl
    refine ⟨A.sw, X.S, ds, _, rfl, upd_same, Tx.cS, Tx.n4, by show 11 < 1000; decide, ?_⟩
    rw [sweepF_put_looked, upd_upd]
    walk_at "ev"
    refine ⟨A.sw, X.S, ds, _, rfl, upd_same, Tx.cS, Tx.n8, by show 11 < 1000; decide, ?_⟩
    rw [sweepF_put_walks, upd_upd]
    walk_at "ev"
    refine ⟨A.sw, X.S, ds, _, rfl, upd_same, Tx.cS, Tx.n9, by show 11 < 1000; decide, ?_⟩
    rw [sweepF_put_looks, upd_upd]
    walk_at "ev"
    refine ⟨A.sw, X.S, ds, _, rfl, upd_same, Tx.cS, Tx.n10, by show 11 < 1000; decide, ?_⟩
    rw [sweepF_put_passes, upd_upd]
    obtain ⟨st, j'⟩ := j.newgrey w h0 (dx := ds) (l := gr) { M.sw with sense := 1 - M.sw.sense, phase := "walk", grey := [], looked := atBegin M.w M.hands.length, turn := M.sw.turn + 1, walks := 0, looks := 0, passes := 0 } hgr0 rfl
    subst elo
    exact q _ _ _ st j' rfl
  have kp : ∀ b o, H b = some o → b ≠ A.sw → upd (upd H gr (.lst [])) A.sw (.ins X.S ds (sweepF (1 - M.sw.sense) "walk" gr M.sw.looked (M.sw.turn + 1) M.sw.at' M.sw.stop M.sw.walks M.sw.looks M.sw.passes M.sw.loss)) b = some o := fun b o hb nb => by
    rw [upd_ne nb, upd_ne (ne_of_none hb hgr0)]; exact hb
  have dS : ∀ {a : Addr} {C d : Addr} {fs : List (Str × V)}, H a = some (.ins C d fs) → fs.length < 11 → a ≠ A.sw := fun e hl z => by
    rw [z, os] at e
    have := Option.some.inj e
    injection this with _ _ e3
    rw [← e3] at hl
    exact absurd hl (by show ¬ 11 < 11; decide)
  have ow3 := kp _ _ ow (dS ow (by show 5 < 11; decide))
  have ok3 := kp _ _ ok (dS ok (by show 2 < 11; decide))
  have on3 := kp _ _ on (ne_of on os (fun z => by cases z))
  generalize hH3 : upd (upd H gr (.lst [])) A.sw (.ins X.S ds (sweepF (1 - M.sw.sense) "walk" gr M.sw.looked (M.sw.turn + 1) M.sw.at' M.sw.stop M.sw.walks M.sw.looks M.sw.passes M.sw.loss)) = H3 at kp ow3 ok3 on3 ⊢
  have lenH : ((A.hs.map fun p => V.ref p.1).length : Int) = (M.hands.length : Int) := by rw [List.length_map, lh]
  refine i_seq ?_
  walk_at "es"
  rcases ol with ⟨ew, o⟩ | ⟨ew, o⟩ | ⟨ew, o⟩
  · have o3 := kp _ _ o (dS o (by show 0 < 11; decide))
    refine i_orL ?_
    walk_at "es"
    refine i_fldK ow3 Tx.cW Tx.nWk worldF_lk_kind ?_
    refine i_fldK ok3 Tx.cK Tx.nKl kindF_lk_looking ?_
    walk_at "es"
    refine ⟨A.lk, dl, _, rfl, o3, rfl, ?_⟩
    walk_at "es"
    refine i_fldK ow3 Tx.cW Tx.nWd worldF_lk_hands ?_
    walk_at "es"
    refine i_lenL (SqL.of on3) ?_
    rw [lenH]
    walk_at "es"
    refine ⟨A.lk, _, rfl, by omega, by omega, ?_⟩
    walk_at "es"
    exact fin rfl (by unfold atBegin; rw [if_pos ew, if_pos rfl, Int.toNat_natCast]) _ hH3.symm
  · have o3 := kp _ _ o (dS o (by show 0 < 11; decide))
    refine i_orR (i_orL ?_)
    walk_at "es"
    refine i_fldK ow3 Tx.cW Tx.nWk worldF_lk_kind ?_
    refine i_fldK ok3 Tx.cK Tx.nKl kindF_lk_looking ?_
    walk_at "es"
    refine ⟨A.lk, dl, _, rfl, o3, rfl, ?_⟩
    walk_at "es"
    refine i_fldK ow3 Tx.cW Tx.nWd worldF_lk_hands ?_
    walk_at "es"
    refine i_lenL (SqL.of on3) ?_
    rw [lenH]
    walk_at "es"
    refine ⟨A.lk, _, rfl, by omega, by omega, ?_⟩
    walk_at "es"
    exact fin rfl (by unfold atBegin; rw [if_neg (show ¬ (1 : Nat) = 0 by decide), if_neg (by omega)]) _ hH3.symm
  · have o3 := kp _ _ o (dS o (by show 0 < 11; decide))
    refine i_orR (i_orR ?_)
    walk_at "es"
    refine i_fldK ow3 Tx.cW Tx.nWk worldF_lk_kind ?_
    refine i_fldK ok3 Tx.cK Tx.nKl kindF_lk_looking ?_
    walk_at "es"
    refine ⟨A.lk, dl, _, rfl, o3, rfl, ?_⟩
    walk_at "es"
    refine i_fldK ow3 Tx.cW Tx.nWd worldF_lk_hands ?_
    walk_at "es"
    refine i_lenL (SqL.of on3) ?_
    rw [lenH]
    walk_at "es"
    refine ⟨A.lk, _, rfl, by omega, by omega, ?_⟩
    walk_at "es"
    exact fin rfl (by unfold atBegin; rw [if_neg (show ¬ (1 : Nat) = 0 by decide), if_neg (by omega)]) _ hH3.symm
end
section
variable {K : PySem.W.Frag} {X : Cs} {H : Hp} {Q : VK} {E : XK} {T : Tg} {s : Nat} {A : Wa} {M : Wm}
theorem WJ.okN (Tx : TxW K X) (j : WJ X H T s A M) : OkN K H (A.cs.map pV) := by
  intro y hy
  obtain ⟨o, ho, rfl⟩ := List.mem_map.mp hy
  cases o with
  | none => exact .inl rfl
  | some g =>
    obtain ⟨i, hi, ei⟩ := List.getElem_of_mem ho
    have e := j.jc.ce i _ _ (List.getElem?_eq_getElem hi) (List.getElem?_eq_getElem (by rw [← j.jc.lc]; exact hi))
    rw [ei] at e
    cases hcc : M.cells[i]'(by rw [← j.jc.lc]; exact hi) with
    | none => rw [hcc] at e; exact e.elim
    | some c =>
      rw [hcc] at e
      obtain ⟨_, _, ⟨dx, o1⟩, _⟩ := (show CeO X.C H T s i g c from e)
      exact .inr ⟨g.1, X.C, dx, _, rfl, o1, Tx.c.cl_Cell, Tx.c.eq_Cell⟩
theorem heap_make {CF : Addr} {many bulk tone : Int} (Tx : TxW K X) (j : WJ X H T s A M) (w : WT H T) (h0 : s ≠ 0) (hc : M.cells.length ≤ 900) (m0 : 0 ≤ many) (m1 : many ≤ 1000) (fit : M.used + (1 + many + bulk) ≤ M.room)
    (k : ∀ H' T' A', Stp s H H' T T' → WJ X H' T' s A' { M with used := M.used + (1 + many + bulk), born := M.born + 1, cells := putO M.cells ⟨M.born + 1, bulk, tone, 0, List.replicate many.toNat none⟩ } → A'.wo = A.wo → Q (.int (fst0 M.cells : Nat)) H') :
    S_Heap_make K X.C X.H CF [.ref A.hp, .int many, .int bulk, .int tone] H Q E := by
  obtain ⟨th, tc, ⟨d3, oh⟩, oc⟩ := j.jh
  have hcs : A.cs.length ≤ 900 := by rw [j.jc.lc]; exact hc
  refine ⟨_, _, _, _, rfl, A.ca, d3, _, _, _, _, oh, oc, j.okN Tx, by rw [List.length_map]; omega, m0, m1, fun hf H' sm => absurd hf (by omega), fun hf pc fa H1 npc nfa fm a1 a2 co => ?_⟩
  obtain ⟨⟨dp, c1⟩, c2⟩ := co
  have npf : pc ≠ fa := ne_of c1 c2 (fun z => by cases z)
  obtain ⟨T1, st1, j1⟩ := j.put w h0 (H' := H1) (dx := d3) (used' := M.used + (1 + many + bulk)) (p := pc) (fa := fa) (c := ⟨M.born + 1, bulk, tone, 0, List.replicate many.toNat none⟩)
    (fun b o hb n1 n2 => fm b o hb (by simp [n1, n2])) a1 a2 npc nfa npf ⟨dp, c1⟩ (by rw [c2, List.map_replicate]; rfl)
  have ei : ((A.cs.map pV).idxOf V.non : Int) = (fst0 M.cells : Nat) := by rw [(fst0_idx pV_non A.cs).1, j.jc.fst]
  rw [ei]
  exact k H1 T1 _ st1 j1 rfl
theorem heap_back {i : Nat} {c : Ce} (j : WJ X H T s A M) (w : WT H T) (h0 : s ≠ 0) (hc : M.cells[i]? = some (some c))
    (k : ∀ H' A', Stp s H H' T T → WJ X H' T s A' { M with used := M.used - (1 + c.fl.length + c.bulk), cells := M.cells.set i none } → A'.wo = A.wo → Q (.int c.birth) H') :
    S_Heap_back X.C X.H [.ref A.hp, .int i] H Q E := by
  obtain ⟨th, tc, ⟨dh, oh⟩, oc⟩ := j.jh
  obtain ⟨pc, hpc, ce⟩ := j.jc.at hc
  obtain ⟨_, _, ⟨dc, o1⟩, ofl⟩ := id ce
  have hl := (List.getElem?_eq_some_iff.mp hc).1
  refine ⟨A.hp, i, rfl, A.ca, dh, M.room, M.used, M.born, A.cs.map pV, pc.1, pc.2, c.birth, c.bulk, c.tone, c.load, c.fl.map oV, by omega, oh, oc, by rw [Int.toNat_natCast, List.getElem?_map, hpc]; rfl, ⟨⟨dc, o1⟩, ofl⟩, ?_⟩
  rw [Int.toNat_natCast, List.length_map]
  have nhc : A.hp ≠ A.ca := ne_of oh oc (fun z => by cases z)
  obtain ⟨st5, j5⟩ := j.back w h0 (i := i) (used' := M.used - (1 + c.fl.length + c.bulk)) (by rw [j.jc.lc]; exact hl) (upd (upd H A.hp (.ins X.H dh (heapF M.room A.ca (M.used - (1 + c.fl.length + c.bulk)) M.born))) A.ca (.lst ((A.cs.map pV).set i V.non)))
    (fun b o hb n1 n2 => by rw [upd_ne n2, upd_ne n1]; exact hb) (by rw [upd_ne nhc]; exact upd_same) upd_same
  exact k _ _ st5 j5 rfl
end
inductive Tr where
  | fl : V → Tr
  | ls : List Tr → Tr
  | tp : List Tr → Tr
def Rp (H : Hp) (T : Tg) : Nat → V → Tr → Prop
  | 0, v, t => t = .fl v ∧ flatV v = true
  | d + 1, v, t => (t = .fl v ∧ flatV v = true) ∨ ∃ a xs ts, v = .ref a ∧ T a = (0, 0) ∧ ((H a = some (.lst xs) ∧ t = .ls ts) ∨ (H a = some (.tup xs) ∧ t = .tp ts)) ∧ xs.length ≤ 1000 ∧ Al (Rp H T d) xs ts
structure Kp (H H' : Hp) (T T' : Tg) : Prop where
  k : ∀ b o, H b = some o → (T b).1 = 0 ∨ 6 ≤ (T b).1 → H' b = some o
  tg : ∀ b o, H b = some o → T' b = T b
  al : ∀ b o, H b = some o → ∃ o', H' b = some o'
theorem Kp.same {H H' : Hp} {T : Tg} (s : Same H H') : Kp H H' T T := ⟨fun b o h _ => s _ _ h, fun _ _ _ => rfl, fun b o h => ⟨o, s _ _ h⟩⟩
theorem Kp.stp {s : Nat} {H H' : Hp} {T T' : Tg} (st : Stp s H H' T T') (n : s ≠ 0 ∧ s < 6) : Kp H H' T T' := ⟨fun b o h t => st.kp b o h (by omega), st.tg, st.al⟩
theorem Kp.trans {H H1 H2 : Hp} {T T1 T2 : Tg} (a : Kp H H1 T T1) (b : Kp H1 H2 T1 T2) : Kp H H2 T T2 :=
  ⟨fun x o h t => b.k x o (a.k x o h t) (by rw [a.tg x o h]; exact t), fun x o h => by
    obtain ⟨o1, h1⟩ := a.al x o h
    exact (b.tg x o1 h1).trans (a.tg x o h), fun x o h => by
    obtain ⟨o1, h1⟩ := a.al x o h
    exact b.al x o1 h1⟩
theorem Kp.tag {H H' : Hp} {T : Tg} {l : Addr} {v : Nat × Nat} (n : H l = none) (s : Same H H') : Kp H H' T (setT T l v) := ⟨fun b o h _ => s _ _ h, fun b o h => setT_ne (ne_of_none h n), fun b o h => ⟨o, s _ _ h⟩⟩
theorem al_mono {α β : Type} {P R : α → β → Prop} (f : ∀ a b, P a b → R a b) : ∀ {xs : List α} {ys : List β}, Al P xs ys → Al R xs ys
  | _, _, .nil => .nil
  | _, _, .cons h t => .cons (f _ _ h) (al_mono f t)
theorem al_two {α β γ : Type} {P : α → γ → Prop} {P' : β → γ → Prop} {R : α → β → Prop} (f : ∀ a b c, P a c → P' b c → R a b) : ∀ {xs : List α} {ys : List β} {zs : List γ}, Al P xs zs → Al P' ys zs → Al R xs ys
  | _, _, _, .nil, .nil => .nil
  | _, _, _, .cons h t, .cons h' t' => .cons (f _ _ _ h h') (al_two f t t')
theorem Rp.kp {H H' : Hp} {T T' : Tg} (k : Kp H H' T T') : ∀ {d : Nat} {v : V} {t : Tr}, Rp H T d v t → Rp H' T' d v t := by
  intro d
  induction d with
  | zero => intro v t h; exact h
  | succ d ih =>
    rintro v t (h | ⟨a, xs, ts, rfl, ta, h, hl, al⟩)
    · exact .inl h
    · rcases h with ⟨h, ht⟩ | ⟨h, ht⟩
      · have h1 := k.k _ _ h (.inl (by rw [ta]))
        have t1 := (k.tg _ _ h).trans ta
        exact .inr ⟨a, xs, ts, rfl, t1, .inl ⟨h1, ht⟩, hl, al_mono (fun _ _ z => ih z) al⟩
      · have h1 := k.k _ _ h (.inl (by rw [ta]))
        have t1 := (k.tg _ _ h).trans ta
        exact .inr ⟨a, xs, ts, rfl, t1, .inr ⟨h1, ht⟩, hl, al_mono (fun _ _ z => ih z) al⟩
theorem Rp.sm {H : Hp} {T : Tg} : ∀ {d : Nat} {v w : V} {t : Tr}, Rp H T d v t → Rp H T d w t → Sm H d v w := by
  intro d
  induction d with
  | zero =>
    rintro v w t ⟨h1, f1⟩ ⟨h2, f2⟩
    rw [h1] at h2
    cases h2
    exact ⟨rfl, f1⟩
  | succ d ih =>
    rintro v w t (⟨h1, f1⟩ | ⟨a, xs, ts, rfl, ta, h, hl, al⟩) (⟨h2, f2⟩ | ⟨b, ys, us, rfl, tb, h', hl', al'⟩)
    · rw [h1] at h2
      cases h2
      exact .inl ⟨rfl, f1⟩
    · rcases h' with ⟨_, e⟩ | ⟨_, e⟩ <;> rw [h1] at e <;> cases e
    · rcases h with ⟨_, e⟩ | ⟨_, e⟩ <;> rw [h2] at e <;> cases e
    · rcases h with ⟨h, e⟩ | ⟨h, e⟩ <;> rcases h' with ⟨h', e'⟩ | ⟨h', e'⟩ <;> rw [e] at e' <;> cases e'
      · exact .inr ⟨a, b, xs, ys, rfl, rfl, .inl ⟨h, h'⟩, by omega, al_two (P := Rp H T d) (P' := Rp H T d) (R := Sm H d) (fun _ _ _ z1 z2 => ih z1 z2) al al'⟩
      · exact .inr ⟨a, b, xs, ys, rfl, rfl, .inr ⟨h, h'⟩, by omega, al_two (P := Rp H T d) (P' := Rp H T d) (R := Sm H d) (fun _ _ _ z1 z2 => ih z1 z2) al al'⟩
theorem rp_flat {H : Hp} {T : Tg} {d : Nat} {v : V} (h : flatV v = true) : Rp H T d v (.fl v) := by
  cases d with
  | zero => exact ⟨rfl, h⟩
  | succ d => exact .inl ⟨rfl, h⟩
def rowT (x : List (Option Int)) : Tr := .ls (x.map fun y => .fl (oV y))
theorem rp_row {H : Hp} {T : Tg} {d : Nat} {a : Addr} {x : List (Option Int)} (t : T a = (0, 0)) (h : H a = some (.lst (x.map oV))) (hl : x.length ≤ 1000) : Rp H T (d + 1) (.ref a) (rowT x) := by
  refine .inr ⟨a, _, _, rfl, t, .inl ⟨h, rfl⟩, by rw [List.length_map]; exact hl, al_of (by rw [List.length_map, List.length_map]) fun i u w e1 e2 => ?_⟩
  rw [List.getElem?_map] at e1 e2
  obtain ⟨y, hy, rfl⟩ := Option.map_eq_some_iff.mp e1
  rw [hy] at e2
  cases e2
  exact rp_flat (flat_oV y)
def rowsT (rows : List (List (Option Int))) : Tr := .ls (rows.map rowT)
theorem rp_rows {H : Hp} {T : Tg} {l : Addr} {ls : List Addr} {rows : List (List (Option Int))} (t : T l = (0, 0)) (h : H l = some (.lst (ls.map V.ref))) (n : ls.length = rows.length) (hb : rows.length ≤ 1000) (hr : ∀ x ∈ rows, x.length ≤ 1000) (tr : ∀ r ∈ ls, T r = (0, 0))
    (g : ∀ (j : Nat) r x, ls[j]? = some r → rows[j]? = some x → H r = some (.lst (x.map oV))) : Rp H T 3 (.ref l) (rowsT rows) := by
  refine .inr ⟨l, _, _, rfl, t, .inl ⟨h, rfl⟩, by rw [List.length_map]; omega, al_of (by rw [List.length_map, List.length_map]; exact n) fun i u w e1 e2 => ?_⟩
  rw [List.getElem?_map] at e1 e2
  obtain ⟨r, hr1, rfl⟩ := Option.map_eq_some_iff.mp e1
  obtain ⟨x, hx, rfl⟩ := Option.map_eq_some_iff.mp e2
  exact rp_row (tr r (List.mem_of_getElem? hr1)) (g i r x hr1 hx) (hr x (List.mem_of_getElem? hx))
theorem Rp.tg {H : Hp} {T T' : Tg} (k : ∀ a, T a = (0, 0) → T' a = (0, 0)) : ∀ {d : Nat} {v : V} {t : Tr}, Rp H T d v t → Rp H T' d v t := by
  intro d
  induction d with
  | zero => intro v t h; exact h
  | succ d ih =>
    rintro v t (h | ⟨a, xs, ts, rfl, ta, h, hl, al⟩)
    · exact .inl h
    · exact .inr ⟨a, xs, ts, rfl, k a ta, h, hl, al_mono (fun _ _ z => ih z) al⟩
theorem Rp.upd {H : Hp} {T : Tg} {l : Addr} {o : HO} {d : Nat} {v : V} {t : Tr} (nl : T l ≠ (0, 0)) (al : ∃ u, H l = some u) (z : Rp H T d v t) : Rp (L2.upd H l o) T d v t := by
  have ne : ∀ b, T b = (0, 0) → b ≠ l := fun b tb e => nl (by rw [← e]; exact tb)
  have z' : Rp H (setT T l (3, 9)) d v t := Rp.tg (T := T) (fun b tb => by rw [setT_ne (ne b tb)]; exact tb) z
  have kk : Kp H (L2.upd H l o) (setT T l (3, 9)) (setT T l (3, 9)) := ⟨fun b u hb t => by
    rw [upd_ne (fun z => by
      rw [z, setT_same] at t
      rcases t with t | t
      · cases t
      · exact absurd t (by decide))]
    exact hb, fun _ _ _ => rfl, fun b u hb => by
    by_cases z : b = l
    · exact ⟨_, by rw [z]; exact upd_same⟩
    · exact ⟨u, by rw [upd_ne z]; exact hb⟩⟩
  refine Rp.tg (fun b tb => ?_) (z'.kp kk)
  by_cases e : b = l
  · rw [e, setT_same] at tb; cases tb
  · rw [setT_ne e] at tb; exact tb
def S_names : Sp := fun vs H Q E => ∃ c m, vs = [.int c, .int m] ∧ (0 ≤ m ∧ m ≤ 100) ∧ ∀ (l : Addr) (ws : List Str) H', Same H H' → H' l = some (.lst (ws.map V.str)) → ws.length = m.toNat → H l = none → Q (.ref l) H'
def S_roomL : Sp := fun vs H Q E => ∃ c, vs = [.int c] ∧ Builtin.Int.intBits c ≤ 2 ^ 20 ∧ ∀ z : Int, 4 ≤ z → z ≤ 10 ^ 15 → Q (.int z) H
section
variable {K : PySem.W.Frag} {X : Cs} {rf : Rf → Addr} {H : Hp} {Q : VK} {E : XK} {n : St → Hp → Prop} {bk ct : St → Hp → Prop}
theorem slen1 (c : Nat) : (⟨#[c]⟩ : Str).length = 1 := rfl
theorem slenA (a b : Str) : (a ++ b).length = a.length + b.length := by
  show (a.cps ++ b.cps).size = _
  rw [Array.size_append]; rfl
theorem _law_names_rd {c m : Int} (q : (0 ≤ m ∧ m ≤ 100) ∧ ∀ (l : Addr) (ws : List Str) H', Same H H' → H' l = some (.lst (ws.map V.str)) → ws.length = m.toNat → H l = none → Q (.ref l) H') :
    rd__law_names K S_mix ⟨n, Q, bk, ct⟩ [some (.int c), some (.int m), none, none, none, none, none, none, none, none] H := by
  obtain ⟨⟨m0, m1⟩, q⟩ := q
  unfold rd__law_names
  walk_at "ev"
  refine ⟨_, _, rfl, by decide, by decide, fun z1 h1 _ => ?_⟩
  walk_at "ev"
  have c1 := Int.emod_nonneg z1 (show (12 : Int) ≠ 0 by decide)
  have c2 := Int.emod_lt_of_pos z1 (show (0 : Int) < 12 by decide)
  obtain ⟨size, es⟩ := toN (x := 1 + z1 % 12) (by omega)
  have hs : 1 ≤ size ∧ size ≤ 12 := by omega
  rw [es]
  refine ⟨_, rfl, by omega, by omega, ?_⟩
  refine forR (fun k σ Hx => Hx = H ∧ ∃ (w : Str) (v5 : Option V), σ = [some (.int c), some (.int m), some (.str "abcdefghijklmnopqrstuvwxyz"), some (.int size), some (.str w), v5, none, none, none, none] ∧ w.length ≤ k) ⟨rfl, _, _, rfl, Nat.le_refl _⟩ ?_ ?_
  · rintro k σ Hx hk ⟨rfl, w, v5, rfl, hw⟩
    have hk12 : k ≤ 12 := by omega
    have hii : (k : Int) * k ≤ 144 := by
      have := Nat.mul_le_mul hk12 hk12
      have e : ((k * k : Nat) : Int) = (k : Int) * k := by push_cast; rfl
      omega
    have hi0 : 0 ≤ (k : Int) * k := Int.mul_nonneg (by omega) (by omega)
    rw [Int.zero_add]
    walk_at "ev"
    refine ⟨_, _, rfl, by omega, by omega, fun z2 h2 _ => ?_⟩
    walk_at "ev"
    have d1 := Int.emod_nonneg z2 (show (26 : Int) ≠ 0 by decide)
    have d2 := Int.emod_lt_of_pos z2 (show (0 : Int) < 26 by decide)
    refine i_ixSx (by decide) d1 (by show z2 % 26 < 26; exact d2) fun ch => ?_
    walk_at "ev"
    refine ⟨w, ⟨#[ch]⟩, rfl, rfl, by rw [slen1]; exact len_ok (by omega), ?_⟩
    walk_at "ev"
    exact ⟨rfl, _, _, rfl, by rw [slenA, slen1]; omega⟩
  · rintro σ Hx ⟨rfl, w, v5, rfl, hw⟩
    have hw : w.length ≤ 12 := by omega
    walk_at "ev"
    refine ⟨_, _, rfl, by decide, by decide, fun z3 h3 _ => ?_⟩
    walk_at "ev"
    refine ⟨_, _, rfl, by decide, by decide, fun z4 h4 _ => ?_⟩
    walk_at "ev"
    have e1 := Int.emod_nonneg z3 (show (size : Int) ≠ 0 by omega)
    have f1 := Int.emod_nonneg z4 (show (26 : Int) ≠ 0 by decide)
    generalize z3 % (size : Int) = at' at e1 ⊢
    generalize z4 % 26 = start at f1 ⊢
    refine ⟨by decide, fun wl nwl => ?_⟩
    have s1 := same_new nwl (.lst [])
    have g1 : upd Hx wl (.lst []) wl = some (.lst (([] : List Str).map V.str)) := upd_same
    generalize upd Hx wl (.lst []) = H1 at s1 g1 ⊢
    walk_at "ev"
    refine ⟨_, rfl, by omega, by omega, ?_⟩
    refine forR (fun k σ H2 => ∃ (ws : List Str) (v5 v9 : Option V), σ = [some (.int c), some (.int m), some (.str "abcdefghijklmnopqrstuvwxyz"), some (.int size), some (.str w), v5, some (.int at'), some (.int start), some (.ref wl), v9] ∧ Same Hx H2 ∧ H2 wl = some (.lst (ws.map V.str)) ∧ ws.length = k) ⟨[], _, _, rfl, s1, g1, rfl⟩ ?_ ?_
    · rintro k σ H2 hk ⟨ws, v5, v9, rfl, s2, g2, hl⟩
      have hk : k < 101 := by omega
      rw [Int.zero_add]
      have fin : ∀ (one : Str) (v5 : Option V), ∀ (nn : St → Hp → Prop) (rr : VK) (bb cc : St → Hp → Prop), (∀ σ H', (∃ (ws : List Str) (v5 v9 : Option V), σ = [some (.int c), some (.int m), some (.str "abcdefghijklmnopqrstuvwxyz"), some (.int size), some (.str w), v5, some (.int at'), some (.int start), some (.ref wl), v9] ∧ Same Hx H' ∧ H' wl = some (.lst (ws.map V.str)) ∧ ws.length = k + 1) → nn σ H') →
          tDrop (tBM K "list" rAppend (tVar 8) (tCons (tVar 9) tNil)) ⟨nn, rr, bb, cc⟩ [some (.int c), some (.int m), some (.str "abcdefghijklmnopqrstuvwxyz"), some (.int size), some (.str w), v5, some (.int at'), some (.int start), some (.ref wl), some (.str one)] H2 := by
        intro one v5 nn rr bb cc hD
        walk_at "ev"
        refine ⟨.inl ⟨rfl, _, SqL.of g2⟩, ?_⟩
        walk_at "ev"
        refine ⟨wl, _, _, rfl, rfl, g2, ?_, ?_⟩
        · rw [List.length_map]
          exact Nat.lt_of_le_of_lt (show _ ≤ 1000 by omega) (by decide)
        rw [show ws.map V.str ++ [V.str one] = (ws ++ [one]).map V.str from by rw [List.map_append]; rfl]
        walk_at "ev"
        exact hD _ _ ⟨ws ++ [one], _, _, rfl, fun b o hb => by rw [upd_ne (ne_of_none hb nwl)]; exact s2 _ _ hb, upd_same, by rw [List.length_append, hl]; rfl⟩
      have l1 := cutS_length w none (some at')
      have l2 := cutS_length w (some (at' + 1)) none
      walk_at "ev"
      refine i_slS (len_ok (by omega)) ?_
      walk_at "ev"
      have d1 := Int.emod_nonneg (start + k) (show (26 : Int) ≠ 0 by decide)
      have d2 := Int.emod_lt_of_pos (start + k) (show (0 : Int) < 26 by decide)
      refine i_ixSx (by decide) d1 (by show (start + k) % 26 < 26; exact d2) fun ch => ?_
      walk_at "ev"
      refine ⟨_, ⟨#[ch]⟩, rfl, rfl, by rw [slen1]; exact len_ok (by omega), ?_⟩
      walk_at "ev"
      refine i_slS (len_ok (by omega)) ?_
      walk_at "ev"
      refine ⟨_, _, rfl, rfl, by rw [slenA, slen1]; exact len_ok (by omega), ?_⟩
      walk_at "ev"
      refine ifd (fun _ => ?_) (fun _ => ?_)
      · refine i_asg ?_
        refine i_C ?_
        refine i_g9 ?_
        exact fin _ _ _ _ _ _ fun σ H' h => h
      · refine i_next ?_
        exact fin _ _ _ _ _ _ fun σ H' h => h
    · rintro σ H2 ⟨ws, v5, v9, rfl, s2, g2, hl⟩
      walk_at "ev"
      exact q wl ws H2 s2 g2 hl nwl
end
def partA : Unit := ()
def walkB (M : Wm) : Bool := decide (M.sw.phase = "walk" ∨ M.sw.phase = "lost")
def rootM (M : Wm) (p b : Int) : Option Int := if goneM M p b = true then none else match cellAt M p with
  | none => none
  | some c => if walkB M = true ∧ ¬ c.tone = M.sw.sense then none else some p
def S_is_walking (X : Cs) : Sp := fun vs H Q E => ∃ wo, vs = [.ref wo] ∧ ∃ T s A M, WJ0 X H T s A M ∧ A.wo = wo ∧ ∀ H', Same H H' → Q (.bl (walkB M)) H'
def S_root_of (X : Cs) : Sp := fun vs H Q E => ∃ wo p b, vs = [.ref wo, .int p, .int b] ∧ ∃ T s A M, WJ0 X H T s A M ∧ A.wo = wo ∧ ∀ H', Same H H' → Q (oV (rootM M p b)) H'
section
variable {K : PySem.W.Frag} {X : Cs} {H : Hp} {Q : VK} {E : XK} {n : St → Hp → Prop} {bk ct : St → Hp → Prop}
theorem is_walking_rd {wo : Addr} (T : TxW K X) (q : ∃ T s A M, WJ0 X H T s A M ∧ A.wo = wo ∧ ∀ H', Same H H' → Q (.bl (walkB M)) H') : rd_is_walking K ⟨n, Q, bk, ct⟩ [some (.ref wo)] H := by
  obtain ⟨Tg, s, A, M, j, rfl, q⟩ := q
  obtain ⟨d1, ow⟩ := j.jb.ow
  obtain ⟨d2, os⟩ := j.js.os
  unfold rd_is_walking
  walk_at "ev"
  refine i_fldK ow T.cW T.nWs worldF_lk_sweeper ?_
  walk_at "ev"
  refine i_fldK os T.cS T.n2 sweepF_lk_phase ?_
  walk_at "ev"
  refine ⟨len_ok (by simp), fun tp ntp => ?_⟩
  have s1 := same_new ntp (.tup [V.str "walk", .str "lost"])
  have g1 : upd H tp (.tup [V.str "walk", .str "lost"]) tp = some (.tup [V.str "walk", .str "lost"]) := upd_same
  generalize upd H tp (.tup [V.str "walk", .str "lost"]) = H1 at s1 g1 ⊢
  refine ⟨tp, _, rfl, .inr (SqT.of g1), rfl, rfl, ?_⟩
  have q := q H1 s1
  rw [show walkB M = (if false = true then !inV (V.str M.sw.phase) [V.str "walk", .str "lost"] else inV (V.str M.sw.phase) [V.str "walk", .str "lost"]) from by
    rw [if_neg Bool.false_ne_true]
    unfold walkB inV
    by_cases h1 : M.sw.phase = "walk"
    · simp [h1, eqV]
    · by_cases h2 : M.sw.phase = "lost"
      · simp [h2, eqV]
      · have e1 : ¬ ("walk" : Str) = M.sw.phase := fun z => h1 z.symm
        have e2 : ¬ ("lost" : Str) = M.sw.phase := fun z => h2 z.symm
        simp [h1, h2, e1, e2, eqV]] at q
  exact q
theorem root_of_rd {wo : Addr} {p b : Int} (T : TxW K X) (q : ∃ T s A M, WJ0 X H T s A M ∧ A.wo = wo ∧ ∀ H', Same H H' → Q (oV (rootM M p b)) H') : rd_root_of K (S_gone X) (S_has_sense X) (S_is_walking X) ⟨n, Q, bk, ct⟩ [some (.ref wo), some (.int p), some (.int b)] H := by
  obtain ⟨Tg, s, A, M, j, rfl, q⟩ := q
  unfold rd_root_of
  walk_at "ev"
  refine ⟨_, _, _, rfl, Tg, s, A, M, j, rfl, ?_⟩
  have hgo : ∀ c, cellAt M p = some c → goneM M p b = false → rootM M p b = if walkB M = true ∧ ¬ c.tone = M.sw.sense then none else some p := fun c hc hg => by
    unfold rootM
    rw [hg, if_neg Bool.false_ne_true, hc]
  cases hg : goneM M p b with
  | true =>
    walk_at "ev"
    have := q H (Same.refl _)
    rw [show rootM M p b = none from if_pos hg] at this
    exact this
  | false =>
    walk_at "ev"
    refine ⟨_, rfl, Tg, s, A, M, j, rfl, fun H1 s1 => ?_⟩
    obtain ⟨c, hc⟩ : ∃ c, cellAt M p = some c := by
      cases e : cellAt M p with
      | none =>
        have : goneM M p b = true := by unfold goneM; rw [e]
        rw [this] at hg; cases hg
      | some c => exact ⟨c, rfl⟩
    have q := q H1 s1
    rw [hgo c hc hg] at q
    have j1 := j.same s1
    cases hw : walkB M with
    | false =>
      walk_at "ev"
      rw [if_neg (fun z => by rw [hw] at z; cases z.1)] at q
      exact q
    | true =>
      walk_at "ev"
      obtain ⟨d1, ow⟩ := j1.jb.ow
      obtain ⟨dh, oh⟩ := j1.jh.oh
      rcases j1.look (some p) with ⟨e1, _⟩ | ⟨i, c', pp, ei, h0, ec, hci, hp, _, ce⟩
      · have e1 : cellAt M p = none := e1
        rw [hc] at e1; cases e1
      cases ei
      rw [hc] at ec
      cases ec
      refine i_fldK ow T.cW T.nWh worldF_lk_heap ?_
      walk_at "ev"
      refine i_fldK oh T.c.cl_Heap T.c.n_Heap_cells heapF_lk_cells ?_
      walk_at "ev"
      refine i_ixL (SqL.of j1.jh.oc) (atI_int (v := .ref pp.1) h0 (by rw [List.getElem?_map, hp]; rfl)) ?_
      walk_at "ev"
      refine ⟨_, _, rfl, Tg, s, A, M, _, pp, c, j1, rfl, ce, rfl, ?_⟩
      walk_at "ev"
      by_cases ht : c.tone = M.sw.sense
      · rw [if_neg (fun z => z.2 ht)] at q
        refine ifnd (fun z => absurd ht z) (fun _ => ?_)
        walk_at "ev"
        exact q
      · rw [if_pos ⟨hw, ht⟩] at q
        refine ifnd (fun _ => ?_) (fun z => absurd z ht)
        walk_at "ev"
        exact q
end
def partB : Unit := ()
def rootsRow (M : Wm) : List (Option Int) := M.names.map fun m => rootM M m.2.1 m.2.2
def rootsOf (M : Wm) : List (List (Option Int)) := heldOf M ++ [rootsRow M]
def S_roots (X : Cs) : Sp := fun vs H Q E => ∃ wo, vs = [.ref wo] ∧ ∃ T s A M, s ≠ 0 ∧ WJ X H T s A M ∧ A.wo = wo ∧ M.hands.length ≤ 1000 ∧ M.names.length ≤ 1000 ∧ ∀ (l : Addr) (ls : List Addr) H', Same H H' → H l = none → H' l = some (.lst (ls.map V.ref)) → ls.length = (rootsOf M).length → (∀ r ∈ ls, H r = none) → l ∉ ls → (∀ (j : Nat) r x, ls[j]? = some r → (rootsOf M)[j]? = some x → H' r = some (.lst (x.map oV))) → Q (.ref l) H'
section
variable {K : PySem.W.Frag} {X : Cs} {H : Hp} {Q : VK} {E : XK} {n : St → Hp → Prop} {bk ct : St → Hp → Prop}
theorem nm_at {T : Tg} : ∀ {ns : List Addr} {names : List (Str × (Int × Int))} {i : Nat} {kv : L2.Key × V}, Al (NmO H T) ns names → (nmK names ns)[i]? = some kv → ∃ t m, names[i]? = some m ∧ kv.2 = .ref t ∧ H t = some (.tup [.int m.2.1, .int m.2.2]) ∧ T t = (0, 0)
  | [], [], i, kv, _, e => by simp [nmK] at e
  | t :: ns, m :: names, 0, kv, .cons h _, e => by
    cases e
    exact ⟨t, m, rfl, rfl, h.2, h.1⟩
  | t :: ns, m :: names, i + 1, kv, .cons _ h, e => by
    obtain ⟨t', m', e1, e2⟩ := nm_at h (i := i) (kv := kv) (by simpa [nmK] using e)
    exact ⟨t', m', by simpa using e1, e2⟩
theorem roots_rd {wo : Addr} (T : TxW K X) (q : ∃ T s A M, s ≠ 0 ∧ WJ X H T s A M ∧ A.wo = wo ∧ M.hands.length ≤ 1000 ∧ M.names.length ≤ 1000 ∧ ∀ (l : Addr) (ls : List Addr) H', Same H H' → H l = none → H' l = some (.lst (ls.map V.ref)) → ls.length = (rootsOf M).length → (∀ r ∈ ls, H r = none) → l ∉ ls → (∀ (j : Nat) r x, ls[j]? = some r → (rootsOf M)[j]? = some x → H' r = some (.lst (x.map oV))) → Q (.ref l) H') :
    rd_roots K (S_held X) (S_root_of X) H ⟨n, Q, bk, ct⟩ [some (.ref wo)] H := by
  obtain ⟨Tg, s, A, M, h0, j, rfl, hh, hn, q⟩ := q
  unfold rd_roots
  walk_at "ev"
  refine ⟨_, rfl, Tg, s, A, M, j, rfl, hh, fun l1 ls1 H1 s1 nl1 ol1 hl1 nd1 nn1 nls1 g1 => ?_⟩
  have j1 := j.same s1
  obtain ⟨dw, ow⟩ := j1.jb.ow
  have om := j1.jn.om
  walk_at "ev"
  refine i_fldK ow T.cW T.nWn worldF_lk_names ?_
  refine ⟨_, _, rfl, .inl om, fun vv nvv => ?_⟩
  have s2 := same_new nvv (valsO vv A.nm)
  have g2 : upd H1 vv (valsO vv A.nm) vv = some (valsO vv A.nm) := upd_same
  generalize upd H1 vv (valsO vv A.nm) = H2 at s2 g2 ⊢
  have j2 := j1.same s2
  have om2 := j2.jn.om
  refine ⟨_, _, _, rfl, g2, om2, fun o => ?_⟩
  have lnm : (nmK M.names A.ns).length = M.names.length := nm_len j2.jn.nms
  have w3 := j2.names (o := .frz o (.dK (nmK M.names A.ns))) h0
  have nms3 : ∀ b u, H2 b = some u → b ≠ A.nm → upd H2 A.nm (.frz o (.dK (nmK M.names A.ns))) b = some u := fun b u hb nb => by rw [upd_ne nb]; exact hb
  have g3 : upd H2 A.nm (.frz o (.dK (nmK M.names A.ns))) A.nm = some (.frz o (.dK (nmK M.names A.ns))) := upd_same
  generalize upd H2 A.nm (.frz o (.dK (nmK M.names A.ns))) = H3 at w3 nms3 g3 ⊢
  have nmn : ∀ t xs, H2 t = some (.tup xs) → t ≠ A.nm := fun t xs z => ne_of z om2 (fun y => by cases y)
  refine lcg2_of ?_
  refine lc_new M.names.length (by omega) (fun i y _ => ∃ m, M.names[i]? = some m ∧ y = oV (rootM M m.2.1 m.2.2)) (fun _ _ _ _ h _ => h) (fun H' s => ⟨s _ _ g3, by omega⟩) (fun i H' hi s => ⟨s _ _ g3, by omega⟩) (fun i x H4 H5 hi s4 y => ?_) ?_
  · obtain ⟨rfl, kv, ekv, rfl⟩ := y
    obtain ⟨t, m, em, et, ot, tt⟩ := nm_at j2.jn.nms ekv
    refine ⟨rfl, fun q hq => i_true hq, fun q hq => ?_⟩
    have ot4 := s4 _ _ (nms3 _ _ ot (nmn _ _ ot))
    refine ⟨t, _, _, _, by rw [et], SqT.of ot4, ?_⟩
    walk_at "caps"
    walk_at "ev"
    exact ⟨_, _, _, rfl, Tg, s, A, M, w3.same s4, rfl, fun H6 s6 => hq _ _ s6 ⟨m, em, rfl⟩⟩
  · intro ys H4 s4 ly hy p np
    have ey : ys = (rootsRow M).map oV := by
      refine List.ext_getElem? fun i => ?_
      by_cases hi : i < ys.length
      · obtain ⟨m, e1, e2⟩ := hy i ys[i] (List.getElem?_eq_getElem hi)
        rw [List.getElem?_eq_getElem hi, e2]
        unfold rootsRow
        rw [List.getElem?_map, List.getElem?_map, e1]; rfl
      · rw [List.getElem?_eq_none (by omega), List.getElem?_eq_none]
        unfold rootsRow
        rw [List.length_map, List.length_map]; omega
    subst ey
    have g5 := s4 _ _ g3
    have npn : p ≠ A.nm := fun z => by rw [z, g5] at np; cases np
    refine ⟨A.nm, o, _, by rw [upd_ne npn.symm]; exact g5, (fun o' u z => by rw [j.jn.om] at z; cases z), ?_⟩
    generalize hH5 : upd (upd H4 p (.lst ((rootsRow M).map oV))) A.nm (.dK (nmK M.names A.ns)) = H5
    have s25 : Same H2 H5 := fun b u hb => by
      rw [← hH5]
      by_cases z : b = A.nm
      · subst z
        rw [upd_same]
        rw [om2] at hb
        exact hb
      · have h3 := nms3 b u hb z
        rw [upd_ne z, upd_ne (ne_of_none (s4 _ _ h3) np)]
        exact s4 _ _ h3
    have np2 : H2 p = none := by
      cases z : H2 p with
      | none => rfl
      | some u =>
        have := s4 _ _ (nms3 p u z npn)
        rw [np] at this; cases this
    have op5 : H5 p = some (.lst ((rootsRow M).map oV)) := by rw [← hH5, upd_ne npn]; exact upd_same
    clear hH5
    have s05 := s1.trans (s2.trans s25)
    have s15 := s2.trans s25
    walk_at "ev"
    refine ⟨len_ok (by simp), fun l2 nl2 => ?_⟩
    have s6 := same_new nl2 (.lst [.ref p])
    have g6 : upd H5 l2 (.lst [.ref p]) l2 = some (.lst [.ref p]) := upd_same
    generalize upd H5 l2 (.lst [.ref p]) = H6 at s6 g6 ⊢
    refine ⟨l1, l2, _, _, rfl, rfl, s6 _ _ (s15 _ _ ol1), g6, ?_, fun l3 nl3 => ?_⟩
    · rw [List.length_map]
      have : (heldOf M).length = M.hands.length := by unfold heldOf; rw [List.length_map]
      exact len_ok (by simp; omega)
    have s7 := same_new nl3 (.lst (ls1.map V.ref ++ [.ref p]))
    have s07 := s05.trans (s6.trans s7)
    have e7 : ls1.map V.ref ++ [V.ref p] = (ls1 ++ [p]).map V.ref := by rw [List.map_append]; rfl
    rw [e7] at s7 s07 ⊢
    have fp : H p = none := s1.free (s2.free np2)
    refine q l3 (ls1 ++ [p]) _ s07 (s05.free (s6.free nl3)) upd_same ?_ (fun r hr => ?_) (fun hr => ?_) fun k r x e1 e2 => ?_
    · unfold rootsOf
      rw [List.length_append, List.length_append, hl1]; rfl
    · rcases List.mem_append.mp hr with hr | hr
      · exact nn1 r hr
      · rw [List.mem_singleton.mp hr]; exact fp
    · rcases List.mem_append.mp hr with hr | hr
      · obtain ⟨k, hk, e⟩ := List.getElem_of_mem hr
        have := g1 k l3 (heldOf M)[k] (by rw [List.getElem?_eq_getElem hk, e]) (List.getElem?_eq_getElem (by omega))
        rw [s6 _ _ (s15 _ _ this)] at nl3; cases nl3
      · rw [List.mem_singleton.mp hr, s6 _ _ op5] at nl3; cases nl3
    · unfold rootsOf at e2
      by_cases hk : k < ls1.length
      · rw [List.getElem?_append_left hk] at e1
        rw [List.getElem?_append_left (by omega)] at e2
        exact s7 _ _ (s6 _ _ (s15 _ _ (g1 k r x e1 e2)))
      · have hk2 := (List.getElem?_eq_some_iff.mp e1).1
        rw [List.length_append, List.length_singleton] at hk2
        have ek : k = ls1.length := by omega
        rw [List.getElem?_append_right (by omega)] at e1 e2
        rw [ek, Nat.sub_self] at e1
        rw [ek, hl1, Nat.sub_self] at e2
        cases e1
        cases e2
        exact s7 _ _ (s6 _ _ op5)
end
def partC : Unit := ()
def S_law (K : PySem.W.Frag) : Sp := fun vs H Q E => ∃ a, vs = [.ref a] ∧ ∃ ns : List Int, SqL K H a (ns.map V.int) ∧ ns.length ≤ 63 ∧ ∀ H', Q (.bl true) H'
def aV : Option Addr → V
  | none => .non
  | some p => .ref p
abbrev Lies := List (Option (Int × Str))
structure Lw (H : Hp) (T : Tg) (ll : Addr) (ps : List (Option Addr)) (lies : Lies) : Prop where
  tl : T ll = (3, 0)
  ol : H ll = some (.lst (ps.map aV))
  ln : ps.length = lies.length
  no : ∀ (k : Nat) p c, ps[k]? = some p → lies[k]? = some c → (p = none ↔ c = none)
  at_ : ∀ (k : Nat) p c, ps[k]? = some (some p) → lies[k]? = some (some c) → T p = (3, 1 + k) ∧ H p = some (.lst [.int c.1, .str c.2])
structure Ow (H : Hp) (T : Tg) (lo : Addr) (os : List Addr) (names : List (Str × (Int × Int))) : Prop where
  tl : T lo = (4, 0)
  ol : H lo = some (.lst (os.map V.ref))
  ln : os.length = names.length
  at_ : ∀ (k : Nat) p m, os[k]? = some p → names[k]? = some m → T p = (4, 1 + k) ∧ H p = some (.lst [.str m.1, .int m.2.1, .int m.2.2])
section
variable {H H' : Hp} {T T' : Tg} {ll lo : Addr} {ps : List (Option Addr)} {lies : Lies} {os : List Addr} {names : List (Str × (Int × Int))}
theorem Lw.mv (w : Lw H T ll ps lies) (hh : ∀ b o, H b = some o → (T b).1 = 3 → H' b = some o) (ht : ∀ b o, H b = some o → T' b = T b) : Lw H' T' ll ps lies := by
  obtain ⟨a1, a2, a3, a4, a5⟩ := w
  refine ⟨(ht _ _ a2).trans a1, hh _ _ a2 (by rw [a1]), a3, a4, fun k p c e1 e2 => ?_⟩
  obtain ⟨b1, b2⟩ := a5 k p c e1 e2
  exact ⟨(ht _ _ b2).trans b1, hh _ _ b2 (by rw [b1])⟩
theorem Ow.mv (w : Ow H T lo os names) (hh : ∀ b o, H b = some o → (T b).1 = 4 → H' b = some o) (ht : ∀ b o, H b = some o → T' b = T b) : Ow H' T' lo os names := by
  obtain ⟨a1, a2, a3, a5⟩ := w
  refine ⟨(ht _ _ a2).trans a1, hh _ _ a2 (by rw [a1]), a3, fun k p c e1 e2 => ?_⟩
  obtain ⟨b1, b2⟩ := a5 k p c e1 e2
  exact ⟨(ht _ _ b2).trans b1, hh _ _ b2 (by rw [b1])⟩
theorem Lw.same (w : Lw H T ll ps lies) (e : Same H H') : Lw H' T ll ps lies := w.mv (fun b o h _ => e b o h) fun _ _ _ => rfl
theorem Ow.same (w : Ow H T lo os names) (e : Same H H') : Ow H' T lo os names := w.mv (fun b o h _ => e b o h) fun _ _ _ => rfl
theorem Lw.other {s : Nat} (w : Lw H T ll ps lies) (e : Stp s H H' T T') (n3 : s ≠ 3) : Lw H' T' ll ps lies := w.mv (fun b o h t => e.kp b o h (by rw [t]; exact fun z => n3 z.symm)) e.tg
theorem Ow.other {s : Nat} (w : Ow H T lo os names) (e : Stp s H H' T T') (n4 : s ≠ 4) : Ow H' T' lo os names := w.mv (fun b o h t => e.kp b o h (by rw [t]; exact fun z => n4 z.symm)) e.tg
theorem Lw.get (w : Lw H T ll ps lies) {k : Nat} (hk : k < lies.length) : (lies[k]? = some none ∧ (ps.map aV)[k]? = some .non) ∨ ∃ m p, lies[k]? = some (some m) ∧ ps[k]? = some (some p) ∧ (ps.map aV)[k]? = some (.ref p) ∧ T p = (3, 1 + k) ∧ H p = some (.lst [.int m.1, .str m.2]) := by
  have hk' : k < ps.length := by rw [w.ln]; exact hk
  have e1 := List.getElem?_eq_getElem hk
  have e2 := List.getElem?_eq_getElem hk'
  have := w.no k _ _ e2 e1
  cases hc : lies[k] with
  | none =>
    have hp := this.mpr hc
    exact .inl ⟨by rw [e1, hc], by rw [List.getElem?_map, e2, hp]; rfl⟩
  | some c =>
    cases hp : ps[k] with
    | none => rw [this.mp hp] at hc; cases hc
    | some p =>
      have z1 : lies[k]? = some (some c) := by rw [e1, hc]
      have z2 : ps[k]? = some (some p) := by rw [e2, hp]
      obtain ⟨b1, b2⟩ := w.at_ k p c z2 z1
      exact .inr ⟨c, p, z1, z2, by rw [List.getElem?_map, e2, hp]; rfl, b1, b2⟩
theorem Lw.chg (w : Lw H T ll ps lies) (wt : WT H T) {k : Nat} {p : Addr} {m m' : Int × Str} (hp : ps[k]? = some (some p)) (hm : lies[k]? = some (some m)) : Stp 3 H (upd H p (.lst [.int m'.1, .str m'.2])) T T ∧ Lw (upd H p (.lst [.int m'.1, .str m'.2])) T ll ps (lies.set k (some m')) := by
  obtain ⟨b1, b2⟩ := w.at_ k p m hp hm
  have hk := (List.getElem?_eq_some_iff.mp hm).1
  refine ⟨Stp.upd wt b2 (by rw [b1]), w.tl, by rw [upd_ne (ne_tag w.tl b1 (by simp; try omega))]; exact w.ol, by rw [List.length_set]; exact w.ln, fun i p' c e1 e2 => ?_, fun i p' c e1 e2 => ?_⟩
  · by_cases hi : k = i
    · subst hi
      rw [List.getElem?_set_self hk] at e2
      rw [hp] at e1
      cases e1; cases e2
      exact ⟨fun z => (nomatch z), fun z => (nomatch z)⟩
    · rw [List.getElem?_set_ne hi] at e2
      exact w.no i p' c e1 e2
  · by_cases hi : k = i
    · subst hi
      rw [List.getElem?_set_self hk] at e2
      rw [hp] at e1
      cases e1; cases e2
      exact ⟨b1, upd_same⟩
    · rw [List.getElem?_set_ne hi] at e2
      obtain ⟨c1, c2⟩ := w.at_ i p' c e1 e2
      exact ⟨c1, by rw [upd_ne (ne_tag c1 b1 (by simp; try omega))]; exact c2⟩
theorem Lw.clr (w : Lw H T ll ps lies) (wt : WT H T) (k : Nat) : Stp 3 H (upd H ll (.lst ((ps.set k none).map aV))) T T ∧ Lw (upd H ll (.lst ((ps.set k none).map aV))) T ll (ps.set k none) (lies.set k none) := by
  refine ⟨Stp.upd wt w.ol (by rw [w.tl]), w.tl, upd_same, by rw [List.length_set, List.length_set]; exact w.ln, fun i p' c e1 e2 => ?_, fun i p' c e1 e2 => ?_⟩
  · by_cases hi : k = i
    · subst hi
      have hk : k < ps.length := by have := (List.getElem?_eq_some_iff.mp e1).1; rw [List.length_set] at this; exact this
      have hk' : k < lies.length := by rw [← w.ln]; exact hk
      rw [List.getElem?_set_self hk] at e1
      rw [List.getElem?_set_self hk'] at e2
      cases e1; cases e2
      exact ⟨fun _ => rfl, fun _ => rfl⟩
    · rw [List.getElem?_set_ne hi] at e1 e2
      exact w.no i p' c e1 e2
  · by_cases hi : k = i
    · subst hi
      have hk : k < ps.length := by have := (List.getElem?_eq_some_iff.mp e1).1; rw [List.length_set] at this; exact this
      rw [List.getElem?_set_self hk] at e1
      cases e1
    · rw [List.getElem?_set_ne hi] at e1 e2
      obtain ⟨c1, c2⟩ := w.at_ i p' c e1 e2
      exact ⟨c1, by rw [upd_ne (ne_tag c1 w.tl (by simp; try omega))]; exact c2⟩
theorem Lw.app (w : Lw H T ll ps lies) (wt : WT H T) : Stp 3 H (upd H ll (.lst ((ps ++ [none]).map aV))) T T ∧ Lw (upd H ll (.lst ((ps ++ [none]).map aV))) T ll (ps ++ [none]) (lies ++ [none]) := by
  have hl := w.ln
  have cs : ∀ (i : Nat) (p' : Option Addr) (c : Option (Int × Str)), (ps ++ [none])[i]? = some p' → (lies ++ [none])[i]? = some c → (ps[i]? = some p' ∧ lies[i]? = some c) ∨ (p' = none ∧ c = none) := fun i p' c e1 e2 => by
    by_cases hi : i < ps.length
    · rw [List.getElem?_append_left hi] at e1
      rw [List.getElem?_append_left (by omega)] at e2
      exact .inl ⟨e1, e2⟩
    · rw [List.getElem?_append_right (by omega)] at e1 e2
      have h1 := (List.getElem?_eq_some_iff.mp e1).1
      simp at h1
      have : i - ps.length = 0 := by omega
      rw [this] at e1
      have : i - lies.length = 0 := by omega
      rw [this] at e2
      cases e1; cases e2
      exact .inr ⟨rfl, rfl⟩
  refine ⟨Stp.upd wt w.ol (by rw [w.tl]), w.tl, upd_same, by rw [List.length_append, List.length_append, hl]; rfl, fun i p' c e1 e2 => ?_, fun i p' c e1 e2 => ?_⟩
  · rcases cs i p' c e1 e2 with ⟨e1, e2⟩ | ⟨rfl, rfl⟩
    · exact w.no i p' c e1 e2
    · exact ⟨fun _ => rfl, fun _ => rfl⟩
  · rcases cs i _ _ e1 e2 with ⟨e1, e2⟩ | ⟨e, _⟩
    · obtain ⟨c1, c2⟩ := w.at_ i p' c e1 e2
      exact ⟨c1, by rw [upd_ne (ne_tag c1 w.tl (by simp; try omega))]; exact c2⟩
    · cases e
theorem Lw.lay (w : Lw H T ll ps lies) (wt : WT H T) {k : Nat} {p : Addr} {m : Int × Str} (hk : k < lies.length) (np : T p = (3, 1 + k)) (op : H p = some (.lst [.int m.1, .str m.2])) : Stp 3 H (upd H ll (.lst ((ps.set k (some p)).map aV))) T T ∧ Lw (upd H ll (.lst ((ps.set k (some p)).map aV))) T ll (ps.set k (some p)) (lies.set k (some m)) := by
  have hl := w.ln
  refine ⟨Stp.upd wt w.ol (by rw [w.tl]), w.tl, upd_same, by rw [List.length_set, List.length_set]; exact w.ln, fun i p' c e1 e2 => ?_, fun i p' c e1 e2 => ?_⟩
  · by_cases hi : k = i
    · subst hi
      rw [List.getElem?_set_self (by omega)] at e1 e2
      cases e1; cases e2
      exact ⟨fun z => (nomatch z), fun z => (nomatch z)⟩
    · rw [List.getElem?_set_ne hi] at e1 e2
      exact w.no i p' c e1 e2
  · by_cases hi : k = i
    · subst hi
      rw [List.getElem?_set_self (by omega)] at e1 e2
      cases e1; cases e2
      exact ⟨np, by rw [upd_ne (ne_tag np w.tl (by simp; try omega))]; exact op⟩
    · rw [List.getElem?_set_ne hi] at e1 e2
      obtain ⟨c1, c2⟩ := w.at_ i p' c e1 e2
      exact ⟨c1, by rw [upd_ne (ne_tag c1 w.tl (by simp; try omega))]; exact c2⟩
theorem Ow.chg (w : Ow H T lo os names) (wt : WT H T) {k : Nat} {p : Addr} {m m' : Str × (Int × Int)} (hp : os[k]? = some p) (hm : names[k]? = some m) : Stp 4 H (upd H p (.lst [.str m'.1, .int m'.2.1, .int m'.2.2])) T T ∧ Ow (upd H p (.lst [.str m'.1, .int m'.2.1, .int m'.2.2])) T lo os (names.set k m') := by
  obtain ⟨b1, b2⟩ := w.at_ k p m hp hm
  have hk := (List.getElem?_eq_some_iff.mp hm).1
  refine ⟨Stp.upd wt b2 (by rw [b1]), w.tl, by rw [upd_ne (ne_tag w.tl b1 (by simp; try omega))]; exact w.ol, by rw [List.length_set]; exact w.ln, fun i p' c e1 e2 => ?_⟩
  by_cases hi : k = i
  · subst hi
    rw [List.getElem?_set_self hk] at e2
    rw [hp] at e1
    cases e1; cases e2
    exact ⟨b1, upd_same⟩
  · rw [List.getElem?_set_ne hi] at e2
    obtain ⟨c1, c2⟩ := w.at_ i p' c e1 e2
    exact ⟨c1, by rw [upd_ne (ne_tag c1 b1 (by simp; try omega))]; exact c2⟩
theorem Ow.app (w : Ow H T lo os names) (wt : WT H T) {p : Addr} {m : Str × (Int × Int)} (tp : T p = (4, 1 + names.length)) (op : H p = some (.lst [.str m.1, .int m.2.1, .int m.2.2])) : Stp 4 H (upd H lo (.lst ((os ++ [p]).map V.ref))) T T ∧ Ow (upd H lo (.lst ((os ++ [p]).map V.ref))) T lo (os ++ [p]) (names ++ [m]) := by
  have hl := w.ln
  refine ⟨Stp.upd wt w.ol (by rw [w.tl]), w.tl, upd_same, by rw [List.length_append, List.length_append, hl]; rfl, fun i p' c e1 e2 => ?_⟩
  by_cases hi : i < os.length
  · rw [List.getElem?_append_left hi] at e1
    rw [List.getElem?_append_left (by omega)] at e2
    obtain ⟨c1, c2⟩ := w.at_ i p' c e1 e2
    exact ⟨c1, by rw [upd_ne (ne_tag c1 w.tl (by simp; try omega))]; exact c2⟩
  · rw [List.getElem?_append_right (by omega)] at e1 e2
    have h1 := (List.getElem?_eq_some_iff.mp e1).1
    simp at h1
    have ei : i = names.length := by omega
    have : i - os.length = 0 := by omega
    rw [this] at e1
    have : i - names.length = 0 := by omega
    rw [this] at e2
    cases e1; cases e2
    exact ⟨by rw [ei]; exact tp, by rw [upd_ne (ne_tag tp w.tl (by simp; try omega))]; exact op⟩
theorem fst0_first {α : Type} : ∀ {l : List (Option α)} {k : Nat}, (∀ j, j < k → ∃ x, l[j]? = some (some x)) → l[k]? = some none → fst0 l = k
  | [], k, _, h => by simp at h
  | none :: l, 0, _, _ => rfl
  | some a :: l, 0, _, h => by simp at h
  | none :: l, k + 1, hj, h => by
    obtain ⟨x, e⟩ := hj 0 (by omega)
    simp at e
  | some a :: l, k + 1, hj, h => by
    show fst0 l + 1 = k + 1
    rw [fst0_first (l := l) (k := k) (fun j hjk => by simpa using hj (j + 1) (by omega)) (by simpa using h)]
theorem fst0_full {α : Type} : ∀ {l : List (Option α)}, (∀ j, j < l.length → ∃ x, l[j]? = some (some x)) → fst0 l = l.length
  | [], _ => rfl
  | none :: l, h => by
    obtain ⟨x, e⟩ := h 0 (by simp)
    simp at e
  | some a :: l, h => by
    show fst0 l + 1 = l.length + 1
    rw [fst0_full (l := l) fun j hj => by simpa using h (j + 1) (by simpa using hj)]
end
def lieGone (lies : Lies) (p b : Int) : Bool := match (lies[p.toNat]?).join with
  | none => true
  | some m => !decide (m.1 = b)
def lieRoot (g : Bool) (lies : Lies) (p b : Int) : Option Int := if lieGone lies p b = true then none else match (lies[p.toNat]?).join with
  | none => none
  | some m => if g = true ∧ m.2 = "pale" then none else some p
def S_leastL : Sp := fun vs H Q E => ∃ lp, vs = [.ref lp] ∧ ∃ ps : List (Option Addr), H lp = some (.lst (ps.map aV)) ∧ ps.length ≤ 1000 ∧ (fst0 ps < ps.length → Q (.int (fst0 ps)) H) ∧ (fst0 ps = ps.length → Q (.int ps.length) (upd H lp (.lst ((ps ++ [none]).map aV))))
def S_goneL : Sp := fun vs H Q E => ∃ ll p b, vs = [.ref ll, .int p, .int b] ∧ ∃ T ps lies, Lw H T ll ps lies ∧ 0 ≤ p ∧ p < lies.length ∧ Q (.bl (lieGone lies p b)) H
def S_rowL : Sp := fun vs H Q E => ∃ ll lo g, vs = [.ref ll, .ref lo, .bl g] ∧ ∃ T ps lies os names, Lw H T ll ps lies ∧ Ow H T lo os names ∧ (∀ m ∈ names, 0 ≤ m.2.1 ∧ m.2.1 < lies.length) ∧ names.length ≤ 1000 ∧ ∀ l H', Same H H' → H l = none → H' l = some (.lst ((names.map fun m => lieRoot g lies m.2.1 m.2.2).map oV)) → Q (.ref l) H'
section
variable {K : PySem.W.Frag} {X : Cs} {rf : Rf → Addr} {H : Hp} {Q : VK} {E : XK} {n : St → Hp → Prop} {bk ct : St → Hp → Prop}
theorem _law_least_rd {lp : Addr} (q : ∃ ps : List (Option Addr), H lp = some (.lst (ps.map aV)) ∧ ps.length ≤ 1000 ∧ (fst0 ps < ps.length → Q (.int (fst0 ps)) H) ∧ (fst0 ps = ps.length → Q (.int ps.length) (upd H lp (.lst ((ps ++ [none]).map aV))))) :
    rd__law_least K ⟨n, Q, bk, ct⟩ [some (.ref lp), none] H := by
  obtain ⟨ps, ol, hl, q1, q2⟩ := q
  unfold rd__law_least
  walk_at "ev"
  refine i_lenL (SqL.of ol) ?_
  rw [List.length_map]
  walk_at "ev"
  refine ⟨_, rfl, by omega, by omega, ?_⟩
  refine forR (fun k σ Hx => Hx = H ∧ (∃ v1, σ = [some (.ref lp), v1]) ∧ ∀ j, j < k → ∃ c, ps[j]? = some (some c)) ⟨rfl, ⟨_, rfl⟩, fun j hj => absurd hj (Nat.not_lt_zero _)⟩ ?_ ?_
  · rintro k σ Hx hk ⟨rfl, ⟨v1, rfl⟩, hj⟩
    have hk : k < ps.length := by omega
    walk_at "ev"
    refine i_ixL (SqL.of ol) (i := (0 : Int) + k) (v := aV ps[k]) (by rw [Int.zero_add]; exact atI_nat (by rw [List.getElem?_map, List.getElem?_eq_getElem hk]; rfl)) ?_
    cases hc : ps[k] with
    | some c =>
      rw [show aV (some c) = V.ref c from rfl]
      walk_at "ev"
      refine ⟨rfl, ⟨_, rfl⟩, fun j hjk => ?_⟩
      by_cases z : j < k
      · exact hj j z
      · have : j = k := by omega
        subst this
        exact ⟨c, by rw [List.getElem?_eq_getElem hk, hc]⟩
    | none =>
      rw [show aV none = V.non from rfl]
      have hf : fst0 ps = k := fst0_first hj (by rw [List.getElem?_eq_getElem hk, hc])
      walk_at "ev"
      rw [Int.zero_add, ← hf]
      exact q1 (by omega)
  · rintro σ Hx ⟨rfl, ⟨v1, rfl⟩, hj⟩
    have hf : fst0 ps = ps.length := fst0_full fun j hjl => hj j (by omega)
    walk_at "ev"
    refine ⟨.inl ⟨rfl, _, SqL.of ol⟩, ?_⟩
    walk_at "ev"
    refine ⟨lp, _, _, rfl, rfl, ol, ?_, ?_⟩
    · rw [List.length_map]
      exact Nat.lt_of_le_of_lt (show _ ≤ 1000 by omega) (by decide)
    rw [show ps.map aV ++ [V.non] = (ps ++ [none]).map aV from by rw [List.map_append]; rfl]
    walk_at "ev"
    refine i_lenL (SqL.of upd_same) ?_
    rw [List.length_map, List.length_append]
    walk_at "ev"
    rw [show ((ps.length + [(none : Option Addr)].length : Nat) : Int) - 1 = ps.length from by simp]
    exact q2 hf
theorem _law_gone_rd {ll : Addr} {p b : Int} (q : ∃ T ps lies, Lw H T ll ps lies ∧ 0 ≤ p ∧ p < lies.length ∧ Q (.bl (lieGone lies p b)) H) : rd__law_gone K ⟨n, Q, bk, ct⟩ [some (.ref ll), some (.int p), some (.int b)] H := by
  obtain ⟨T, ps, lies, w, p0, p1, q⟩ := q
  obtain ⟨k, rfl⟩ := toN p0
  unfold rd__law_gone
  unfold lieGone at q
  rw [Int.toNat_natCast] at q
  walk_at "ev"
  rcases w.get (k := k) (by omega) with ⟨e1, e2⟩ | ⟨m, r, e1, e2, e3, t4, o4⟩
  · refine i_ixL (SqL.of w.ol) (atI_nat e2) ?_
    rw [e1] at q
    walk_at "ev"
    exact q
  · refine i_ixL (SqL.of w.ol) (atI_nat e3) ?_
    rw [e1] at q
    walk_at "ev"
    refine i_ixL (SqL.of w.ol) (atI_nat e3) ?_
    walk_at "ev"
    refine i_ixL (SqL.of o4) (atI_nat (j := 0) (v := .int m.1) rfl) ?_
    walk_at "ev"
    exact q
theorem _law_row_rd {ll lo : Addr} {g : Bool} (q : ∃ T ps lies os names, Lw H T ll ps lies ∧ Ow H T lo os names ∧ (∀ m ∈ names, 0 ≤ m.2.1 ∧ m.2.1 < lies.length) ∧ names.length ≤ 1000 ∧ ∀ l H', Same H H' → H l = none → H' l = some (.lst ((names.map fun m => lieRoot g lies m.2.1 m.2.2).map oV)) → Q (.ref l) H') :
    rd__law_row K S_goneL ⟨n, Q, bk, ct⟩ [some (.ref ll), some (.ref lo), some (.bl g), none, none] H := by
  obtain ⟨T, ps, lies, os, names, lw, ow, hn, hl, q⟩ := q
  unfold rd__law_row
  walk_at "ev"
  refine ⟨by decide, fun l nl => ?_⟩
  have s1 := same_new nl (.lst [])
  have g1 : upd H l (.lst []) l = some (.lst []) := upd_same
  generalize upd H l (.lst []) = H1 at s1 g1 ⊢
  walk_at "ev"
  have hol := ow.ln
  refine ⟨lo, rfl, ⟨_, SqL.of (s1 _ _ ow.ol)⟩, forL (os.map V.ref) (fun i σ Hx => ∃ v4, σ = [some (.ref ll), some (.ref lo), some (.bl g), some (.ref l), v4] ∧ Same H Hx ∧ Hx l = some (.lst (((names.take i).map fun m => lieRoot g lies m.2.1 m.2.2).map oV))) ⟨_, rfl, s1, g1⟩ (fun _ _ _ _ ⟨_, _, s, _⟩ => SqL.of (s _ _ ow.ol)) ?_ ?_⟩
  · rintro i x σ Hx hi ⟨v4, rfl, s2, g2⟩
    have hil := (List.getElem?_eq_some_iff.mp hi).1
    rw [List.length_map] at hil
    rw [List.getElem?_map] at hi
    obtain ⟨r, hr, rfl⟩ := Option.map_eq_some_iff.mp hi
    obtain ⟨m, hm⟩ : ∃ m, names[i]? = some m := ⟨_, List.getElem?_eq_getElem (by omega)⟩
    obtain ⟨_, o1⟩ := (ow.same s2).at_ i r m hr hm
    obtain ⟨m0, m1⟩ := hn m (List.mem_of_getElem? hm)
    have etk : (names.take (i + 1)) = names.take i ++ [m] := by rw [List.take_add_one, hm]; rfl
    have fin : ∀ {v : Option Int}, v = lieRoot g lies m.2.1 m.2.2 → Same H (upd Hx l (.lst (((names.take i).map fun m => lieRoot g lies m.2.1 m.2.2).map oV ++ [oV v]))) ∧ upd Hx l (.lst (((names.take i).map fun m => lieRoot g lies m.2.1 m.2.2).map oV ++ [oV v])) l = some (.lst (((names.take (i + 1)).map fun m => lieRoot g lies m.2.1 m.2.2).map oV)) := fun {v} ev =>
      ⟨fun b o hb => by rw [upd_ne (ne_of_none hb nl)]; exact s2 _ _ hb, by rw [upd_same, etk, List.map_append, List.map_append, ev]; rfl⟩
    have hln : (((names.take i).map fun m => lieRoot g lies m.2.1 m.2.2).map oV).length < sizeLine := by
      rw [List.length_map, List.length_map, List.length_take]
      exact Nat.lt_of_le_of_lt (show _ ≤ 1000 by omega) (by decide)
    walk_at "ev"
    refine i_ixL (SqL.of o1) (atI_nat (j := 1) (v := .int m.2.1) rfl) ?_
    walk_at "ev"
    refine i_ixL (SqL.of o1) (atI_nat (j := 2) (v := .int m.2.2) rfl) ?_
    walk_at "ev"
    refine ⟨_, _, _, rfl, T, ps, lies, lw.same s2, m0, m1, ?_⟩
    cases hg : lieGone lies m.2.1 m.2.2 with
    | true =>
      walk_at "ev"
      refine ⟨.inl ⟨rfl, _, SqL.of g2⟩, ?_⟩
      walk_at "ev"
      refine ⟨l, _, _, rfl, rfl, g2, hln, ?_⟩
      walk_at "ev"
      exact ⟨_, rfl, fin (v := none) (by unfold lieRoot; rw [hg, if_pos rfl])⟩
    | false =>
      cases g with
      | false =>
        walk_at "ev"
        refine ⟨.inl ⟨rfl, _, SqL.of g2⟩, ?_⟩
        walk_at "ev"
        refine i_ixL (SqL.of o1) (atI_nat (j := 1) (v := .int m.2.1) rfl) ?_
        walk_at "ev"
        refine ⟨l, _, _, rfl, rfl, g2, hln, ?_⟩
        walk_at "ev"
        refine ⟨_, rfl, fin (v := some m.2.1) ?_⟩
        unfold lieRoot
        rw [hg, if_neg Bool.false_ne_true]
        unfold lieGone at hg
        cases e : (lies[m.2.1.toNat]?).join with
        | none => rw [e] at hg; cases hg
        | some y => simp
      | true =>
        obtain ⟨k, ek⟩ := toN m0
        have lw2 := lw.same s2
        unfold lieGone at hg
        walk_at "ev"
        refine i_ixL (SqL.of o1) (atI_nat (j := 1) (v := .int m.2.1) rfl) ?_
        rcases lw2.get (k := k) (by omega) with ⟨e1, e2⟩ | ⟨y, r', e1, e2, e3, t4, o4⟩
        · rw [ek, Int.toNat_natCast, e1] at hg; cases hg
        rw [ek]
        refine i_ixL (SqL.of lw2.ol) (atI_nat e3) ?_
        walk_at "ev"
        refine i_ixL (SqL.of o4) (atI_nat (j := 1) (v := .str y.2) rfl) ?_
        walk_at "ev"
        refine ifd (fun hy => ?_) (fun hy => ?_)
        · walk_at "ev"
          refine ⟨.inl ⟨rfl, _, SqL.of g2⟩, ?_⟩
          walk_at "ev"
          refine ⟨l, _, _, rfl, rfl, g2, hln, ?_⟩
          walk_at "ev"
          refine ⟨_, rfl, fin (v := none) ?_⟩
          unfold lieRoot
          rw [ek, Int.toNat_natCast, e1]
          simp [hy]
        · walk_at "ev"
          refine ⟨.inl ⟨rfl, _, SqL.of g2⟩, ?_⟩
          walk_at "ev"
          refine i_ixL (SqL.of o1) (atI_nat (j := 1) (v := .int m.2.1) rfl) ?_
          walk_at "ev"
          refine ⟨l, _, _, rfl, rfl, g2, hln, ?_⟩
          walk_at "ev"
          refine ⟨_, rfl, fin (v := some m.2.1) ?_⟩
          unfold lieRoot lieGone
          rw [ek, Int.toNat_natCast] at hg ⊢
          rw [e1] at hg ⊢
          have hg : (!decide (y.1 = m.2.2)) = false := hg
          symm
          show (if (!decide (y.1 = m.2.2)) = true then none else if true = true ∧ y.2 = "pale" then none else some _) = _
          rw [hg, if_neg Bool.false_ne_true, if_neg (fun z => hy z.2)]
  · rintro σ Hx ⟨v4, rfl, s2, g2⟩
    walk_at "ev"
    refine q l Hx s2 nl ?_
    rw [g2, List.length_map, hol, List.take_length]
end
def partD : Unit := ()
structure L5 (X : Cs) (H : Hp) (T : Tg) (A : Wa) (M : Wm) (wo lr ll ls lo : Addr) (rs : List Addr) (rows : List (List (Option Int))) (ps : List (Option Addr)) (lies : Lies) (b g : Int) (os : List Addr) (names : List (Str × (Int × Int))) : Prop where
  w : WT H T
  j : WJ X H T 1 A M
  aw : A.wo = wo
  r : Rw H T lr rs rows
  l : Lw H T ll ps lies
  ts : T ls = (5, 0)
  st : H ls = some (.lst [.int b, .int g])
  o : Ow H T lo os names
def LR (g sense : Int) : Option Ce → Option (Int × Str) → Prop
  | none, none => True
  | some c, some m => m.1 = c.birth ∧ (m.2 = "pale" ↔ (g = 0 ∨ c.tone ≠ sense))
  | _, _ => False
structure RelL (g sense : Int) (cells : List (Option Ce)) (lies : Lies) : Prop where
  ln : cells.length = lies.length
  at_ : ∀ (k : Nat) o m, cells[k]? = some o → lies[k]? = some m → LR g sense o m
structure Q5 (M : Wm) (lies : Lies) (g : Int) (i : Nat) : Prop where
  gg : (g = 0 ∧ M.sw.phase = "rest" ∧ M.sw.sense = 0 ∧ ∀ c, some c ∈ M.cells → c.tone = 0) ∨ (g = 1 ∧ M.sw.phase = "walk")
  rl : RelL g M.sw.sense M.cells lies
  rm : M.room = 10 ^ 15
  us : M.used ≤ i * 2
  cl : M.cells.length ≤ i
  bk : ∀ c, some c ∈ M.cells → c.bulk = 0
  hd : ∃ a b, M.hands = [a, b] ∧ a.2.length = 3 ∧ b.2.length = 3
  nl : M.names.length ≤ i
  nd : (M.names.map (·.1)).Nodup
  np : ∀ m ∈ M.names, 0 ≤ m.2.1 ∧ m.2.1 < M.cells.length
  gr : M.sw.grey.length ≤ i
section
variable {X : Cs} {H H' : Hp} {T T' : Tg} {A A' : Wa} {M M' : Wm} {wo lr ll ls lo : Addr} {rs : List Addr} {rows : List (List (Option Int))} {ps : List (Option Addr)} {lies : Lies} {b g : Int} {os : List Addr} {names : List (Str × (Int × Int))} {i : Nat}
theorem L5.same (l : L5 X H T A M wo lr ll ls lo rs rows ps lies b g os names) (s : Same H H') : L5 X H' T A M wo lr ll ls lo rs rows ps lies b g os names := ⟨l.w.same s, l.j.same s, l.aw, l.r.same s, l.l.same s, l.ts, s _ _ l.st, l.o.same s⟩
theorem L5.deed (l : L5 X H T A M wo lr ll ls lo rs rows ps lies b g os names) (st : Stp 1 H H' T T') (j : WJ X H' T' 1 A' M') (aw : A'.wo = wo) : L5 X H' T' A' M' wo lr ll ls lo rs rows ps lies b g os names :=
  ⟨st.wt, j, aw, l.r.other st (by decide), l.l.other st (by decide), (st.tg _ _ l.st).trans l.ts, st.kp _ _ l.st (by rw [l.ts]; decide), l.o.other st (by decide)⟩
theorem L5.six (l : L5 X H T A M wo lr ll ls lo rs rows ps lies b g os names) (st : Stp 6 H H' T T') : L5 X H' T' A M wo lr ll ls lo rs rows ps lies b g os names :=
  ⟨st.wt, l.j.other st (by decide) (by decide), l.aw, l.r.other st (by decide), l.l.other st (by decide), (st.tg _ _ l.st).trans l.ts, st.kp _ _ l.st (by rw [l.ts]; decide), l.o.other st (by decide)⟩
theorem L5.row (l : L5 X H T A M wo lr ll ls lo rs rows ps lies b g os names) {j k : Nat} {r : Addr} {x : List (Option Int)} {y : Option Int} (hr : rs[j]? = some r) (hx : rows[j]? = some x) :
    Stp 2 H (upd H r (.lst ((x.map oV).set k (oV y)))) T T ∧ L5 X (upd H r (.lst ((x.map oV).set k (oV y)))) T A M wo lr ll ls lo rs (rows.set j (x.set k y)) ps lies b g os names := by
  obtain ⟨st, r1⟩ := l.r.set l.w (k := k) (y := y) hr hx
  exact ⟨st, st.wt, l.j.other st (by decide) (by decide), l.aw, r1, l.l.other st (by decide), l.ts, st.kp _ _ l.st (by rw [l.ts]; decide), l.o.other st (by decide)⟩
theorem L5.lie (l : L5 X H T A M wo lr ll ls lo rs rows ps lies b g os names) {ps' : List (Option Addr)} {lies' : Lies} (st : Stp 3 H H' T T) (l' : Lw H' T ll ps' lies') : L5 X H' T A M wo lr ll ls lo rs rows ps' lies' b g os names :=
  ⟨st.wt, l.j.other st (by decide) (by decide), l.aw, l.r.other st (by decide), l', l.ts, st.kp _ _ l.st (by rw [l.ts]; decide), l.o.other st (by decide)⟩
theorem L5.ord (l : L5 X H T A M wo lr ll ls lo rs rows ps lies b g os names) {os' : List Addr} {names' : List (Str × (Int × Int))} (st : Stp 4 H H' T T) (o' : Ow H' T lo os' names') : L5 X H' T A M wo lr ll ls lo rs rows ps lies b g os' names' :=
  ⟨st.wt, l.j.other st (by decide) (by decide), l.aw, l.r.other st (by decide), l.l.other st (by decide), l.ts, st.kp _ _ l.st (by rw [l.ts]; decide), o'⟩
theorem L5.state (l : L5 X H T A M wo lr ll ls lo rs rows ps lies b g os names) (b' g' : Int) : Stp 5 H (upd H ls (.lst [.int b', .int g'])) T T ∧ L5 X (upd H ls (.lst [.int b', .int g'])) T A M wo lr ll ls lo rs rows ps lies b' g' os names := by
  have st : Stp 5 H (upd H ls (.lst [.int b', .int g'])) T T := Stp.upd l.w l.st (by rw [l.ts])
  exact ⟨st, st.wt, l.j.other st (by decide) (by decide), l.aw, l.r.other st (by decide), l.l.other st (by decide), l.ts, upd_same, l.o.other st (by decide)⟩
theorem L5.tag (l : L5 X H T A M wo lr ll ls lo rs rows ps lies b g os names) {r : Addr} {o : HO} {v : Nat × Nat} (n : H r = none) : L5 X (upd H r o) (setT T r v) A M wo lr ll ls lo rs rows ps lies b g os names := by
  have s := same_new n o
  have f : ∀ b u, H b = some u → setT T r v b = T b := fun b u hb => setT_ne (ne_of_none hb n)
  exact ⟨wt_set (l.w.same s) upd_same, l.j.fresh n, l.aw, l.r.mv (fun b u hb _ => s _ _ hb) f, l.l.mv (fun b u hb _ => s _ _ hb) f, (f _ _ l.st).trans l.ts, s _ _ l.st, l.o.mv (fun b u hb _ => s _ _ hb) f⟩
theorem Q5.mono (p : Q5 M lies g i) : Q5 M lies g (i + 1) := by
  obtain ⟨a1, a2, a3, a4, a5, a6, a7, a8, a9, a10, a11⟩ := p
  exact ⟨a1, a2, a3, by push_cast; omega, by omega, a6, a7, by omega, a9, a10, by omega⟩
theorem RelL.fst (p : RelL g b M.cells lies) : fst0 M.cells = fst0 lies := fst0_eq _ _ p.ln fun i x y e1 e2 => by
  have := p.at_ i x y e1 e2
  cases x <;> cases y
  · exact ⟨fun _ => rfl, fun _ => rfl⟩
  · exact this.elim
  · exact this.elim
  · exact ⟨fun z => (nomatch z), fun z => (nomatch z)⟩
theorem Lw.fst (w : Lw H T ll ps lies) : fst0 ps = fst0 lies := fst0_eq _ _ w.ln fun i x y e1 e2 => w.no i x y e1 e2
theorem RelL.set {sense : Int} {cells : List (Option Ce)} (p : RelL g sense cells lies) {k : Nat} {o : Option Ce} {m : Option (Int × Str)} (h : LR g sense o m) : RelL g sense (cells.set k o) (lies.set k m) := by
  refine ⟨by rw [List.length_set, List.length_set]; exact p.ln, fun i x y e1 e2 => ?_⟩
  by_cases z : k = i
  · subst z
    have h1 := (List.getElem?_eq_some_iff.mp e1).1
    have h2 := (List.getElem?_eq_some_iff.mp e2).1
    rw [List.length_set] at h1 h2
    rw [List.getElem?_set_self h1] at e1
    rw [List.getElem?_set_self h2] at e2
    cases e1; cases e2
    exact h
  · rw [List.getElem?_set_ne z] at e1 e2
    exact p.at_ i x y e1 e2
theorem RelL.put {sense : Int} {cells : List (Option Ce)} (p : RelL g sense cells lies) {c : Ce} {m : Int × Str} (h : LR g sense (some c) (some m)) : RelL g sense (putO cells c) (putO lies m) := by
  have hf : fst0 cells = fst0 lies := fst0_eq _ _ p.ln fun i x y e1 e2 => by
    have := p.at_ i x y e1 e2
    cases x <;> cases y
    · exact ⟨fun _ => rfl, fun _ => rfl⟩
    · exact this.elim
    · exact this.elim
    · exact ⟨fun z => (nomatch z), fun z => (nomatch z)⟩
  refine ⟨putO_len p.ln hf, fun i x y e1 e2 => ?_⟩
  by_cases z : i = fst0 cells
  · subst z
    rw [putO_at] at e1
    rw [hf, putO_at] at e2
    cases e1; cases e2
    exact h
  · exact p.at_ i x y (putO_ne z e1) (putO_ne (by rw [← hf]; exact z) e2)
theorem Q5.g01 (p : Q5 M lies g i) : (g = 0 ∨ g = 1) ∧ M.sw.phase ≠ "give" ∧ (M.sw.phase = "walk" ↔ g = 1) ∧ walkB M = decide (g = 1) := by
  rcases p.gg with ⟨rfl, e, _⟩ | ⟨rfl, e⟩
  · unfold walkB
    rw [e]
    exact ⟨.inl rfl, by decide, by decide, by decide⟩
  · unfold walkB
    rw [e]
    exact ⟨.inr rfl, by decide, by decide, by decide⟩
theorem Q5.gone (p : Q5 M lies g i) {x y : Int} (h0 : 0 ≤ x) (h1 : x < M.cells.length) : goneM M x y = lieGone lies x y := by
  have hl := p.rl.ln
  unfold goneM lieGone cellAt
  rw [if_pos h0]
  have e1 : M.cells[x.toNat]? = some M.cells[x.toNat] := List.getElem?_eq_getElem (by omega)
  have e2 : lies[x.toNat]? = some (lies[x.toNat]'(by omega)) := List.getElem?_eq_getElem (by omega)
  have := p.rl.at_ _ _ _ e1 e2
  rw [e1, e2]
  cases h3 : M.cells[x.toNat] with
  | none =>
    rw [h3] at this
    cases h4 : lies[x.toNat]'(by omega) with
    | none => rfl
    | some m => rw [h4] at this; exact this.elim
  | some c =>
    rw [h3] at this
    cases h4 : lies[x.toNat]'(by omega) with
    | none => rw [h4] at this; exact this.elim
    | some m =>
      rw [h4] at this
      obtain ⟨z1, _⟩ := this
      show (if c.birth = y then decide (M.sw.phase = "give" ∧ c.tone ≠ M.sw.sense) else true) = !decide (m.1 = y)
      rw [z1]
      by_cases e : c.birth = y
      · rw [if_pos e]
        have : ¬ (M.sw.phase = "give" ∧ c.tone ≠ M.sw.sense) := fun z => p.g01.2.1 z.1
        simp [this, e]
      · rw [if_neg e]; simp [e]
theorem Q5.root (p : Q5 M lies g i) {x y : Int} (h0 : 0 ≤ x) (h1 : x < M.cells.length) : rootM M x y = lieRoot (decide (g = 1)) lies x y := by
  have hl := p.rl.ln
  unfold rootM lieRoot
  rw [p.gone h0 h1, p.g01.2.2.2]
  cases hg : lieGone lies x y with
  | true => rfl
  | false =>
    rw [if_neg Bool.false_ne_true, if_neg Bool.false_ne_true]
    unfold cellAt
    rw [if_pos h0]
    have e1 : M.cells[x.toNat]? = some M.cells[x.toNat] := List.getElem?_eq_getElem (by omega)
    have e2 : lies[x.toNat]? = some (lies[x.toNat]'(by omega)) := List.getElem?_eq_getElem (by omega)
    have := p.rl.at_ _ _ _ e1 e2
    rw [e1, e2]
    cases h3 : M.cells[x.toNat] with
    | none =>
      rw [h3] at this
      cases h4 : lies[x.toNat]'(by omega) with
      | none => rfl
      | some m => rw [h4] at this; exact this.elim
    | some c =>
      rw [h3] at this
      cases h4 : lies[x.toNat]'(by omega) with
      | none => rw [h4] at this; exact this.elim
      | some m =>
        rw [h4] at this
        obtain ⟨_, z2⟩ := this
        show (if decide (g = 1) = true ∧ ¬ c.tone = M.sw.sense then none else some x) = if decide (g = 1) = true ∧ m.2 = "pale" then none else some x
        by_cases hg1 : g = 1
        · have : (m.2 = "pale") ↔ ¬ c.tone = M.sw.sense := by
            rw [z2]
            constructor
            · rintro (z | z)
              · omega
              · exact z
            · intro z; exact .inr z
          simp only [hg1, decide_true, this]
        · simp [hg1]
theorem Q5.row (p : Q5 M lies g i) : rootsRow M = M.names.map fun m => lieRoot (decide (g = 1)) lies m.2.1 m.2.2 := by
  unfold rootsRow
  refine List.map_congr_left fun m hm => ?_
  obtain ⟨h0, h1⟩ := p.np m hm
  exact p.root h0 h1
theorem Q5.make (p : Q5 M lies g i) {mk : Str} (hm : mk = if g = 1 then "dark" else "pale") : Q5 { M with used := M.used + (1 + 1 + 0), born := M.born + 1, cells := putO M.cells ⟨M.born + 1, 0, M.sw.sense, 0, List.replicate (Int.toNat 1) none⟩ } (putO lies (M.born + 1, mk)) g (i + 1) := by
  have g01 := p.g01.1
  obtain ⟨a1, a2, a3, a4, a5, a6, a7, a8, a9, a10, a11⟩ := p
  have hlen : M.cells.length ≤ (putO M.cells (⟨M.born + 1, 0, M.sw.sense, 0, List.replicate (Int.toNat 1) none⟩ : Ce)).length := by
    unfold putO
    split
    · rw [List.length_set]; exact Nat.le_refl _
    · rw [List.length_append]; omega
  refine ⟨?_, a2.put ⟨rfl, ?_⟩, a3, by show M.used + (1 + 1 + 0) ≤ _; push_cast; omega, ?_, fun c hc => ?_, a7, by show M.names.length ≤ _; omega, a9, fun m hm => ?_, by show M.sw.grey.length ≤ _; omega⟩
  · rcases a1 with ⟨z1, z2, z3, z4⟩ | z
    · refine .inl ⟨z1, z2, z3, fun c hc => ?_⟩
      rcases mem_putO hc with hc | hc
      · exact z4 c hc
      · cases hc; exact z3
    · exact .inr z
  · show mk = "pale" ↔ (g = 0 ∨ M.sw.sense ≠ M.sw.sense)
    rw [hm]
    rcases g01 with rfl | rfl
    · simp
    · constructor
      · intro z; exact absurd z (by decide)
      · rintro (z | z)
        · cases z
        · exact absurd rfl z
  · have := putO_le M.cells (⟨M.born + 1, 0, M.sw.sense, 0, List.replicate (Int.toNat 1) none⟩ : Ce)
    show (putO M.cells _).length ≤ _
    omega
  · rcases mem_putO hc with hc | hc
    · exact a6 c hc
    · cases hc; rfl
  · obtain ⟨z1, z2⟩ := a10 m hm
    exact ⟨z1, by show _ < ((putO M.cells _).length : Int); omega⟩
theorem Q5.back (p : Q5 M lies g i) {k : Nat} {u : Int} (hu : u ≤ M.used) : Q5 { M with used := u, cells := M.cells.set k none } (lies.set k none) g i := by
  obtain ⟨a1, a2, a3, a4, a5, a6, a7, a8, a9, a10, a11⟩ := p
  have mem : ∀ c, some c ∈ M.cells.set k none → some c ∈ M.cells := fun c hc => by
    rcases List.mem_or_eq_of_mem_set hc with hc | hc
    · exact hc
    · cases hc
  refine ⟨?_, a2.set trivial, a3, Int.le_trans hu a4, by show (M.cells.set k none).length ≤ _; rw [List.length_set]; exact a5, fun c hc => a6 c (mem c hc), a7, a8, a9, fun m hm => ?_, a11⟩
  · rcases a1 with ⟨z1, z2, z3, z4⟩ | z
    · exact .inl ⟨z1, z2, z3, fun c hc => z4 c (mem c hc)⟩
    · exact .inr z
  · show _ ∧ _ < ((M.cells.set k none).length : Int)
    rw [List.length_set]; exact a10 m hm
theorem Q5.slot (p : Q5 M lies g i) {h k : Nat} {x : Option Int} : Q5 (setSlot M h k x) lies g i := by
  obtain ⟨a1, a2, a3, a4, a5, a6, ⟨a, b, e, la, lb⟩, a8, a9, a10, a11⟩ := p
  refine ⟨a1, a2, a3, a4, a5, a6, ?_, a8, a9, a10, a11⟩
  show ∃ a b, (M.hands.modify h _) = [a, b] ∧ _
  rw [e]
  match h with
  | 0 => exact ⟨_, _, rfl, by rw [List.length_set]; exact la, lb⟩
  | 1 => exact ⟨_, _, rfl, la, by rw [List.length_set]; exact lb⟩
  | k + 2 => exact ⟨a, b, by simp [List.modify_succ_cons], la, lb⟩
theorem putNm_len {l : List (Str × (Int × Int))} {z : Str} {v : Int × Int} : (putNm l z v).length ≤ l.length + 1 := by
  unfold putNm
  split
  · rw [List.length_map]; omega
  · rw [List.length_append]; simp
theorem putNm_mem {l : List (Str × (Int × Int))} {z : Str} {v : Int × Int} {m : Str × (Int × Int)} (h : m ∈ putNm l z v) : m ∈ l ∨ m.2 = v := by
  unfold putNm at h
  split at h
  · obtain ⟨m', h1, e⟩ := List.mem_map.mp h
    by_cases z1 : m'.1 = z
    · rw [if_pos z1] at e
      exact .inr (by rw [← e])
    · rw [if_neg z1] at e
      exact .inl (by rw [← e]; exact h1)
  · rcases List.mem_append.mp h with h | h
    · exact .inl h
    · rw [List.mem_singleton.mp h]; exact .inr rfl
theorem putNm_keys {l : List (Str × (Int × Int))} {z : Str} {v : Int × Int} (h : (l.map (·.1)).Nodup) : ((putNm l z v).map (·.1)).Nodup := by
  unfold putNm
  split
  · rw [List.map_map]
    have : ((fun x : Str × (Int × Int) => x.1) ∘ fun m : Str × (Int × Int) => if m.1 = z then (m.1, v) else m) = (·.1) := by
      funext m
      show (if m.1 = z then (m.1, v) else m).1 = m.1
      split <;> rfl
    rw [this]; exact h
  · rename_i hn
    rw [List.map_append, List.nodup_append]
    refine ⟨h, by simp, fun a ha b hb e => hn ?_⟩
    have hb : b = z := by simpa using hb
    obtain ⟨m, hm, rfl⟩ := List.mem_map.mp ha
    rw [List.any_eq_true]
    exact ⟨m, hm, by rw [decide_eq_true_iff, e, hb]⟩
theorem putNm_set {l : List (Str × (Int × Int))} {z : Str} {v : Int × Int} {k : Nat} {m : Str × (Int × Int)} (nd : (l.map (·.1)).Nodup) (h : l[k]? = some m) (e : m.1 = z) : putNm l z v = l.set k (z, v) := by
  have hk := (List.getElem?_eq_some_iff.mp h).1
  unfold putNm
  rw [if_pos (List.any_eq_true.mpr ⟨m, List.mem_of_getElem? h, by rw [decide_eq_true_iff]; exact e⟩)]
  refine List.ext_getElem? fun j => ?_
  rw [List.getElem?_map]
  by_cases hj : k = j
  · subst hj
    rw [List.getElem?_set_self hk, h, Option.map_some, if_pos e, e]
  · rw [List.getElem?_set_ne hj]
    cases hm : l[j]? with
    | none => rfl
    | some m' =>
      rw [Option.map_some, if_neg]
      intro e'
      refine hj ?_
      have h1 : (l.map (·.1))[k]? = some z := by rw [List.getElem?_map, h, Option.map_some, e]
      have h2 : (l.map (·.1))[j]? = some z := by rw [List.getElem?_map, hm, Option.map_some, e']
      have k1 := (List.getElem?_eq_some_iff.mp h1)
      have k2 := (List.getElem?_eq_some_iff.mp h2)
      exact (List.getElem?_inj k1.1 nd).mp (h1.trans h2.symm)
theorem putNm_app {l : List (Str × (Int × Int))} {z : Str} {v : Int × Int} (h : ∀ m ∈ l, m.1 ≠ z) : putNm l z v = l ++ [(z, v)] := by
  unfold putNm
  rw [if_neg]
  intro w
  obtain ⟨m, hm, e⟩ := List.any_eq_true.mp w
  exact h m hm (decide_eq_true_iff.mp e)
theorem Q5.name (p : Q5 M lies g i) {z : Str} {v : Int × Int} (h0 : 0 ≤ v.1) (h1 : v.1 < M.cells.length) : Q5 { M with names := putNm M.names z v } lies g (i + 1) := by
  obtain ⟨a1, a2, a3, a4, a5, a6, a7, a8, a9, a10, a11⟩ := p
  refine ⟨a1, a2, a3, by show M.used ≤ _; push_cast; omega, by show M.cells.length ≤ _; omega, a6, a7, ?_, putNm_keys a9, fun m hm => ?_, by show M.sw.grey.length ≤ _; omega⟩
  · have := putNm_len (l := M.names) (z := z) (v := v)
    show (putNm M.names z v).length ≤ _
    omega
  · rcases putNm_mem hm with hm | hm
    · exact a10 m hm
    · rw [hm]; exact ⟨h0, h1⟩
theorem Q5.begin (p : Q5 M lies 0 i) : Q5 (beginM M) lies 1 i := by
  obtain ⟨a1, a2, a3, a4, a5, a6, a7, a8, a9, a10, a11⟩ := p
  obtain ⟨z1, z2, z3, z4⟩ : (0 : Int) = 0 ∧ M.sw.phase = "rest" ∧ M.sw.sense = 0 ∧ ∀ c, some c ∈ M.cells → c.tone = 0 := by
    rcases a1 with z | ⟨z, _⟩
    · exact z
    · cases z
  refine ⟨.inr ⟨rfl, rfl⟩, ⟨a2.ln, fun k o m e1 e2 => ?_⟩, a3, a4, a5, a6, a7, a8, a9, a10, Nat.zero_le _⟩
  have := a2.at_ k o m e1 e2
  cases o with
  | none => cases m with
    | none => trivial
    | some m => exact this.elim
  | some c => cases m with
    | none => exact this.elim
    | some m =>
      refine ⟨this.1, ⟨fun _ => .inr ?_, fun _ => this.2.mpr (.inl rfl)⟩⟩
      show c.tone ≠ 1 - M.sw.sense
      rw [z3, z4 c (List.mem_of_getElem? e1)]; decide
theorem Q5.noteY (p : Q5 M lies 1 i) {k : Nat} {c : Ce} {m : Int × Str} (hc : M.cells[k]? = some (some c)) (hm : lies[k]? = some (some m)) (hp : m.2 = "pale") : ∃ M2, noteM M (some (k : Int)) = (some m.1, M2) ∧ heldOf M2 = heldOf M ∧ M2.born = M.born ∧ M2.names = M.names ∧ Q5 M2 (lies.set k (some (m.1, "grey"))) 1 (i + 1) := by
  have ph : M.sw.phase = "walk" := p.g01.2.2.1.mpr rfl
  obtain ⟨a1, a2, a3, a4, a5, a6, a7, a8, a9, a10, a11⟩ := p
  obtain ⟨b1, b2⟩ := a2.at_ k _ _ hc hm
  have tn : c.tone ≠ M.sw.sense := by
    rcases b2.mp hp with z | z
    · cases z
    · exact z
  have ec : cellAt M (k : Int) = some c := cellAt_some.mpr ⟨by omega, by rw [Int.toNat_natCast]; exact hc⟩
  refine ⟨{ setCell M k { c with tone := M.sw.sense } with sw := { M.sw with grey := M.sw.grey ++ [(k : Int)] } }, ?_, rfl, rfl, rfl, .inr ⟨rfl, ph⟩, ?_, a3, by show M.used ≤ _; push_cast; omega, ?_, fun d hd => ?_, a7, by show M.names.length ≤ _; omega, a9, fun x hx => ?_, ?_⟩
  · unfold noteM
    dsimp only
    rw [ec]
    dsimp only
    rw [if_pos ⟨ph, tn⟩, b1]
  · show RelL 1 M.sw.sense (M.cells.set (Int.toNat k) _) _
    rw [Int.toNat_natCast]
    refine a2.set ⟨b1, ⟨fun z => absurd (show ("grey" : Str) = "pale" from z) (by decide), ?_⟩⟩
    rintro (z | z)
    · cases z
    · exact absurd rfl z
  · show (M.cells.set _ _).length ≤ _
    rw [List.length_set]; omega
  · rcases List.mem_or_eq_of_mem_set (show some d ∈ M.cells.set _ _ from hd) with hd | hd
    · exact a6 d hd
    · cases hd
      exact a6 c (List.mem_of_getElem? hc)
  · show _ ∧ _ < ((M.cells.set _ _).length : Int)
    rw [List.length_set]; exact a10 x hx
  · show (M.sw.grey ++ [(k : Int)]).length ≤ _
    rw [List.length_append]; simp; omega
theorem Q5.noteN (p : Q5 M lies g i) {k : Nat} {c : Ce} {m : Int × Str} (hc : M.cells[k]? = some (some c)) (hm : lies[k]? = some (some m)) (hn : g = 1 → m.2 ≠ "pale") : noteM M (some (k : Int)) = (none, M) := by
  obtain ⟨b1, b2⟩ := p.rl.at_ k _ _ hc hm
  have ec : cellAt M (k : Int) = some c := cellAt_some.mpr ⟨by omega, by rw [Int.toNat_natCast]; exact hc⟩
  unfold noteM
  dsimp only
  rw [ec]
  dsimp only
  rw [if_neg]
  rintro ⟨z1, z2⟩
  exact hn (p.g01.2.2.1.mp z1) (b2.mpr (.inr z2))
theorem Q5.hlen (p : Q5 M lies g i) : M.hands.length = 2 ∧ ∀ x ∈ heldOf M, x.length = 3 := by
  unfold heldOf
  obtain ⟨a, b, e, la, lb⟩ := p.hd
  rw [e]
  refine ⟨rfl, fun x hx => ?_⟩
  simp only [List.map_cons, List.map_nil, List.mem_cons, List.not_mem_nil, or_false] at hx
  rcases hx with rfl | rfl <;> assumption
theorem heldOf_set {M : Wm} {h k : Nat} {x : Option Int} {m : Str × List (Option Int)} (hm : M.hands[h]? = some m) : heldOf (setSlot M h k x) = (heldOf M).set h (m.2.set k x) := by
  unfold heldOf
  rw [setSlot_hands hm, List.map_set]
end
def partE : Unit := ()
def St5 (X : Cs) (H : Hp) (T : Tg) (wo lr ll ls lo : Addr) (rs : List Addr) (M : Wm) (lies : Lies) (g : Int) : Prop := ∃ A ps os, L5 X H T A M wo lr ll ls lo rs (heldOf M) ps lies M.born g os M.names
def S_makeL (X : Cs) : Sp := fun vs H Q E => ∃ wo ll ls mk, vs = [.ref wo, .ref ll, .ref ls, .str mk] ∧ ∃ T lr lo rs M lies g i, St5 X H T wo lr ll ls lo rs M lies g ∧ Q5 M lies g i ∧ i ≤ 100 ∧ (mk = if g = 1 then "dark" else "pale") ∧
  ∀ H' T' M' lies', St5 X H' T' wo lr ll ls lo rs M' lies' g → Q5 M' lies' g (i + 1) → Kp H H' T T' → Q (.bl true) H'
def S_namedL (X : Cs) : Sp := fun vs H Q E => ∃ wo ll lo z x, vs = [.ref wo, .ref ll, .ref lo, .str z, .int x] ∧ ∃ T lr ls rs M lies g i, St5 X H T wo lr ll ls lo rs M lies g ∧ Q5 M lies g i ∧ i ≤ 100 ∧ (∃ (k : Nat) (m : Int × Str), x = (k : Int) ∧ lies[k]? = some (some m)) ∧
  ∀ H' T' M' lies', St5 X H' T' wo lr ll ls lo rs M' lies' g → Q5 M' lies' g (i + 1) → Kp H H' T T' → Q (.bl true) H'
def S_notedL (X : Cs) : Sp := fun vs H Q E => ∃ wo ll wk x, vs = [.ref wo, .ref ll, .bl wk, .int x] ∧ ∃ T lr ls lo rs M lies g i, St5 X H T wo lr ll ls lo rs M lies g ∧ Q5 M lies g i ∧ i ≤ 100 ∧ wk = decide (g = 1) ∧ (∃ (k : Nat) (m : Int × Str), x = (k : Int) ∧ lies[k]? = some (some m)) ∧
  ∀ H' T' M' lies', St5 X H' T' wo lr ll ls lo rs M' lies' g → Q5 M' lies' g (i + 1) → Kp H H' T T' → Q (.bl true) H'
def S_turnL (X : Cs) : Sp := fun vs H Q E => ∃ wo ll lr ls lo lx c, vs = [.ref wo, .ref ll, .ref lr, .ref ls, .ref lo, .ref lx, .int c] ∧ ∃ T rs M lies g i, ∃ six : List Str, St5 X H T wo lr ll ls lo rs M lies g ∧ Q5 M lies g i ∧ i ≤ 100 ∧ H lx = some (.lst (six.map V.str)) ∧ six.length = 6 ∧
  ∀ H' T' M' lies', St5 X H' T' wo lr ll ls lo rs M' lies' g → Q5 M' lies' g (i + 1) → Kp H H' T T' → Q (.bl true) H'
section
variable {K : PySem.W.Frag} {X : Cs} {rf : Rf → Addr} {H : Hp} {Q : VK} {E : XK} {n : St → Hp → Prop} {bk ct : St → Hp → Prop}
theorem _law_make_rd {wo ll ls CF : Addr} {mk : Str} (Tx : TxW K X) (q : ∃ T lr lo rs M lies g i, St5 X H T wo lr ll ls lo rs M lies g ∧ Q5 M lies g i ∧ i ≤ 100 ∧ (mk = if g = 1 then "dark" else "pale") ∧
  ∀ H' T' M' lies', St5 X H' T' wo lr ll ls lo rs M' lies' g → Q5 M' lies' g (i + 1) → Kp H H' T T' → Q (.bl true) H') :
    rd__law_make K X.H (S_Heap_make K X.C X.H CF) S_leastL (S_same 3) ⟨n, Q, bk, ct⟩ [some (.ref wo), some (.ref ll), some (.ref ls), some (.str mk), none, none] H := by
  obtain ⟨T, lr, lo, rs, M, lies, g, i, ⟨A, ps, os, l⟩, p, hi, hm, q⟩ := q
  have hcl := p.cl
  have hus := p.us
  have hrm := p.rm
  have hln := p.rl.ln
  obtain ⟨d1, ow⟩ := l.j.jb.ow
  obtain ⟨d2, os'⟩ := l.j.js.os
  obtain ⟨d3, oh⟩ := l.j.jh.oh
  rw [l.aw] at ow
  unfold rd__law_make
  walk_at "ev"
  refine i_fldK ow Tx.cW Tx.nWh worldF_lk_heap ?_
  walk_at "ev"
  refine ⟨A.hp, d3, _, rfl, oh, heapF_no_make, ?_⟩
  walk_at "ev"
  refine i_fldK ow Tx.cW Tx.nWs worldF_lk_sweeper ?_
  walk_at "ev"
  refine i_fldK os' Tx.cS Tx.n1 sweepF_lk_sense ?_
  walk_at "ev"
  refine heap_make Tx l.j l.w (by decide) (by omega) (by decide) (by decide) (by omega) fun H1 T1 A1 st1 j1 aw1 => ?_
  have l1 := l.deed st1 j1 (aw1.trans l.aw)
  have k1 : Kp H H1 T T1 := Kp.stp st1 ⟨by decide, by decide⟩
  have p1 := p.make hm
  have hf1 := p.rl.fst
  have hf2 := l.l.fst
  have hf : fst0 M.cells = fst0 ps := by rw [hf1, hf2]
  have hpl := l.l.ln
  rw [hf]
  generalize hM : ({ M with used := M.used + (1 + 1 + 0), born := M.born + 1, cells := putO M.cells ⟨M.born + 1, 0, M.sw.sense, 0, List.replicate (Int.toNat 1) none⟩ } : Wm) = M1 at l1 p1 j1
  have e1 : heldOf M1 = heldOf M := by rw [← hM]; rfl
  have e2 : M1.born = M.born + 1 := by rw [← hM]
  have e3 : M1.names = M.names := by rw [← hM]
  have fin : ∀ {H2 : Hp} {ps2 : List (Option Addr)} {lies2 : Lies}, L5 X H2 T1 A1 M1 wo lr ll ls lo rs (heldOf M) ps2 lies2 M.born g os M.names → Kp H H2 T T1 → fst0 ps < ps2.length → lies2.set (fst0 ps) (some (M.born + 1, mk)) = putO lies (M.born + 1, mk) →
      (tSeq (tAsg (tOp (rI0 fun i j => .int (i + j)) (tOp (rIxL K) (tVar 2) (tC (.int 0))) (tC (.int 1))) (gSub (tVar 2) (tC (.int 0)) rSetL))
      (tSeq (tAsg (tLst (tCons (tOp (rIxL K) (tVar 2) (tC (.int 0))) (tCons (tVar 3) tNil))) (gSub (tVar 1) (tVar 5) rSetL))
      (tRet (tCall (S_same 3) [] E0 (tCons (tVar 4) (tCons (tVar 5) tNil)))))) ⟨n, Q, bk, ct⟩ [some (.ref wo), some (.ref ll), some (.ref ls), some (.str mk), some (.int (fst0 ps : Nat)), some (.int (fst0 ps : Nat))] H2 := by
    intro H2 ps2 lies2 l2 k2 hk2 el
    walk_at "ev"
    refine i_ixL (SqL.of l2.st) (atI_nat (j := 0) (v := .int M.born) rfl) ?_
    walk_at "ev"
    refine ⟨ls, _, _, 0, rfl, rfl, l2.st, rfl, ?_⟩
    obtain ⟨st3, l3⟩ := l2.state (M.born + 1) g
    show tSeq _ _ _ _ (upd H2 ls (.lst [.int (M.born + 1), .int g]))
    have k3 := k2.trans (Kp.stp st3 ⟨by decide, by decide⟩)
    generalize upd H2 ls (.lst [.int (M.born + 1), .int g]) = H3 at st3 l3 k3 ⊢
    walk_at "ev"
    refine i_ixL (SqL.of l3.st) (atI_nat (j := 0) (v := .int (M.born + 1)) rfl) ?_
    walk_at "ev"
    refine ⟨len_ok (by simp), fun r nr => ?_⟩
    have l4 := l3.tag (o := .lst [.int (M.born + 1), .str mk]) (v := (3, 1 + fst0 ps)) nr
    have k4 : Kp H3 (upd H3 r (.lst [.int (M.born + 1), .str mk])) T1 (setT T1 r (3, 1 + fst0 ps)) := Kp.tag nr (same_new nr _)
    have g4 : upd H3 r (.lst [.int (M.born + 1), .str mk]) r = some (.lst [.int (M.born + 1), .str mk]) := upd_same
    have t4 : setT T1 r (3, 1 + fst0 ps) r = (3, 1 + fst0 ps) := setT_same
    generalize upd H3 r (.lst [.int (M.born + 1), .str mk]) = H4 at l4 k4 g4 ⊢
    generalize setT T1 r (3, 1 + fst0 ps) = T4 at l4 k4 t4
    walk_at "ev"
    refine ⟨ll, _, _, fst0 ps, rfl, rfl, l4.l.ol, ixN_nat (by rw [List.length_map]; exact hk2), ?_⟩
    obtain ⟨st5, l5⟩ := l4.l.lay l4.w (k := fst0 ps) (p := r) (m := (M.born + 1, mk)) (by rw [← l4.l.ln]; exact hk2) t4 g4
    have l5' := l4.lie st5 l5
    have k5 : Kp H4 (upd H4 ll (.lst ((ps2.set (fst0 ps) (some r)).map aV))) T4 T4 := Kp.stp st5 ⟨by decide, by decide⟩
    rw [show (ps2.map aV).set (fst0 ps) (V.ref r) = (ps2.set (fst0 ps) (some r)).map aV from by rw [List.map_set]; rfl]
    generalize upd H4 ll (.lst ((ps2.set (fst0 ps) (some r)).map aV)) = H5 at st5 l5 l5' k5 ⊢
    walk_at "ev"
    refine ⟨_, _, rfl, sm_flat rfl, ?_⟩
    rw [el] at l5'
    exact q H5 T4 M1 _ ⟨A1, _, os, by rw [e1, e2, e3]; exact l5'⟩ p1 (k3.trans (k4.trans k5))
  walk_at "ev"
  refine ⟨ll, rfl, ps, l1.l.ol, by omega, fun hlt => ?_, fun heq => ?_⟩
  · refine i_g5 ?_
    refine fin l1 k1 hlt ?_
    unfold putO
    rw [← hf2, if_pos (by omega)]
  · obtain ⟨st2, l2⟩ := l1.l.app l1.w
    have l2' := l1.lie st2 l2
    have k2 := k1.trans (Kp.stp st2 ⟨by decide, by decide⟩)
    generalize upd H1 ll (.lst ((ps ++ [none]).map aV)) = H2 at st2 l2 l2' k2 ⊢
    refine i_g5 ?_
    rw [show (ps.length : Int) = (fst0 ps : Nat) from by rw [heq]]
    refine fin l2' k2 (by rw [List.length_append]; simp; omega) ?_
    unfold putO
    rw [← hf2, if_neg (by omega), heq, hpl]
    rw [List.set_append_right _ _ (Nat.le_refl _), Nat.sub_self]; rfl
theorem _law_named_rd {wo ll lo : Addr} {z : Str} {x : Int} (Tx : TxW K X) (q : ∃ T lr ls rs M lies g i, St5 X H T wo lr ll ls lo rs M lies g ∧ Q5 M lies g i ∧ i ≤ 100 ∧ (∃ (k : Nat) (m : Int × Str), x = (k : Int) ∧ lies[k]? = some (some m)) ∧
  ∀ H' T' M' lies', St5 X H' T' wo lr ll ls lo rs M' lies' g → Q5 M' lies' g (i + 1) → Kp H H' T T' → Q (.bl true) H') :
    rd__law_named K ⟨n, Q, bk, ct⟩ [some (.ref wo), some (.ref ll), some (.ref lo), some (.str z), some (.int x), none] H := by
  obtain ⟨T, lr, ls, rs, M, lies, g, i, ⟨A, ps, os, l⟩, p, hi, ⟨k, m, rfl, hm⟩, q⟩ := q
  have hcl := p.cl
  have hnl := p.nl
  have hln := p.rl.ln
  have hk := (List.getElem?_eq_some_iff.mp hm).1
  have look : ∀ {H' T'} {os' : List Addr} {A' : Wa} {M' : Wm} {nn : List (Str × (Int × Int))}, L5 X H' T' A' M' wo lr ll ls lo rs (heldOf M) ps lies M.born g os' nn → ∃ r, (ps.map aV)[k]? = some (.ref r) ∧ H' r = some (.lst [.int m.1, .str m.2]) := fun l' => by
    rcases l'.l.get hk with ⟨e1, _⟩ | ⟨m', r, e1, e2, e3, t4, o4⟩
    · rw [hm] at e1; cases e1
    · rw [hm] at e1
      cases e1
      exact ⟨r, e3, o4⟩
  obtain ⟨d1, ow⟩ := l.j.jb.ow
  rw [l.aw] at ow
  unfold rd__law_named
  obtain ⟨r0, a1, a2⟩ := look l
  walk_at "ev"
  refine i_ixL (SqL.of l.l.ol) (atI_nat a1) ?_
  walk_at "ev"
  refine i_ixL (SqL.of a2) (atI_nat (j := 0) (v := .int m.1) rfl) ?_
  walk_at "ev"
  refine ⟨len_ok (by simp), fun tp ntp => ?_⟩
  have s1 := same_new ntp (.tup [.int k, .int m.1])
  have g1 : upd H tp (.tup [.int k, .int m.1]) tp = some (.tup [.int k, .int m.1]) := upd_same
  have t1 := l.w _ ntp
  generalize upd H tp (.tup [.int k, .int m.1]) = H1 at s1 g1 ⊢
  have l1 := l.same s1
  walk_at "ev"
  refine i_fldK (s1 _ _ ow) Tx.cW Tx.nWn worldF_lk_names ?_
  walk_at "ev"
  refine ⟨_, _, rfl, dputS l1.j.jn.om (by rw [nm_len l1.j.jn.nms]; exact Nat.lt_of_le_of_lt (show _ ≤ 1000 by omega) (by decide)), ?_⟩
  obtain ⟨ns', st2, j2⟩ := l1.j.named l1.w (by decide) (z := z) (v := ((k : Int), m.1)) (t := tp) ⟨t1, g1⟩
  generalize upd H1 A.nm (.dK (putK (nmK M.names A.ns) (Sum.inr z) (.ref tp))) = H2 at st2 j2 ⊢
  have l2 := l1.deed (A' := { A with ns := ns' }) st2 j2 l1.aw
  have k2 : Kp H H2 T T := (Kp.same s1).trans (Kp.stp st2 ⟨by decide, by decide⟩)
  have p2 := p.name (z := z) (v := ((k : Int), m.1)) (by show (0 : Int) ≤ k; omega) (by show (k : Int) < _; omega)
  have hol := l2.o.ln
  walk_at "ev"
  refine ⟨lo, rfl, ⟨_, SqL.of l2.o.ol⟩, forL (os.map V.ref) (fun j σ Hx => ∃ v5, σ = [some (.ref wo), some (.ref ll), some (.ref lo), some (.str z), some (.int k), v5] ∧ Hx = H2 ∧ ∀ (j' : Nat) m', j' < j → M.names[j']? = some m' → m'.1 ≠ z) ⟨_, rfl, rfl, fun j' m' h => absurd h (Nat.not_lt_zero _)⟩ (fun _ _ _ _ ⟨_, _, z, _⟩ => by rw [z]; exact SqL.of l2.o.ol) ?_ ?_⟩
  · rintro j x σ Hx hj ⟨v5, rfl, rfl, hno⟩
    have hjl := (List.getElem?_eq_some_iff.mp hj).1
    rw [List.length_map] at hjl
    rw [List.getElem?_map] at hj
    obtain ⟨r, hr, rfl⟩ := Option.map_eq_some_iff.mp hj
    obtain ⟨mm, hmm⟩ : ∃ mm, M.names[j]? = some mm := ⟨_, List.getElem?_eq_getElem (by omega)⟩
    obtain ⟨tr, o1⟩ := l2.o.at_ j r mm hr hmm
    walk_at "ev"
    refine i_ixL (SqL.of o1) (atI_nat (j := 0) (v := .str mm.1) rfl) ?_
    walk_at "ev"
    refine ifd (fun hz => ?_) (fun hz => ?_)
    · obtain ⟨st3, o3⟩ := l2.o.chg l2.w (m' := (mm.1, ((k : Int), mm.2.2))) hr hmm
      have l3 := l2.ord st3 o3
      walk_at "ev"
      refine ⟨r, _, _, 1, rfl, rfl, o1, rfl, ?_⟩
      show tSeq _ _ _ _ (upd Hx r (.lst [.str mm.1, .int k, .int mm.2.2]))
      have k3 := k2.trans (Kp.stp st3 ⟨by decide, by decide⟩)
      have e3 : (upd Hx r (.lst [.str mm.1, .int k, .int mm.2.2])) r = some (.lst [.str mm.1, .int k, .int mm.2.2]) := upd_same
      have l3 : L5 X (upd Hx r (.lst [.str mm.1, .int k, .int mm.2.2])) T _ _ wo lr ll ls lo rs (heldOf M) ps lies M.born g os (M.names.set j (mm.1, ((k : Int), mm.2.2))) := l3
      have k3 : Kp H (upd Hx r (.lst [.str mm.1, .int k, .int mm.2.2])) T T := k3
      clear st3 o3
      generalize upd Hx r (.lst [.str mm.1, .int k, .int mm.2.2]) = H3 at l3 k3 e3 ⊢
      obtain ⟨r1, b1, b2⟩ := look l3
      walk_at "ev"
      refine i_ixL (SqL.of l3.l.ol) (atI_nat b1) ?_
      walk_at "ev"
      refine i_ixL (SqL.of b2) (atI_nat (j := 0) (v := .int m.1) rfl) ?_
      walk_at "ev"
      refine ⟨r, _, _, 2, rfl, rfl, e3, rfl, ?_⟩
      have hjn : j < M.names.length := by omega
      obtain ⟨st4, o4⟩ := l3.o.chg l3.w (m' := (mm.1, ((k : Int), m.1))) hr (List.getElem?_set_self hjn)
      have l4 := l3.ord st4 o4
      have k4 := k3.trans (Kp.stp st4 ⟨by decide, by decide⟩)
      have l4 : L5 X (upd H3 r (.lst [.str mm.1, .int k, .int m.1])) T _ _ wo lr ll ls lo rs (heldOf M) ps lies M.born g os ((M.names.set j (mm.1, ((k : Int), mm.2.2))).set j (mm.1, ((k : Int), m.1))) := l4
      have eN : (M.names.set j (mm.1, ((k : Int), mm.2.2))).set j (mm.1, ((k : Int), m.1)) = putNm M.names z ((k : Int), m.1) := by rw [List.set_set, hz, putNm_set p.nd hmm hz]
      rw [eN] at l4
      walk_at "ev"
      exact q _ T _ lies ⟨_, ps, os, l4⟩ p2 k4
    · walk_at "ev"
      refine ⟨_, rfl, rfl, fun j' m' hj' e => ?_⟩
      by_cases y : j' < j
      · exact hno j' m' y e
      · have : j' = j := by omega
        subst this
        rw [hmm] at e
        cases e
        exact hz
  · rintro σ Hx ⟨v5, rfl, rfl, hno⟩
    rw [List.length_map] at hno
    walk_at "ev"
    refine ⟨.inl ⟨rfl, _, SqL.of l2.o.ol⟩, ?_⟩
    obtain ⟨r1, b1, b2⟩ := look l2
    walk_at "ev"
    refine i_ixL (SqL.of l2.l.ol) (atI_nat b1) ?_
    walk_at "ev"
    refine i_ixL (SqL.of b2) (atI_nat (j := 0) (v := .int m.1) rfl) ?_
    walk_at "ev"
    refine ⟨len_ok (by simp), fun r nr => ?_⟩
    have l4 := l2.tag (o := .lst [.str z, .int k, .int m.1]) (v := (4, 1 + M.names.length)) nr
    have k4 : Kp Hx (upd Hx r (.lst [.str z, .int k, .int m.1])) T (setT T r (4, 1 + M.names.length)) := Kp.tag nr (same_new nr _)
    have g4 : upd Hx r (.lst [.str z, .int k, .int m.1]) r = some (.lst [.str z, .int k, .int m.1]) := upd_same
    have t4 : setT T r (4, 1 + M.names.length) r = (4, 1 + M.names.length) := setT_same
    generalize upd Hx r (.lst [.str z, .int k, .int m.1]) = H4 at l4 k4 g4 ⊢
    generalize setT T r (4, 1 + M.names.length) = T4 at l4 k4 t4
    walk_at "ev"
    refine ⟨lo, _, _, rfl, rfl, l4.o.ol, ?_, ?_⟩
    · rw [List.length_map]
      exact Nat.lt_of_le_of_lt (show _ ≤ 1000 by omega) (by decide)
    obtain ⟨st5, o5⟩ := l4.o.app l4.w (m := (z, ((k : Int), m.1))) t4 g4
    have l5 := l4.ord st5 o5
    have k5 := Kp.stp st5 ⟨by decide, by decide⟩
    rw [show os.map V.ref ++ [V.ref r] = (os ++ [r]).map V.ref from by rw [List.map_append]; rfl]
    generalize upd H4 lo (.lst ((os ++ [r]).map V.ref)) = H5 at st5 l5 k5 ⊢
    walk_at "ev"
    rw [← putNm_app fun m' hm' => by
      obtain ⟨j', hj', e⟩ := List.getElem_of_mem hm'
      exact hno j' m' (by omega) (by rw [List.getElem?_eq_getElem hj', e])] at l5
    exact q H5 T4 _ lies ⟨_, ps, _, l5⟩ p2 (k2.trans (k4.trans k5))
end
def partF : Unit := ()
def S_looksL (X : Cs) : Sp := fun vs H Q E => ∃ wo ll lr ls lo nr, vs = [.ref wo, .ref ll, .ref lr, .ref ls, .ref lo, .int nr] ∧ ∃ T rs M lies g i, St5 X H T wo lr ll ls lo rs M lies g ∧ Q5 M lies g i ∧ i ≤ 100 ∧ ∀ H', Same H H' → Q (.bl true) H'
section
variable {K : PySem.W.Frag} {X : Cs} {rf : Rf → Addr} {H : Hp} {Q : VK} {E : XK} {n : St → Hp → Prop} {bk ct : St → Hp → Prop}
theorem _law_noted_rd {wo ll : Addr} {wk : Bool} {x : Int} (q : ∃ T lr ls lo rs M lies g i, St5 X H T wo lr ll ls lo rs M lies g ∧ Q5 M lies g i ∧ i ≤ 100 ∧ wk = decide (g = 1) ∧ (∃ (k : Nat) (m : Int × Str), x = (k : Int) ∧ lies[k]? = some (some m)) ∧
  ∀ H' T' M' lies', St5 X H' T' wo lr ll ls lo rs M' lies' g → Q5 M' lies' g (i + 1) → Kp H H' T T' → Q (.bl true) H') :
    rd__law_noted K (S_same 3) (S_note X) ⟨n, Q, bk, ct⟩ [some (.ref wo), some (.ref ll), some (.bl wk), some (.int x), none] H := by
  obtain ⟨T, lr, ls, lo, rs, M, lies, g, i, ⟨A, ps, os, l⟩, p, hi, rfl, ⟨k, m, rfl, hm⟩, q⟩ := q
  have hln := p.rl.ln
  have hk := (List.getElem?_eq_some_iff.mp hm).1
  have hgr := p.gr
  obtain ⟨c, hc⟩ : ∃ c, M.cells[k]? = some (some c) := by
    have e1 : M.cells[k]? = some (M.cells[k]'(by omega)) := List.getElem?_eq_getElem (by omega)
    have := p.rl.at_ k _ _ e1 hm
    cases h3 : M.cells[k]'(by omega) with
    | none => rw [h3] at this; exact this.elim
    | some c => exact ⟨c, by rw [e1, h3]⟩
  rcases l.l.get hk with ⟨e1, _⟩ | ⟨m', r, e1, e2, e3, t4, o4⟩
  · rw [hm] at e1; cases e1
  rw [hm] at e1
  cases e1
  unfold rd__law_noted
  walk_at "ev"
  have no : (g = 1 → m.2 ≠ "pale") → ∀ {v : Option V}, tCall (S_same 3) [] E0 (tCons (tCall (S_note X) [] E0 (tCons (tVar 0) (tCons (tVar 3) tNil))) (tCons (tVar 4) tNil)) [some (.ref wo), some (.ref ll), some (.bl (decide (g = 1))), some (.int k), some .non] H Q := by
    intro hn v
    have en := p.noteN hc hm hn
    walk_at "ev"
    refine ⟨_, _, rfl, some (k : Int), rfl, T, 1, A, M, l.w, by decide, l.j, l.aw, fun _ => by omega, fun H1 st1 j1 => ?_⟩
    rw [en] at j1 ⊢
    walk_at "ev"
    refine ⟨_, _, rfl, sm_flat rfl, ?_⟩
    exact q H1 T M lies ⟨A, ps, os, l.deed st1 j1 l.aw⟩ p.mono (Kp.stp st1 ⟨by decide, by decide⟩)
  by_cases hg : g = 1
  · subst hg
    rw [show decide ((1 : Int) = 1) = true from rfl]
    walk_at "ev"
    refine i_ixL (SqL.of l.l.ol) (atI_nat e3) ?_
    walk_at "ev"
    refine i_ixL (SqL.of o4) (atI_nat (j := 1) (v := .str m.2) rfl) ?_
    walk_at "ev"
    refine ifd (fun hy => ?_) (fun hy => ?_)
    · walk_at "ev"
      refine i_ixL (SqL.of l.l.ol) (atI_nat e3) ?_
      walk_at "ev"
      refine i_ixL (SqL.of o4) (atI_nat (j := 0) (v := .int m.1) rfl) ?_
      walk_at "ev"
      refine i_ixL (SqL.of l.l.ol) (atI_nat e3) ?_
      walk_at "ev"
      refine ⟨r, _, _, 1, rfl, rfl, o4, rfl, ?_⟩
      obtain ⟨st1, l1⟩ := l.l.chg l.w (m' := (m.1, "grey")) e2 hm
      have l1' := l.lie st1 l1
      have k1 := Kp.stp st1 ⟨by decide, by decide⟩
      show tRet _ _ _ (upd H r (.lst [.int m.1, .str "grey"]))
      have l1' : L5 X (upd H r (.lst [.int m.1, .str "grey"])) T A M wo lr ll ls lo rs (heldOf M) ps (lies.set k (some (m.1, "grey"))) M.born 1 os M.names := l1'
      have k1 : Kp H (upd H r (.lst [.int m.1, .str "grey"])) T T := k1
      clear st1 l1
      generalize upd H r (.lst [.int m.1, .str "grey"]) = H1 at l1' k1 ⊢
      obtain ⟨M2, en, f1, f2, f3, p2⟩ := p.noteY hc hm hy
      walk_at "ev"
      refine ⟨_, _, rfl, some (k : Int), rfl, T, 1, A, M, l1'.w, by decide, l1'.j, l1'.aw, fun _ => by omega, fun H2 st2 j2 => ?_⟩
      rw [en] at j2 ⊢
      walk_at "ev"
      refine ⟨_, _, rfl, sm_flat rfl, ?_⟩
      exact q H2 T M2 _ ⟨A, ps, os, by rw [f1, f2, f3]; exact l1'.deed st2 j2 l1'.aw⟩ p2 (k1.trans (Kp.stp st2 ⟨by decide, by decide⟩))
    · refine i_next ?_
      refine i_ret ?_
      exact no (fun _ => hy) (v := none)
  · rw [show decide (g = 1) = false from decide_eq_false hg]
    refine i_iteF (i_iteF ?_)
    refine i_next ?_
    refine i_ret ?_
    have := no (fun z => absurd z hg) (v := none)
    rw [show decide (g = 1) = false from decide_eq_false hg] at this
    exact this
theorem _law_looks_rd {wo ll lr ls lo : Addr} {nr : Int} (q : ∃ T rs M lies g i, St5 X H T wo lr ll ls lo rs M lies g ∧ Q5 M lies g i ∧ i ≤ 100 ∧ ∀ H', Same H H' → Q (.bl true) H') :
    rd__law_looks K S_goneL (S_same 3) (S_gone X) (S_held X) ⟨n, Q, bk, ct⟩ [some (.ref wo), some (.ref ll), some (.ref lr), some (.ref ls), some (.ref lo), some (.int nr), none, none] H := by
  obtain ⟨T, rs, M, lies, g, i, ⟨A, ps, os, l⟩, p, hi, q⟩ := q
  have hol := l.o.ln
  have hln := p.rl.ln
  unfold rd__law_looks
  walk_at "ev"
  refine ⟨lo, rfl, ⟨_, SqL.of l.o.ol⟩, forL (os.map V.ref) (fun j σ Hx => ∃ v6 v7, σ = [some (.ref wo), some (.ref ll), some (.ref lr), some (.ref ls), some (.ref lo), some (.int nr), v6, v7] ∧ Hx = H) ⟨_, _, rfl, rfl⟩ (fun _ _ _ _ ⟨_, _, _, z⟩ => by rw [z]; exact SqL.of l.o.ol) ?_ ?_⟩
  · rintro j x σ Hx hj ⟨v6, v7, rfl, rfl⟩
    have hjl := (List.getElem?_eq_some_iff.mp hj).1
    rw [List.length_map] at hjl
    rw [List.getElem?_map] at hj
    obtain ⟨r, hr, rfl⟩ := Option.map_eq_some_iff.mp hj
    obtain ⟨m, hm⟩ : ∃ m, M.names[j]? = some m := ⟨_, List.getElem?_eq_getElem (by omega)⟩
    obtain ⟨tr, o1⟩ := l.o.at_ j r m hr hm
    obtain ⟨m0, m1⟩ := p.np m (List.mem_of_getElem? hm)
    have eg := fun y => p.gone (y := y) m0 m1
    walk_at "ev"
    refine i_ixL (SqL.of o1) (atI_nat (j := 1) (v := .int m.2.1) rfl) ?_
    walk_at "ev"
    refine i_ixL (SqL.of o1) (atI_nat (j := 2) (v := .int m.2.2) rfl) ?_
    walk_at "ev"
    refine ⟨_, _, _, rfl, T, 1, A, M, l.j.w0, l.aw, ?_⟩
    walk_at "ev"
    refine i_ixL (SqL.of o1) (atI_nat (j := 1) (v := .int m.2.1) rfl) ?_
    walk_at "ev"
    refine i_ixL (SqL.of o1) (atI_nat (j := 2) (v := .int m.2.2) rfl) ?_
    walk_at "ev"
    refine ⟨_, _, _, rfl, T, ps, lies, l.l, m0, by omega, ?_⟩
    rw [eg]
    walk_at "ev"
    refine ⟨_, _, rfl, sm_flat rfl, ?_⟩
    walk_at "ev"
    refine i_ixL (SqL.of o1) (atI_nat (j := 2) (v := .int m.2.2) rfl) ?_
    walk_at "ev"
    refine i_ixL (SqL.of o1) (atI_nat (j := 1) (v := .int m.2.1) rfl) ?_
    walk_at "ev"
    refine ⟨_, _, _, rfl, T, 1, A, M, l.j.w0, l.aw, ?_⟩
    walk_at "ev"
    refine i_ixL (SqL.of o1) (atI_nat (j := 1) (v := .int m.2.1) rfl) ?_
    walk_at "ev"
    refine ⟨_, _, _, rfl, T, ps, lies, l.l, m0, by omega, ?_⟩
    rw [eg]
    walk_at "ev"
    refine ⟨_, _, rfl, sm_flat rfl, ?_⟩
    walk_at "ev"
    exact ⟨_, _, rfl, rfl⟩
  · rintro σ Hx ⟨v6, v7, rfl, rfl⟩
    obtain ⟨c1, c2⟩ := p.hlen
    have hh : (heldOf M).length = M.hands.length := by unfold heldOf; rw [List.length_map]
    walk_at "ev"
    refine ⟨wo, rfl, T, 1, A, M, l.j, l.aw, by omega, fun lb lbs H2 s2 n1 h1 h2 nd h3 h4 h5 => ?_⟩
    have l2 := l.same s2
    walk_at "ev"
    refine ⟨.ref lb, .ref lr, rfl, sm_rows h1 l2.r.ol h2 l2.r.ln (by omega) (fun x hx => by rw [c2 x hx]; decide) h5 (fun j r x z1 z2 => (l2.r.at_ j r x z1 z2).2), ?_⟩
    exact q H2 s2
theorem _law_turn_rd {wo ll lr ls lo lx : Addr} {c : Int} (Tx : TxW K X) (q : ∃ T rs M lies g i, ∃ six : List Str, St5 X H T wo lr ll ls lo rs M lies g ∧ Q5 M lies g i ∧ i ≤ 100 ∧ H lx = some (.lst (six.map V.str)) ∧ six.length = 6 ∧
  ∀ H' T' M' lies', St5 X H' T' wo lr ll ls lo rs M' lies' g → Q5 M' lies' g (i + 1) → Kp H H' T T' → Q (.bl true) H') :
    rd__law_turn K X.H (S_Heap_back X.C X.H) (S_makeL X) S_mix (S_namedL X) (S_notedL X) (S_same 3) ⟨n, Q, bk, ct⟩ [some (.ref wo), some (.ref ll), some (.ref lr), some (.ref ls), some (.ref lo), some (.ref lx), some (.int c), none, none, none, none] H := by
  obtain ⟨T, rs, M, lies, g, i, six, ⟨A, ps, os, l⟩, p, hi, ox, l6, q⟩ := q
  have hln := p.rl.ln
  have hpl := l.l.ln
  have stay : Q (.bl true) H := q H T M lies ⟨A, ps, os, l⟩ p.mono (Kp.same (Same.refl _))
  unfold rd__law_turn
  walk_at "ev"
  refine ⟨_, _, rfl, by decide, by decide, fun z1 h1 _ => ?_⟩
  walk_at "ev"
  have w0 := Int.emod_nonneg z1 (show (10 : Int) ≠ 0 by decide)
  have w1 := Int.emod_lt_of_pos z1 (show (0 : Int) < 10 by decide)
  generalize z1 % 10 = w at w0 w1 ⊢
  refine i_ixL (SqL.of l.st) (atI_nat (j := 1) (v := .int g) rfl) ?_
  walk_at "ev"
  have gg := p.g01.1
  have body : ∀ {mk : Str}, (mk = if g = 1 then "dark" else "pale") → (rd__law_turn_t0_3 K X.H (S_Heap_back X.C X.H) (S_makeL X) S_mix (S_namedL X) (S_notedL X) (S_same 3)) ⟨n, Q, bk, ct⟩ [some (.ref wo), some (.ref ll), some (.ref lr), some (.ref ls), some (.ref lo), some (.ref lx), some (.int c), some (.int w), some (.str mk), none, none] H := by
    intro mk hmk
    unfold rd__law_turn_t0_3
    have mk' : S_makeL X [.ref wo, .ref ll, .ref ls, .str mk] H Q E0 := ⟨_, _, _, _, rfl, T, lr, lo, rs, M, lies, g, i, ⟨A, ps, os, l⟩, p, hi, hmk, q⟩
    walk_at "ev"
    refine ifd (fun _ => ?_) (fun w3 => ?_)
    · walk_at "ev"
      exact mk'
    · walk_at "ev"
      refine i_lenL (SqL.of l.l.ol) ?_
      rw [List.length_map, hpl]
      walk_at "ev"
      refine ifd (fun _ => ?_) (fun ln0 => ?_)
      · walk_at "ev"
        exact mk'
      · walk_at "ev"
        refine ⟨_, _, rfl, by decide, by decide, fun z2 h2 _ => ?_⟩
        walk_at "ev"
        refine i_lenL (SqL.of l.l.ol) ?_
        rw [List.length_map, hpl]
        have lp : 0 < (lies.length : Int) := by omega
        walk_at "ev"
        obtain ⟨k, ek⟩ := toN (x := z2 % (lies.length : Int)) (Int.emod_nonneg _ (by omega))
        have hk : k < lies.length := by
          have := Int.emod_lt_of_pos z2 lp
          omega
        rw [ek]
        refine ifd (fun w3' => ?_) (fun w3' => ?_)
        · -- a slot
          have hr0 := Int.emod_nonneg (k : Int) (show (2 : Int) ≠ 0 by decide)
          have hr1 := Int.emod_lt_of_pos (k : Int) (show (0 : Int) < 2 by decide)
          have hs0 := Int.emod_nonneg ((k : Int) / 2) (show (3 : Int) ≠ 0 by decide)
          have hs1 := Int.emod_lt_of_pos ((k : Int) / 2) (show (0 : Int) < 3 by decide)
          obtain ⟨h, eh⟩ := toN hr0
          obtain ⟨s, es⟩ := toN hs0
          obtain ⟨c1, c2⟩ := p.hlen
          obtain ⟨m, hm⟩ : ∃ m, M.hands[h]? = some m := ⟨_, List.getElem?_eq_getElem (by omega)⟩
          have hx1 : (heldOf M)[h]? = some m.2 := by unfold heldOf; rw [List.getElem?_map, hm]; rfl
          have hml := c2 _ (List.mem_of_getElem? hx1)
          obtain ⟨rh, a1, a2, a3⟩ := l.r.get hx1
          walk_at "ev"
          rw [eh]
          refine i_ixL (SqL.of l.r.ol) (atI_nat (v := .ref rh) (by rw [List.getElem?_map, a1]; rfl)) ?_
          walk_at "ev"
          rw [es]
          refine ⟨rh, _, _, s, rfl, rfl, a3, ixN_nat (by rw [List.length_map]; omega), ?_⟩
          obtain ⟨st1, l1⟩ := l.row (k := s) (y := some (k : Int)) a1 hx1
          rw [show V.int (k : Int) = oV (some (k : Int)) from rfl]
          generalize upd H rh (.lst ((m.2.map oV).set s (oV (some (k : Int))))) = H1 at st1 l1 ⊢
          obtain ⟨d1, ow⟩ := l1.j.jb.ow
          rw [l1.aw] at ow
          have hpl2 : h < A.hs.length := by rw [l1.j.jd.lh]; omega
          obtain ⟨pp, hpp⟩ : ∃ pp, A.hs[h]? = some pp := ⟨_, List.getElem?_eq_getElem hpl2⟩
          have hd := l1.j.jd.hd h pp m hpp hm
          obtain ⟨dx, o1⟩ := hd.o1
          rw [show oV (some (k : Int)) = V.int (k : Int) from rfl]
          walk_at "ev"
          refine i_fldK ow Tx.cW Tx.nWd worldF_lk_hands ?_
          walk_at "ev"
          rw [eh]
          refine i_ixL (SqL.of l1.j.jb.on) (atI_nat (v := .ref pp.1) (by rw [List.getElem?_map, hpp]; rfl)) ?_
          refine i_fldK o1 Tx.cD Tx.nDs handF_lk_slots ?_
          walk_at "ev"
          rw [es]
          refine ⟨pp.2, _, _, s, rfl, rfl, hd.o2, ixN_nat (by rw [List.length_map]; omega), ?_⟩
          obtain ⟨st2, j2⟩ := l1.j.slot l1.w (by decide) (k := s) (x := some (k : Int)) hpp hm
          rw [show V.int (k : Int) = oV (some (k : Int)) from rfl]
          generalize upd H1 pp.2 (.lst ((m.2.map oV).set s (oV (some (k : Int))))) = H2 at st2 j2 ⊢
          rw [setSlot_eq hm] at j2
          have l2 := l1.deed st2 j2 l1.aw
          rw [← heldOf_set (k := s) (x := some (k : Int)) hm] at l2
          have fin : Q (.bl true) H2 := q H2 T _ lies ⟨A, ps, os, l2⟩ p.slot.mono ((Kp.stp st1 ⟨by decide, by decide⟩).trans (Kp.stp st2 ⟨by decide, by decide⟩))
          rw [show oV (some (k : Int)) = V.int (k : Int) from rfl]
          walk_at "ev"
          rcases l2.l.get hk with ⟨e1, e2⟩ | ⟨m', r, e1, e2, e3, t4, o4⟩
          · refine i_ixL (SqL.of l2.l.ol) (atI_nat e2) ?_
            walk_at "ev"
            exact fin
          · refine i_ixL (SqL.of l2.l.ol) (atI_nat e3) ?_
            walk_at "ev"
            refine ifd (fun z => absurd z (by omega)) (fun _ => ?_)
            walk_at "ev"
            refine ifd (fun z => absurd z (by omega)) (fun _ => ?_)
            walk_at "ev"
            refine ifd (fun z => absurd z (by omega)) (fun _ => ?_)
            walk_at "ev"
            exact fin
        · walk_at "ev"
          rcases l.l.get hk with ⟨e1, e2⟩ | ⟨m, r, e1, e2, e3, t4, o4⟩
          · refine i_ixL (SqL.of l.l.ol) (atI_nat e2) ?_
            walk_at "ev"
            exact stay
          · refine i_ixL (SqL.of l.l.ol) (atI_nat e3) ?_
            obtain ⟨cc, hc⟩ : ∃ c, M.cells[k]? = some (some c) := by
              have z1 : M.cells[k]? = some (M.cells[k]'(by omega)) := List.getElem?_eq_getElem (by omega)
              have := p.rl.at_ k _ _ z1 e1
              cases h3 : M.cells[k]'(by omega) with
              | none => rw [h3] at this; exact this.elim
              | some c => exact ⟨c, by rw [z1, h3]⟩
            walk_at "ev"
            refine ifd (fun w4 => ?_) (fun w4 => ?_)
            · walk_at "ev"
              refine i_ixL (SqL.of l.l.ol) (atI_nat e3) ?_
              walk_at "ev"
              refine i_ixL (SqL.of o4) (atI_nat (j := 1) (v := .str m.2) rfl) ?_
              walk_at "ev"
              refine ifnd (fun hy => ?_) (fun hy => ?_)
              · walk_at "ev"
                refine i_ixL (SqL.of l.l.ol) (atI_nat e3) ?_
                walk_at "ev"
                refine i_ixL (SqL.of o4) (atI_nat (j := 0) (v := .int m.1) rfl) ?_
                walk_at "ev"
                refine ⟨ll, _, _, k, rfl, rfl, l.l.ol, ixN_nat (by rw [List.length_map]; omega), ?_⟩
                obtain ⟨st1, l1⟩ := l.l.clr l.w k
                have l1' := l.lie st1 l1
                rw [show (ps.map aV).set k V.non = (ps.set k none).map aV from by rw [List.map_set]; rfl]
                generalize upd H ll (.lst ((ps.set k none).map aV)) = H1 at st1 l1 l1' ⊢
                obtain ⟨d1, ow⟩ := l1'.j.jb.ow
                rw [l1'.aw] at ow
                obtain ⟨d3, oh⟩ := l1'.j.jh.oh
                walk_at "ev"
                refine i_fldK ow Tx.cW Tx.nWh worldF_lk_heap ?_
                walk_at "ev"
                refine ⟨A.hp, d3, _, rfl, oh, heapF_no_back, ?_⟩
                walk_at "ev"
                have hbk := p.bk cc (List.mem_of_getElem? hc)
                refine heap_back l1'.j l1'.w (by decide) hc fun H2 A2 st2 j2 aw2 => ?_
                walk_at "ev"
                obtain ⟨b1, _⟩ := p.rl.at_ k _ _ hc e1
                refine ⟨_, _, rfl, by rw [b1]; exact sm_flat rfl, ?_⟩
                exact q H2 T { M with used := M.used - (1 + cc.fl.length + cc.bulk), cells := M.cells.set k none } _ ⟨A2, _, os, l1'.deed st2 j2 (aw2.trans l1'.aw)⟩ (p.back (k := k) (by omega)).mono ((Kp.stp st1 ⟨by decide, by decide⟩).trans (Kp.stp st2 ⟨by decide, by decide⟩))
              · walk_at "ev"
                refine ifd (fun z => absurd z (by omega)) (fun _ => ?_)
                walk_at "ev"
                refine ifd (fun z => absurd z (by omega)) (fun _ => ?_)
                walk_at "ev"
                exact stay
            · walk_at "ev"
              refine ifd (fun w5 => ?_) (fun w5 => ?_)
              · walk_at "ev"
                refine ifd (fun w6 => ?_) (fun w6 => ?_)
                · walk_at "ev"
                  refine ⟨_, _, rfl, by decide, by decide, fun z3 h3 _ => ?_⟩
                  walk_at "ev"
                  obtain ⟨u, eu⟩ := toN (x := z3 % 6) (Int.emod_nonneg _ (by decide))
                  have hu : u < six.length := by
                    have := Int.emod_lt_of_pos z3 (show (0 : Int) < 6 by decide)
                    omega
                  rw [eu]
                  refine i_ixL (SqL.of ox) (atI_nat (v := .str six[u]) (by rw [List.getElem?_map, List.getElem?_eq_getElem hu]; rfl)) ?_
                  walk_at "ev"
                  exact ⟨_, _, _, _, _, rfl, T, lr, ls, rs, M, lies, g, i, ⟨A, ps, os, l⟩, p, hi, ⟨k, m, rfl, e1⟩, q⟩
                · walk_at "ev"
                  refine ifd (fun w7 => ?_) (fun w7 => absurd w7 (by omega))
                  walk_at "ev"
                  refine i_ixL (SqL.of l.st) (atI_nat (j := 1) (v := .int g) rfl) ?_
                  walk_at "ev"
                  exact ⟨_, _, _, _, rfl, T, lr, ls, lo, rs, M, lies, g, i, ⟨A, ps, os, l⟩, p, hi, rfl, ⟨k, m, rfl, e1⟩, q⟩
              · walk_at "ev"
                refine ifd (fun w7 => absurd w7 (by omega)) (fun w7 => ?_)
                walk_at "ev"
                exact stay
  refine ifd (fun g1 => ?_) (fun g1 => ?_)
  · refine i_asg ?_
    refine i_C ?_
    refine i_g8 ?_
    exact body (by rw [if_pos g1])
  · refine i_next ?_
    exact body (by rw [if_neg g1])
end
def partG : Unit := ()
structure E5 (H : Hp) (T : Tg) (lk lx : Addr) (ks : List Addr) (six : List Str) : Prop where
  tk : T lk = (6, 0)
  ok : H lk = some (.lst (ks.map V.ref))
  ke : ∀ r ∈ ks, ∃ f d t, T r = (0, 0) ∧ H r = some (.tup [.ref f, .ref d]) ∧ Rp H T 3 (.ref f) t ∧ Rp H T 3 (.ref d) t
  tx : T lx = (0, 0)
  ox : H lx = some (.lst (six.map V.str))
theorem E5.kp {H H' : Hp} {T T' : Tg} {lk lx : Addr} {ks : List Addr} {six : List Str} (e : E5 H T lk lx ks six) (k : Kp H H' T T') : E5 H' T' lk lx ks six := by
  refine ⟨(k.tg _ _ e.ok).trans e.tk, k.k _ _ e.ok (.inr (by rw [e.tk]; decide)), fun r hr => ?_, (k.tg _ _ e.ox).trans e.tx, k.k _ _ e.ox (.inl (by rw [e.tx]))⟩
  obtain ⟨f, d, t, a1, a2, a3, a4⟩ := e.ke r hr
  exact ⟨f, d, t, (k.tg _ _ a2).trans a1, k.k _ _ a2 (.inl (by rw [a1])), a3.kp k, a4.kp k⟩
theorem St5.same {X : Cs} {H H' : Hp} {T : Tg} {wo lr ll ls lo : Addr} {rs : List Addr} {M : Wm} {lies : Lies} {g : Int} (h : St5 X H T wo lr ll ls lo rs M lies g) (s : Same H H') : St5 X H' T wo lr ll ls lo rs M lies g := by
  obtain ⟨A, ps, os, l⟩ := h
  exact ⟨A, ps, os, l.same s⟩
section
variable {K : PySem.W.Frag} {X : Cs} {rf : Rf → Addr} {H : Hp} {Q : VK} {E : XK} {n : St → Hp → Prop} {bk ct : St → Hp → Prop}
theorem law_turn {a wo lr ll ls lo lk lx : Addr} {T : Tg} {M : Wm} {lies : Lies} {g : Int} {i : Nat} {rs : List Addr} {ks : List Addr} {six : List Str} {bg : Int} {c : Int} {v1 v10 v12 v13 : Option V} {Pn : St → Hp → Prop} (Tx : TxW K X) (l : St5 X H T wo lr ll ls lo rs M lies g) (p : Q5 M lies g i) (e : E5 H T lk lx ks six) (l6 : six.length = 6) (hi : i ≤ 63) (hks : ks.length ≤ i)
    (fin : ∀ H' T' M' lies' ks' v12 v13, St5 X H' T' wo lr ll ls lo rs M' lies' g → Q5 M' lies' g (i + 1) → E5 H' T' lk lx ks' six → ks'.length ≤ i + 1 → (∀ b o, H b = some o → T b = (0, 0) → H' b = some o ∧ T' b = (0, 0)) → Pn [some (.ref a), v1, some (.int bg), some (.ref lx), some (.ref wo), some (.ref ll), some (.ref lr), some (.ref ls), some (.ref lo), some (.ref lk), v10, some (.int c), v12, v13] H') :
    rd_law_t1_1 K (S_looksL X) S_mix S_rowL (S_same 3) (S_turnL X) (S_roots X) ⟨Pn, Q, bk, ct⟩ [some (.ref a), v1, some (.int bg), some (.ref lx), some (.ref wo), some (.ref ll), some (.ref lr), some (.ref ls), some (.ref lo), some (.ref lk), v10, some (.int c), v12, v13] H := by
  unfold rd_law_t1_1
  walk_at "ev"
  refine ⟨_, _, _, _, _, _, _, rfl, T, rs, M, lies, g, i, six, l, p, by omega, e.ox, l6, fun H1 T1 M1 lies1 l1 p1 k1 => ?_⟩
  have e1 := e.kp k1
  have kk1 : ∀ b o, H b = some o → T b = (0, 0) → H1 b = some o ∧ T1 b = (0, 0) := fun b o hb tb => ⟨k1.k _ _ hb (.inl (by rw [tb])), (k1.tg _ _ hb).trans tb⟩
  obtain ⟨A1, ps1, os1, m1⟩ := l1
  obtain ⟨c1, c2⟩ := p1.hlen
  have hnl := p1.nl
  have hhl : (heldOf M1).length = M1.hands.length := by unfold heldOf; rw [List.length_map]
  have lenR : (rootsOf M1).length = 3 := by unfold rootsOf; rw [List.length_append, hhl, c1]; rfl
  have rowR : ∀ x ∈ rootsOf M1, x.length ≤ 1000 := fun x hx => by
    unfold rootsOf at hx
    rcases List.mem_append.mp hx with hx | hx
    · rw [c2 x hx]; decide
    · rw [List.mem_singleton.mp hx]
      unfold rootsRow
      rw [List.length_map]; omega
  walk_at "ev"
  refine ⟨_, rfl, T1, 1, A1, M1, by decide, m1.j, m1.aw, by omega, by omega, fun lf ls2 H2 s2 nlf of2 hl2 nn2 nls2 g2 => ?_⟩
  have m2 := m1.same s2
  have e2 := e1.kp (Kp.same s2)
  have rf2 : Rp H2 T1 3 (.ref lf) (rowsT (rootsOf M1)) := rp_rows (m1.w _ nlf) of2 hl2 (by omega) rowR (fun r hr => m1.w _ (nn2 r hr)) g2
  walk_at "ev"
  refine i_lcg ?_
  walk_at "ev"
  refine ⟨lr, rfl, ⟨_, SqL.of m2.r.ol⟩, ?_⟩
  have hrl := m2.r.ln
  refine lc_newDL (SqL.of m2.r.ol) (by rw [List.length_map]; omega) (fun i r Hx => ∃ x, (heldOf M1)[i]? = some x ∧ Hx r = some (.lst (x.map oV))) (fun _ _ _ _ ⟨x, e, z⟩ s => ⟨x, e, s _ _ z⟩) (fun _ _ _ ⟨_, _, z⟩ => ⟨_, z⟩) (fun x H1 q hq => i_true hq) (fun i x H3 hi s3 q' hq => ?_) ?_
  · rw [List.getElem?_map] at hi
    obtain ⟨r, hr, rfl⟩ := Option.map_eq_some_iff.mp hi
    have hil : i < (heldOf M1).length := by rw [← hrl]; exact (List.getElem?_eq_some_iff.mp hr).1
    obtain ⟨_, o1⟩ := m2.r.at_ i r _ hr (List.getElem?_eq_getElem hil)
    walk_at "caps"
    walk_at "ev"
    refine i_listL (SqL.of (s3 _ _ o1)) fun l hl => ?_
    exact hq l _ (same_new hl _) hl ⟨_, List.getElem?_eq_getElem hil, upd_same⟩
  intro ls3 H3 s3 hl3 nd3 nn3 hr3 la nla
  rw [List.length_map] at hl3
  have s4 := same_new nla (.lst (ls3.map V.ref))
  have g4 : upd H3 la (.lst (ls3.map V.ref)) la = some (.lst (ls3.map V.ref)) := upd_same
  generalize upd H3 la (.lst (ls3.map V.ref)) = H4 at s4 g4 ⊢
  have s24 := s3.trans s4
  have m4 := m2.same s24
  walk_at "ev"
  refine i_ixL (SqL.of m4.st) (atI_nat (j := 1) (v := .int g) rfl) ?_
  walk_at "ev"
  refine ⟨_, _, _, rfl, T1, ps1, lies1, os1, M1.names, m4.l, m4.o, fun m hm => by rw [← p1.rl.ln]; exact p1.np m hm, by omega, fun lz H5 s5 nlz oz => ?_⟩
  rw [← p1.row] at oz
  have s25 := s24.trans s5
  walk_at "ev"
  refine ⟨len_ok (by simp), fun lb nlb => ?_⟩
  have s6 := same_new nlb (.lst [.ref lz])
  have g6 : upd H5 lb (.lst [.ref lz]) lb = some (.lst [.ref lz]) := upd_same
  generalize upd H5 lb (.lst [.ref lz]) = H6 at s6 g6 ⊢
  refine ⟨la, lb, _, _, rfl, rfl, s6 _ _ (s5 _ _ g4), g6, ?_, fun ld nld => ?_⟩
  · rw [List.length_map]
    exact len_ok (by simp; omega)
  have e7 : ls3.map V.ref ++ [V.ref lz] = (ls3 ++ [lz]).map V.ref := by rw [List.map_append]; rfl
  rw [e7]
  have s7 := same_new nld (.lst ((ls3 ++ [lz]).map V.ref))
  have g7 : upd H6 ld (.lst ((ls3 ++ [lz]).map V.ref)) ld = some (.lst ((ls3 ++ [lz]).map V.ref)) := upd_same
  generalize upd H6 ld (.lst ((ls3 ++ [lz]).map V.ref)) = H7 at s7 g7 ⊢
  have s57 := s6.trans s7
  have s27 := s25.trans s57
  have m7 := m2.same s27
  have e8 := e2.kp (Kp.same s27)
  have rf7 := rf2.kp (Kp.same s27)
  have w2 := m2.w
  have fz : H2 lz = none := s24.free nlz
  have rd7 : Rp H7 T1 3 (.ref ld) (rowsT (rootsOf M1)) := by
    refine rp_rows (w2 _ (s25.free (s6.free nld))) g7 (by rw [List.length_append, hl3, lenR, hrl, hhl, c1]; rfl) (by omega) rowR (fun r hr => ?_) fun j r x h1 h2 => ?_
    · rcases List.mem_append.mp hr with hr | hr
      · exact w2 _ (nn3 r hr)
      · rw [List.mem_singleton.mp hr]; exact w2 _ fz
    · unfold rootsOf at h2
      by_cases hj : j < ls3.length
      · rw [List.getElem?_append_left hj] at h1
        rw [List.getElem?_append_left (by omega)] at h2
        obtain ⟨y, h3, z⟩ := hr3 j r h1
        rw [h2] at h3
        cases h3
        exact s57 _ _ (s5 _ _ (s4 _ _ z))
      · have hj2 := (List.getElem?_eq_some_iff.mp h1).1
        rw [List.length_append, List.length_singleton] at hj2
        rw [List.getElem?_append_right (by omega)] at h1 h2
        rw [show j - ls3.length = 0 by omega] at h1
        rw [show j - (heldOf M1).length = 0 by omega] at h2
        cases h1
        cases h2
        exact s57 _ _ oz
  walk_at "ev"
  refine ⟨_, _, rfl, rf7.sm rd7, ?_⟩
  walk_at "ev"
  refine ⟨_, _, rfl, by decide, by decide, fun z9 h9 _ => ?_⟩
  walk_at "ev"
  refine ⟨_, _, _, _, _, _, rfl, T1, rs, M1, lies1, g, i + 1, ⟨A1, ps1, os1, m7⟩, p1, by omega, fun H8 s8 => ?_⟩
  have m8 := m7.same s8
  have e9 := e8.kp (Kp.same s8)
  walk_at "ev"
  refine ⟨.inl ⟨rfl, _, SqL.of e9.ok⟩, ?_⟩
  walk_at "ev"
  refine ⟨len_ok (by simp), fun r nr => ?_⟩
  have s9 := same_new nr (.tup [.ref lf, .ref ld])
  have g9 : upd H8 r (.tup [.ref lf, .ref ld]) r = some (.tup [.ref lf, .ref ld]) := upd_same
  have tr := m8.w _ nr
  generalize upd H8 r (.tup [.ref lf, .ref ld]) = H9 at s9 g9 ⊢
  have s79 := s8.trans s9
  have m9 := m7.same s79
  have e10 := e8.kp (Kp.same s79)
  have rf9 := rf7.kp (Kp.same s79)
  have rd9 := rd7.kp (Kp.same s79)
  walk_at "ev"
  refine ⟨lk, _, _, rfl, rfl, e10.ok, ?_, ?_⟩
  · rw [List.length_map]
    exact Nat.lt_of_le_of_lt (show _ ≤ 1000 by omega) (by decide)
  have st : Stp 6 H9 (upd H9 lk (.lst ((ks ++ [r]).map V.ref))) T1 T1 := Stp.upd m9.w e10.ok (by rw [e10.tk])
  have nk : T1 lk ≠ (0, 0) := by rw [e10.tk]; decide
  have ne6 : ∀ b, T1 b = (0, 0) → b ≠ lk := fun b t z => nk (by rw [← z]; exact t)
  have e11 : E5 (upd H9 lk (.lst ((ks ++ [r]).map V.ref))) T1 lk lx (ks ++ [r]) six := by
    refine ⟨e10.tk, upd_same, fun b hb => ?_, e10.tx, by rw [upd_ne (ne6 _ e10.tx)]; exact e10.ox⟩
    rcases List.mem_append.mp hb with hb | hb
    · obtain ⟨f, d, t, a1, a2, a3, a4⟩ := e10.ke b hb
      exact ⟨f, d, t, a1, by rw [upd_ne (ne6 _ a1)]; exact a2, a3.upd nk ⟨_, e10.ok⟩, a4.upd nk ⟨_, e10.ok⟩⟩
    · rw [List.mem_singleton.mp hb]
      exact ⟨lf, ld, _, tr, by rw [upd_ne (ne6 _ tr)]; exact g9, rf9.upd nk ⟨_, e10.ok⟩, rd9.upd nk ⟨_, e10.ok⟩⟩
  have m11 := m9.six st
  have kk11 : ∀ b o, H b = some o → T b = (0, 0) → upd H9 lk (.lst ((ks ++ [r]).map V.ref)) b = some o ∧ T1 b = (0, 0) := fun b o hb tb => by
    obtain ⟨z1, z2⟩ := kk1 b o hb tb
    exact ⟨by rw [upd_ne (ne6 _ z2)]; exact s79 _ _ (s27 _ _ (s2 _ _ z1)), z2⟩
  rw [show ks.map V.ref ++ [V.ref r] = (ks ++ [r]).map V.ref from by rw [List.map_append]; rfl]
  generalize upd H9 lk (.lst ((ks ++ [r]).map V.ref)) = H11 at e11 m11 kk11 ⊢
  walk_at "ev"
  refine ⟨_, rfl, T1, 1, A1, M1, by decide, m11.j, m11.aw, by omega, by omega, fun lg ls12 H12 s12 nlg og hl12 nn12 nls12 g12 => ?_⟩
  obtain ⟨r2, hr2⟩ : ∃ r2, ls12[2]? = some r2 := ⟨_, List.getElem?_eq_getElem (by omega)⟩
  obtain ⟨x2, hx2⟩ : ∃ x2, (rootsOf M1)[2]? = some x2 := ⟨_, List.getElem?_eq_getElem (by omega)⟩
  have o2 := g12 2 r2 x2 hr2 hx2
  have n2 := nn12 r2 (List.mem_of_getElem? hr2)
  walk_at "ev"
  refine i_ixL (SqL.of og) (atI_nat (j := 2) (v := .ref r2) (by rw [List.getElem?_map, hr2]; rfl)) ?_
  refine ⟨.inl ⟨rfl, _, SqL.of o2⟩, ?_⟩
  walk_at "ev"
  refine ⟨r2, _, _, rfl, rfl, o2, ?_, ?_⟩
  · rw [List.length_map]
    exact Nat.lt_of_le_of_lt (rowR x2 (List.mem_of_getElem? hx2)) (by decide)
  have s13 : Same H11 (upd H12 r2 (.lst (x2.map oV ++ [.int 7]))) := fun b o hb => by rw [upd_ne (ne_of_none hb n2)]; exact s12 _ _ hb
  walk_at "ev"
  exact fin _ T1 M1 lies1 (ks ++ [r]) _ _ ⟨A1, ps1, os1, m11.same s13⟩ p1 (e11.kp (Kp.same s13)) (by rw [List.length_append]; simp; omega) fun b o hb tb => ⟨s13 _ _ (kk11 b o hb tb).1, (kk11 b o hb tb).2⟩
theorem law_loop {a wo lr ll ls lo lk lx : Addr} {T : Tg} {M : Wm} {rs : List Addr} {six : List Str} {ns0 : List Int} {bg : Int} {v1 : Option V} (Tx : TxW K X) (l : St5 X H T wo lr ll ls lo rs M [] 0) (p : Q5 M [] 0 0) (wt : WT H T) (e : E5 H T lk lx [] six) (l6 : six.length = 6) (hb2 : 2 ≤ bg)
    (hS : SqL K H a (ns0.map V.int)) (hlen : ns0.length ≤ 63) (h : ∀ H', Q (.bl true) H') :
    rd_law_t0_9 K (S_looksL X) S_mix S_rowL (S_same 3) (S_turnL X) (S_begin X) (S_roots X) ⟨n, Q, bk, ct⟩ [some (.ref a), v1, some (.int bg), some (.ref lx), some (.ref wo), some (.ref ll), some (.ref lr), some (.ref ls), some (.ref lo), some (.ref lk), none, none, none, none] H := by
  unfold rd_law_t0_9
  walk_at "ev"
  refine ⟨a, _, rfl, hS, fun src hsrc => ?_⟩
  have zints : ∃ zs : List Int, cutV (ns0.map V.int) (some 2) (some 60) = zs.map V.int ∧ zs.length ≤ 63 := by
    refine ⟨(ns0.drop (HT.sIx ns0.length 0 (some 2))).take (HT.sIx ns0.length ns0.length (some 60) - HT.sIx ns0.length 0 (some 2)), ?_, ?_⟩
    · unfold cutV
      rw [List.map_take, List.map_drop, List.length_map]
    · rw [List.length_take, List.length_drop]
      omega
  obtain ⟨zs, ez, lz⟩ := zints
  rw [ez]
  have tsrc := wt _ hsrc
  have s13 := same_new hsrc (.lst (zs.map V.int))
  have g13 : upd H src (.lst (zs.map V.int)) src = some (.lst (zs.map V.int)) := upd_same
  have l13 := l.same s13
  have e13 := e.kp (Kp.same s13)
  generalize upd H src (.lst (zs.map V.int)) = H13 at s13 g13 l13 e13 ⊢
  refine ⟨src, rfl, ⟨_, SqL.of g13⟩, forE (zs.map V.int) (fun i σ Hx => ∃ T M lies g ks v10 v11 v12 v13, σ = [some (.ref a), v1, some (.int bg), some (.ref lx), some (.ref wo), some (.ref ll), some (.ref lr), some (.ref ls), some (.ref lo), some (.ref lk), v10, v11, v12, v13] ∧ St5 X Hx T wo lr ll ls lo rs M lies g ∧ Q5 M lies g i ∧ (g = if bg - 2 < i then 1 else 0) ∧ E5 Hx T lk lx ks six ∧ ks.length ≤ i ∧ Hx src = some (.lst (zs.map V.int)) ∧ T src = (0, 0)) ⟨T, M, [], 0, [], _, _, _, _, rfl, l13, p, by rw [if_neg (by omega)], e13, Nat.le_refl _, g13, tsrc⟩ (fun _ _ _ _ ⟨_, _, _, _, _, _, _, _, _, _, _, _, _, _, _, z, _⟩ => SqL.of z) ?_ ?_⟩
  · rintro i x t σ Hx hi ⟨T, M, lies, g, ks, v10, v11, v12, v13, rfl, l, p, hg, e, hks, os, tso⟩ ht
    have hil := (List.getElem?_eq_some_iff.mp hi).1
    rw [List.length_map] at hil
    obtain ⟨c, hc, rfl⟩ := List.mem_map.mp (List.mem_of_getElem? hi)
    have s1 := same_new ht (.tup [.int i, .int c])
    have g1 : upd Hx t (.tup [.int i, .int c]) t = some (.tup [.int i, .int c]) := upd_same
    generalize upd Hx t (.tup [.int i, .int c]) = H1 at s1 g1 ⊢
    have l1 := l.same s1
    have e1 := e.kp (Kp.same s1)
    have os1 := s1 _ _ os
    refine ⟨t, _, rfl, SqT.of g1, rfl, .int i, _, rfl, ?_⟩
    walk_at "ev"
    refine ⟨.int c, _, rfl, ?_⟩
    walk_at "ev"
    refine ⟨rfl, ?_⟩
    refine i_seq ?_
    walk_at "es"
    refine ifd (fun hb => ?_) (fun hb => ?_)
    · have g0 : g = 0 := by rw [hg, if_neg (by omega)]
      subst g0
      obtain ⟨A, ps, os', m⟩ := l1
      walk_at "ev"
      refine ⟨ls, _, _, 1, rfl, rfl, m.st, rfl, ?_⟩
      obtain ⟨st2, m2⟩ := m.state M.born 1
      show tDrop _ _ _ (upd H1 ls (.lst [.int M.born, .int 1]))
      have k2 := Kp.stp st2 ⟨by decide, by decide⟩
      generalize upd H1 ls (.lst [.int M.born, .int 1]) = H2 at st2 m2 k2 ⊢
      walk_at "ev"
      refine ⟨_, rfl, T, 1, A, M, m2.w, by decide, m2.j, m2.aw, fun H3 T3 A3 st3 j3 aw3 => ?_⟩
      have m3 := m2.deed st3 j3 aw3
      have k3 := k2.trans (Kp.stp st3 ⟨by decide, by decide⟩)
      refine law_turn Tx ⟨A3, ps, os', m3⟩ p.begin (e1.kp k3) l6 (by omega) hks fun H' T' M' lies' ks' v12 v13 l' p' e' hks' kk => ?_
      have z := kk _ _ (k3.k _ _ os1 (.inl (by rw [tso]))) ((k3.tg _ _ os1).trans tso)
      exact ⟨T', M', lies', 1, ks', _, _, v12, v13, rfl, l', p', by rw [if_pos (by push_cast; omega)], e', hks', z.1, z.2⟩
    · refine i_next ?_
      refine law_turn Tx l1 p e1 l6 (by omega) hks fun H' T' M' lies' ks' v12 v13 l' p' e' hks' kk => ?_
      have z := kk _ _ os1 tso
      refine ⟨T', M', lies', g, ks', _, _, v12, v13, rfl, l', p', ?_, e', hks', z.1, z.2⟩
      rw [hg]
      by_cases hh : bg - 2 < i
      · rw [if_pos hh, if_pos (by push_cast; omega)]
      · rw [if_neg hh, if_neg (by push_cast; omega)]
  · rintro σ Hx ⟨T, M, lies, g, ks, v10, v11, v12, v13, rfl, l, p, hg, e, hks, os, tso⟩
    walk_at "ev"
    refine ⟨lk, rfl, ⟨_, SqL.of e.ok⟩, forL (ks.map V.ref) (fun k σ H' => ∃ v12 v13, σ = [some (.ref a), v1, some (.int bg), some (.ref lx), some (.ref wo), some (.ref ll), some (.ref lr), some (.ref ls), some (.ref lo), some (.ref lk), v10, v11, v12, v13] ∧ H' = Hx) ⟨_, _, rfl, rfl⟩ (fun _ _ _ _ ⟨_, _, _, z⟩ => by rw [z]; exact SqL.of e.ok) ?_ ?_⟩
    · rintro k x σ H' hk ⟨v12, v13, rfl, rfl⟩
      obtain ⟨r, hr, rfl⟩ := List.mem_map.mp (List.mem_of_getElem? hk)
      obtain ⟨f, d, t, a1, a2, a3, a4⟩ := e.ke r hr
      refine ⟨r, _, rfl, SqT.of a2, rfl, ?_⟩
      refine ⟨_, _, rfl, ?_⟩
      walk_at "ev"
      refine ⟨_, _, rfl, ?_⟩
      walk_at "ev"
      refine ⟨rfl, ?_⟩
      walk_at "ev"
      refine ⟨_, _, rfl, a3.sm a4, ?_⟩
      walk_at "ev"
      exact ⟨_, _, rfl, rfl⟩
    · rintro σ H' ⟨v12, v13, rfl, rfl⟩
      walk_at "ev"
      exact h _
end
def partH : Unit := ()
section
variable {K : PySem.W.Frag} {X : Cs} {rf : Rf → Addr} {H : Hp} {Q : VK} {E : XK} {n : St → Hp → Prop} {bk ct : St → Hp → Prop}
theorem law_rd {a : Addr} (Tx : TxW K X) (q : ∃ ns : List Int, SqL K H a (ns.map V.int) ∧ ns.length ≤ 63 ∧ ∀ H', Q (.bl true) H') :
    rd_law K X.W (S_World_init X) (S_at K) S_kindL (S_looksL X) S_mix S_names S_rowL (S_same 3) (S_turnL X) (S_begin X) (S_kind_of X) (S_roots X) ⟨n, Q, bk, ct⟩ [some (.ref a), none, none, none, none, none, none, none, none, none, none, none, none, none] H := by
  obtain ⟨ns0, hS, hlen, h⟩ := q
  unfold rd_law
  walk_at "ev"
  refine ⟨a, 0, rfl, ns0, hS, by decide, fun z3 => ?_⟩
  walk_at "ev"
  refine ⟨_, rfl, fun w t H3 w0 w1 t0 t1 s3 => ?_⟩
  walk_at "ev"
  refine ⟨a, 1, rfl, ns0, s3.seq hS, by decide, fun z4 => ?_⟩
  walk_at "ev"
  have hb2 : 2 ≤ 2 + z4 % 48 := by have := Int.emod_nonneg z4 (show (48 : Int) ≠ 0 by decide); omega
  generalize 2 + z4 % 48 = bg at hb2 ⊢
  refine ⟨a, 1, rfl, ns0, s3.seq hS, by decide, fun z5 => ?_⟩
  walk_at "ev"
  refine ⟨_, _, rfl, by decide, fun lx six H3b s3b ox lx6 nlx => ?_⟩
  have lx6 : six.length = 6 := lx6
  have s03 := s3.trans s3b
  walk_at "ev"
  refine ⟨_, rfl, w, t, w0, w1, t0, t1, rfl, fun ki lk H4 s4 nki nlk kd => ?_⟩
  have s04 := s03.trans s4
  have ox := s4 _ _ ox
  walk_at "ev"
  refine ⟨len_ok (by simp), fun ta nta => ?_⟩
  have s5 := same_new nta (.tup [.str "one", .int 3])
  have g5 : upd H4 ta (.tup [.str "one", .int 3]) ta = some (.tup [.str "one", .int 3]) := upd_same
  generalize upd H4 ta (.tup [.str "one", .int 3]) = H5 at s5 g5 ⊢
  walk_at "ev"
  refine ⟨len_ok (by simp), fun tb ntb => ?_⟩
  have s5b := same_new ntb (.tup [.str "two", .int 3])
  have g5b : upd H5 tb (.tup [.str "two", .int 3]) tb = some (.tup [.str "two", .int 3]) := upd_same
  generalize upd H5 tb (.tup [.str "two", .int 3]) = H5b at s5b g5b ⊢
  walk_at "ev"
  refine ⟨len_ok (by simp), fun hl0 nhl0 => ?_⟩
  have s6 := same_new nhl0 (.lst [.ref ta, .ref tb])
  have g6 : upd H5b hl0 (.lst [.ref ta, .ref tb]) hl0 = some (.lst ([ta, tb].map V.ref)) := upd_same
  generalize upd H5b hl0 (.lst [.ref ta, .ref tb]) = H6 at s6 g6 ⊢
  have ota := s6 _ _ (s5b _ _ g5)
  have otb := s6 _ _ g5b
  have kd6 := ((kd.same s5).same s5b).same s6
  have s46 := s5.trans (s5b.trans s6)
  have s06 := s04.trans s46
  have ox := s46 _ _ ox
  walk_at "ev"
  intro wo dx nwo ndx ned
  have s7 : Same H6 (upd (upd H6 dx (.own wo)) wo (.ins X.W dx [])) := fun b o hb => by rw [upd_ne (ne_of_none hb nwo), upd_ne (ne_of_none hb ndx)]; exact hb
  have g7 : upd (upd H6 dx (.own wo)) wo (.ins X.W dx []) wo = some (.ins X.W dx []) := upd_same
  generalize upd (upd H6 dx (.own wo)) wo (.ins X.W dx []) = H7 at s7 g7 ⊢
  have kd7 := kd6.same s7
  have nkw : ki ≠ wo := by
    obtain ⟨⟨_, e⟩, _⟩ := kd6
    exact ne_of_none e nwo
  have nlw : lk ≠ wo := by
    obtain ⟨_, ⟨_, e⟩⟩ := kd6
    rcases e with ⟨_, e⟩ | ⟨_, e⟩ | ⟨_, e⟩
    · exact ne_of_none e nwo
    · exact ne_of_none e nwo
    · exact ne_of_none e nwo
  refine ⟨wo, _, ki, hl0, rfl, dx, fun _ => (0, 0), 1, lk, w, t, [ta, tb], [("one", 3), ("two", 3)], g7, fun _ _ => rfl, by decide, kd7, rfl, rfl, nkw, nlw, s7 _ _ g6, .cons ⟨s7 _ _ ota, by decide, by decide⟩ (.cons ⟨s7 _ _ otb, by decide, by decide⟩ .nil), by decide, fun H8 T8 A8 k8 t8 w8 aw8 j8 => ⟨rfl, ?_⟩⟩
  have s68 : Same H6 H8 := fun b o hb => k8 b o (s7 _ _ hb) (ne_of_none hb nwo)
  have s08 : Same H H8 := s06.trans s68
  have tx8 : T8 lx = (0, 0) := t8 _ _ (s7 _ _ ox) (ne_of_none ox nwo)
  have ox := s68 _ _ ox
  clear k8 t8 s06 s7 g7 kd7 kd6 s6 s5 s5b
  walk_at "ev"
  refine ⟨by decide, fun ll nll => ?_⟩
  have s12 := same_new nll (.lst [])
  have f12 : ∀ b o, H8 b = some o → setT T8 ll (3, 0) b = T8 b := fun b o hb => setT_ne (ne_of_none hb nll)
  have w12 : WT (upd H8 ll (.lst [])) (setT T8 ll (3, 0)) := wt_set (w8.same s12) upd_same
  generalize hM : newW (10 ^ Int.toNat 15) [("one", 3), ("two", 3)] w t = M at j8
  have j12 : WJ X (upd H8 ll (.lst [])) (setT T8 ll (3, 0)) 1 A8 M := j8.fresh nll
  have lw12 : Lw (upd H8 ll (.lst [])) (setT T8 ll (3, 0)) ll [] [] := ⟨setT_same, upd_same, rfl, fun k p c e1 _ => by simp at e1, fun k p c e1 _ => by simp at e1⟩
  have tx12 := (f12 _ _ ox).trans tx8
  have ox := s12 _ _ ox
  have s012 := s08.trans s12
  generalize upd H8 ll (.lst []) = H12 at s12 w12 j12 lw12 s012 ox ⊢
  generalize setT T8 ll (3, 0) = T12 at w12 j12 lw12 tx12
  walk_at "ev"
  refine ⟨by decide, fun r1 nr1 => ?_⟩
  have s9 := same_new nr1 (.lst [V.non, .non, .non])
  have o1 : upd H12 r1 (.lst [V.non, .non, .non]) r1 = some (.lst (List.replicate 3 V.non)) := upd_same
  generalize upd H12 r1 (.lst [V.non, .non, .non]) = H9 at s9 o1 ⊢
  walk_at "ev"
  refine ⟨by decide, fun r2 nr2 => ?_⟩
  have s10 := same_new nr2 (.lst [V.non, .non, .non])
  have o2 : upd H9 r2 (.lst [V.non, .non, .non]) r2 = some (.lst (List.replicate 3 V.non)) := upd_same
  generalize upd H9 r2 (.lst [V.non, .non, .non]) = H10 at s10 o2 ⊢
  walk_at "ev"
  refine ⟨len_ok (by simp), fun lr nlr => ?_⟩
  have s11 := same_new nlr (.lst [.ref r1, .ref r2])
  have g11 : upd H10 lr (.lst [.ref r1, .ref r2]) lr = some (.lst ([r1, r2].map V.ref)) := upd_same
  generalize upd H10 lr (.lst [.ref r1, .ref r2]) = H11 at s11 g11 ⊢
  have o1' := s10 _ _ o1
  have o1'' := s11 _ _ o1'
  have o2' := s11 _ _ o2
  have n12 : r1 ≠ r2 := fun z => by
    rw [← z] at nr2
    rw [nr2] at o1; cases o1
  have s811 : Same H12 H11 := s9.trans (s10.trans s11)
  have hrows : heldOf M = [List.replicate 3 none, List.replicate 3 none] := by rw [← hM]; rfl
  obtain ⟨rw0, w11, tg11⟩ := Rw.init (H := H12) (H' := H11) (T := T12) (lr := lr) (rs := [r1, r2]) (rows := heldOf M) w12 s811 (by simp [n12]) (by
      intro r hr
      simp only [List.mem_cons, List.not_mem_nil, or_false] at hr
      rcases hr with rfl | rfl
      · exact nr1
      · exact s9.free nr2) (s9.free (s10.free nlr)) (by
      intro hr
      simp only [List.mem_cons, List.not_mem_nil, or_false] at hr
      rcases hr with rfl | rfl
      · rw [o1'] at nlr; cases nlr
      · rw [o2] at nlr; cases nlr) g11 (by rw [hrows]; rfl) (by
      intro j r x e1 e2
      rw [hrows] at e2
      match j, e1, e2 with
      | 0, e1, e2 => cases e1; cases e2; rw [o1'']; rfl
      | 1, e1, e2 => cases e1; cases e2; rw [o2']; rfl
      | k + 2, e1, e2 => cases e1)
  have j11 : WJ X H11 (tagR T12 lr [r1, r2]) 1 A8 M := j12.mv ⟨fun b o hb _ _ => s811 _ _ hb, tg11⟩ fun b o hb _ => s811 _ _ hb
  have lw11 : Lw H11 (tagR T12 lr [r1, r2]) ll [] [] := lw12.mv (fun b o hb _ => s811 _ _ hb) tg11
  have tx11 : tagR T12 lr [r1, r2] lx = (0, 0) := (tg11 _ _ ox).trans tx12
  have ox := s811 _ _ ox
  generalize tagR T12 lr [r1, r2] = T11 at rw0 w11 j11 tx11 lw11
  have s011 := s012.trans s811
  clear s811 tg11 s11 g11 o1 o2 o1' o2' o1''
  walk_at "ev"
  refine ⟨by decide, fun ls nls => ?_⟩
  have s13 := same_new nls (.lst [.int 0, .int 0])
  have f13 : ∀ b o, H11 b = some o → setT T11 ls (5, 0) b = T11 b := fun b o hb => setT_ne (ne_of_none hb nls)
  have w13 : WT (upd H11 ls (.lst [.int 0, .int 0])) (setT T11 ls (5, 0)) := wt_set (w11.same s13) upd_same
  have j13 : WJ X (upd H11 ls (.lst [.int 0, .int 0])) (setT T11 ls (5, 0)) 1 A8 M := j11.fresh nls
  have rw2 := rw0.mv (H' := upd H11 ls (.lst [.int 0, .int 0])) (T' := setT T11 ls (5, 0)) (fun b o hb _ => s13 _ _ hb) f13
  have lw13 := lw11.mv (H' := upd H11 ls (.lst [.int 0, .int 0])) (T' := setT T11 ls (5, 0)) (fun b o hb _ => s13 _ _ hb) f13
  have os13 : upd H11 ls (.lst [.int 0, .int 0]) ls = some (.lst [.int 0, .int 0]) := upd_same
  have ts13 : setT T11 ls (5, 0) ls = (5, 0) := setT_same
  have tx13 := (f13 _ _ ox).trans tx11
  have ox := s13 _ _ ox
  have s013 := s011.trans s13
  generalize upd H11 ls (.lst [.int 0, .int 0]) = H13 at s13 w13 j13 rw2 lw13 os13 s013 ox ⊢
  generalize setT T11 ls (5, 0) = T13 at w13 j13 rw2 lw13 ts13 tx13
  walk_at "ev"
  refine ⟨by decide, fun lo nlo => ?_⟩
  have s14 := same_new nlo (.lst [])
  have f14 : ∀ b o, H13 b = some o → setT T13 lo (4, 0) b = T13 b := fun b o hb => setT_ne (ne_of_none hb nlo)
  have l14 : L5 X (upd H13 lo (.lst [])) (setT T13 lo (4, 0)) A8 M wo lr ll ls lo [r1, r2] (heldOf M) [] [] M.born 0 [] M.names := by
    refine ⟨wt_set (w13.same s14) upd_same, j13.fresh nlo, aw8, rw2.mv (fun b o hb _ => s14 _ _ hb) f14, lw13.mv (fun b o hb _ => s14 _ _ hb) f14, (f14 _ _ os13).trans ts13, ?_, ⟨setT_same, upd_same, by rw [← hM]; rfl, fun k p m e1 _ => by simp at e1⟩⟩
    rw [s14 _ _ os13, ← hM]; rfl
  have tx14 := (f14 _ _ ox).trans tx13
  have ox := s14 _ _ ox
  have s014 := s013.trans s14
  generalize upd H13 lo (.lst []) = H14 at s14 l14 s014 ox ⊢
  generalize setT T13 lo (4, 0) = T14 at l14 tx14
  walk_at "es"
  refine ⟨by decide, fun lk' nlk' => ?_⟩
  have l15 := l14.tag (o := .lst []) (v := (6, 0)) nlk'
  have s15 := same_new nlk' (.lst [])
  have e15 : E5 (upd H14 lk' (.lst [])) (setT T14 lk' (6, 0)) lk' lx [] six := ⟨setT_same, upd_same, fun r hr => (nomatch hr), (setT_ne (ne_of_none ox nlk')).trans tx14, s15 _ _ ox⟩
  have s015 := s014.trans s15
  have p0 : Q5 M [] 0 0 := by
    subst hM
    exact ⟨.inl ⟨rfl, rfl, rfl, fun c hc => (nomatch hc)⟩, ⟨rfl, fun k o m e1 _ => by simp [newW] at e1⟩, rfl, by show (0 : Int) ≤ _; omega, Nat.le_refl _, fun c hc => (nomatch hc), ⟨_, _, rfl, rfl, rfl⟩, Nat.le_refl _, List.nodup_nil, fun m hm => (nomatch hm), Nat.le_refl _⟩
  generalize upd H14 lk' (.lst []) = H15 at l15 e15 s015 ⊢
  generalize setT T14 lk' (6, 0) = T15 at l15 e15
  walk_at "es"
  exact law_loop Tx ⟨A8, [], [], l15⟩ p0 l15.w e15 lx6 hb2 (s015.seq hS) hlen h
end

def top (i : Nat) : Stmt := PySem.Challenge.pw_greywalk_k15_gone_and_roots.main.body.getD i (.Pass ⟨0, 0, 0, 0⟩)
abbrev s_Cell___init__ : Stmt := inClass (top 5) 0
abbrev s_Cell_units : Stmt := inClass (top 5) 1
abbrev s_Heap___init__ : Stmt := inClass (top 6) 0
abbrev s_Heap_make : Stmt := inClass (top 6) 1
abbrev s_Heap_lay : Stmt := inClass (top 6) 2
abbrev s_Heap_back : Stmt := inClass (top 6) 3
abbrev s_Heap_free : Stmt := inClass (top 6) 4
abbrev s_cell_at : Stmt := top 7
abbrev s_Hand___init__ : Stmt := inClass (top 9) 0
abbrev s_Sweeper___init__ : Stmt := inClass (top 10) 0
abbrev s_World___init__ : Stmt := inClass (top 11) 0
abbrev s_held : Stmt := top 12
abbrev s_has_sense : Stmt := top 13
abbrev s_is_walking : Stmt := top 14
abbrev s_begin : Stmt := top 15
abbrev s_note : Stmt := top 16
abbrev s_gone : Stmt := top 17
abbrev s_roots : Stmt := top 18
abbrev s_root_of : Stmt := top 19
abbrev s_all_of : Stmt := top 23
abbrev s_Looking_at_begin : Stmt := inClass (top 24) 2
abbrev s_First_word : Stmt := inClass (top 25) 0
abbrev s_First_at_begin : Stmt := inClass (top 25) 2
abbrev s_Each_word : Stmt := inClass (top 26) 0
abbrev s_Last_word : Stmt := inClass (top 27) 0
abbrev s_Kind___init__ : Stmt := inClass (top 28) 0
abbrev s_Kind_words : Stmt := inClass (top 28) 2
abbrev s_kind_of : Stmt := top 29
abbrev s__law_mix : Stmt := top 31
abbrev s__law_cell_at : Stmt := top 32
abbrev s__law_names : Stmt := top 33
abbrev s__law_same : Stmt := top 34
abbrev s__law_kind : Stmt := top 35
abbrev s__law_least : Stmt := top 36
abbrev s__law_make : Stmt := top 37
abbrev s__law_named : Stmt := top 38
abbrev s__law_noted : Stmt := top 39
abbrev s__law_turn : Stmt := top 40
abbrev s__law_gone : Stmt := top 41
abbrev s__law_row : Stmt := top 42
abbrev s__law_looks : Stmt := top 43
abbrev s_law : Stmt := top 44
structure Hh (P : Program) (w : World) (K : PySem.W.Frag) (mg : Str → Option Value) (base : Heap) (n : Nat) (f : Addr) (fd : FuncData) (ps : List Str) (sp : Sp) : Prop where
  g : FnOk P w K mg base (G.CXe P w) n f fd ps sp
  b : Binds K fd ps []
  k : PySem.W.keepIn K (.ref f) = true
theorem hh {P : Program} {w : World} {K : PySem.W.Frag} {mg : Str → Option Value} {base : Heap} {n : Nat} {f : Addr} {fd : FuncData} {ps : List Str} {sp : Sp} (g : FnOk P w K mg base (G.CXe P w) n f fd ps sp) (b : Binds K fd ps []) (k : PySem.W.keepIn K (.ref f) = true) : Hh P w K mg base n f fd ps sp := ⟨g, b, k⟩
abbrev Fn5 (P : Program) (w : World) (K : PySem.W.Frag) (mg : Str → Option Value) (base : Heap) (n : Nat) (f : Addr) (fd : FuncData) (ps : List Str) (sp : Sp) : Prop := FnOk P w K mg base (G.CXe P w) n f fd ps sp
theorem pcl {X : Cx} {n k : Nat} {f : Addr} {fd : FuncData} {ps : List Str} {sp : Sp} {x : Str} {e : Expr} {es : List Expr} {t : TA} {p pos : Pos} (g0 : Hh X.prog X.w X.K X.mg X.base n f fd ps sp) (hr : Room k X.A) (hm : X.mg x = some (.ref f)) (ha : PA X (e :: es) t) (hn : n ≤ k := by decide) (hg : X.env.kindOf x = some .globalImplicit := by rfl) (hdb : (x == ("__debug__" : Str)) = false := by decide) (he : starEach (e :: es) X.env = (false, eval e X.env) :: starEach es X.env := by rfl) (hpl : (backTo pos (starEach es X.env)).any (·.1) = false := by rfl) : PE X (.Call (.Name x p) (e :: es) [] pos) (tCall sp [] E0 t) := pe_call g0.g (hr.mono hn) hg hm g0.k g0.b .nil G.passE0 ha hdb he hpl
theorem mkSc {N P : List Str} {sc : Scope} (a : sc.kind = .function := by rfl) (b : sc.isCoroutine = false := by rfl) (c : sc.isGenerator = false := by rfl) (d : N.Nodup := by decide +kernel) (e : N.take P.length = P := by rfl) (f : ∀ x ∈ P, sc.names.lookup x = some .local ∨ sc.names.lookup x = some .cell := by decide +kernel) (g : ∀ y ∈ sc.names, y.2 ≠ .free := by decide +kernel) : FnScope N P sc := ⟨a, b, c, d, e, f, g⟩
structure Txt (K : PySem.W.Frag) (mg : Str → Option Value) (C_Cell C_Heap C_Hand C_Sweeper C_World C_First C_Each C_Last C_Kind C_Full f_Cell___init__ f_Cell_units f_Heap___init__ f_Heap_make f_Heap_lay f_Heap_back f_Heap_free f_cell_at f_Hand___init__ f_Sweeper___init__ f_World___init__ f_held f_has_sense f_is_walking f_begin f_note f_gone f_roots f_root_of f_all_of f_Looking_at_begin f_First_word f_First_at_begin f_Each_word f_Last_word f_Kind___init__ f_Kind_words f_kind_of f__law_mix f__law_cell_at f__law_names f__law_same f__law_kind f__law_least f__law_make f__law_named f__law_noted f__law_turn f__law_gone f__law_row f__law_looks : Addr) : Prop where
  cl_Cell : Cls K C_Cell
  m_Cell : mg "Cell" = some (.ref C_Cell)
  mk_Cell : Mk K C_Cell f_Cell___init__
  n_Cell_birth : NoAttr K C_Cell "birth"
  n_Cell_bulk : NoAttr K C_Cell "bulk"
  n_Cell_tone : NoAttr K C_Cell "tone"
  n_Cell_load : NoAttr K C_Cell "load"
  n_Cell_fields : NoAttr K C_Cell "fields"
  eq_Cell : G.EqD K C_Cell
  cl_Heap : Cls K C_Heap
  m_Heap : mg "Heap" = some (.ref C_Heap)
  mk_Heap : Mk K C_Heap f_Heap___init__
  n_Heap_room : NoAttr K C_Heap "room"
  n_Heap_cells : NoAttr K C_Heap "cells"
  n_Heap_used : NoAttr K C_Heap "used"
  n_Heap_born : NoAttr K C_Heap "born"
  cl_Hand : Cls K C_Hand
  m_Hand : mg "Hand" = some (.ref C_Hand)
  mk_Hand : Mk K C_Hand f_Hand___init__
  n_Hand_name : NoAttr K C_Hand "name"
  n_Hand_slots : NoAttr K C_Hand "slots"
  cl_Sweeper : Cls K C_Sweeper
  m_Sweeper : mg "Sweeper" = some (.ref C_Sweeper)
  mk_Sweeper : Mk K C_Sweeper f_Sweeper___init__
  n_Sweeper_sense : NoAttr K C_Sweeper "sense"
  n_Sweeper_phase : NoAttr K C_Sweeper "phase"
  n_Sweeper_grey : NoAttr K C_Sweeper "grey"
  n_Sweeper_looked : NoAttr K C_Sweeper "looked"
  n_Sweeper_turn : NoAttr K C_Sweeper "turn"
  n_Sweeper_at : NoAttr K C_Sweeper "at"
  n_Sweeper_stop : NoAttr K C_Sweeper "stop"
  n_Sweeper_walks : NoAttr K C_Sweeper "walks"
  n_Sweeper_looks : NoAttr K C_Sweeper "looks"
  n_Sweeper_passes : NoAttr K C_Sweeper "passes"
  n_Sweeper_loss : NoAttr K C_Sweeper "loss"
  cl_World : Cls K C_World
  m_World : mg "World" = some (.ref C_World)
  mk_World : Mk K C_World f_World___init__
  n_World_heap : NoAttr K C_World "heap"
  n_World_kind : NoAttr K C_World "kind"
  n_World_hands : NoAttr K C_World "hands"
  n_World_names : NoAttr K C_World "names"
  n_World_sweeper : NoAttr K C_World "sweeper"
  cl_First : Cls K C_First
  m_First : mg "First" = some (.ref C_First)
  mk0_First : G.Mk0 K C_First
  cl_Each : Cls K C_Each
  m_Each : mg "Each" = some (.ref C_Each)
  mk0_Each : G.Mk0 K C_Each
  cl_Last : Cls K C_Last
  m_Last : mg "Last" = some (.ref C_Last)
  mk0_Last : G.Mk0 K C_Last
  cl_Kind : Cls K C_Kind
  m_Kind : mg "Kind" = some (.ref C_Kind)
  mk_Kind : Mk K C_Kind f_Kind___init__
  n_Kind_looking : NoAttr K C_Kind "looking"
  n_Kind_tells : NoAttr K C_Kind "tells"
  m_Full : mg "Full" = some (.ref C_Full)
  x_Full : G.ExcK K C_Full
  me_Each_at_begin : Meth K C_Each "at_begin" f_Looking_at_begin
  me_Last_at_begin : Meth K C_Last "at_begin" f_Looking_at_begin
  me_Cell___init__ : Meth K C_Cell "__init__" f_Cell___init__
  me_Cell_units : Meth K C_Cell "units" f_Cell_units
  me_Heap___init__ : Meth K C_Heap "__init__" f_Heap___init__
  me_Heap_make : Meth K C_Heap "make" f_Heap_make
  me_Heap_lay : Meth K C_Heap "lay" f_Heap_lay
  me_Heap_back : Meth K C_Heap "back" f_Heap_back
  me_Heap_free : Meth K C_Heap "free" f_Heap_free
  m_cell_at : mg "cell_at" = some (.ref f_cell_at)
  me_Hand___init__ : Meth K C_Hand "__init__" f_Hand___init__
  me_Sweeper___init__ : Meth K C_Sweeper "__init__" f_Sweeper___init__
  me_World___init__ : Meth K C_World "__init__" f_World___init__
  m_held : mg "held" = some (.ref f_held)
  m_has_sense : mg "has_sense" = some (.ref f_has_sense)
  m_is_walking : mg "is_walking" = some (.ref f_is_walking)
  m_begin : mg "begin" = some (.ref f_begin)
  m_note : mg "note" = some (.ref f_note)
  m_gone : mg "gone" = some (.ref f_gone)
  m_roots : mg "roots" = some (.ref f_roots)
  m_root_of : mg "root_of" = some (.ref f_root_of)
  m_all_of : mg "all_of" = some (.ref f_all_of)
  me_Looking_at_begin : Meth K C_Each "at_begin" f_Looking_at_begin
  me_First_word : Meth K C_First "word" f_First_word
  me_First_at_begin : Meth K C_First "at_begin" f_First_at_begin
  me_Each_word : Meth K C_Each "word" f_Each_word
  me_Last_word : Meth K C_Last "word" f_Last_word
  me_Kind___init__ : Meth K C_Kind "__init__" f_Kind___init__
  me_Kind_words : Meth K C_Kind "words" f_Kind_words
  m_kind_of : mg "kind_of" = some (.ref f_kind_of)
  m__law_mix : mg "_law_mix" = some (.ref f__law_mix)
  m__law_cell_at : mg "_law_cell_at" = some (.ref f__law_cell_at)
  m__law_names : mg "_law_names" = some (.ref f__law_names)
  m__law_same : mg "_law_same" = some (.ref f__law_same)
  m__law_kind : mg "_law_kind" = some (.ref f__law_kind)
  m__law_least : mg "_law_least" = some (.ref f__law_least)
  m__law_make : mg "_law_make" = some (.ref f__law_make)
  m__law_named : mg "_law_named" = some (.ref f__law_named)
  m__law_noted : mg "_law_noted" = some (.ref f__law_noted)
  m__law_turn : mg "_law_turn" = some (.ref f__law_turn)
  m__law_gone : mg "_law_gone" = some (.ref f__law_gone)
  m__law_row : mg "_law_row" = some (.ref f__law_row)
  m__law_looks : mg "_law_looks" = some (.ref f__law_looks)
  z_bool : mg "bool" = none
  z_enumerate : mg "enumerate" = none
  z_int : mg "int" = none
  z_isinstance : mg "isinstance" = none
  z_len : mg "len" = none
  z_list : mg "list" = none
  z_range : mg "range" = none
  z_str : mg "str" = none
  z_tuple : mg "tuple" = none
  g_NEW : G.GC mg "NEW" (.int 2)
  g_OLD : G.GC mg "OLD" (.int 1)
abbrev p_Cell___init__ : List Str := ["self", "birth", "many", "bulk", "tone"]
abbrev p_Heap___init__ : List Str := ["self", "room"]
abbrev p_Heap_make : List Str := ["self", "many", "bulk", "tone"]
abbrev p_Heap_lay : List Str := ["self", "cell"]
abbrev p_Heap_back : List Str := ["self", "place"]
abbrev p_cell_at : List Str := ["heap", "place"]
abbrev p_Hand___init__ : List Str := ["self", "name", "many"]
abbrev p_World___init__ : List Str := ["self", "room", "kind", "hands"]
abbrev p_has_sense : List Str := ["world", "cell"]
abbrev p_note : List Str := ["world", "place"]
abbrev p_gone : List Str := ["world", "place", "birth"]
abbrev p_root_of : List Str := ["world", "place", "birth"]
abbrev p_Looking_at_begin : List Str := ["self", "hands"]
abbrev p_First_at_begin : List Str := ["self", "hands"]
abbrev p_Kind___init__ : List Str := ["self", "looking", "tells"]
abbrev p__law_mix : List Str := ["_law_cell", "_law_factor"]
abbrev p__law_cell_at : List Str := ["_law_script", "_law_k"]
abbrev p__law_names : List Str := ["_law_cell", "_law_many"]
abbrev p__law_same : List Str := ["_law_found", "_law_due"]
abbrev p__law_kind : List Str := ["_law_cell"]
abbrev p__law_least : List Str := ["_law_lies"]
abbrev p__law_make : List Str := ["_law_world", "_law_lies", "_law_state", "_law_mark"]
abbrev p__law_named : List Str := ["_law_world", "_law_lies", "_law_order", "_law_word", "_law_place"]
abbrev p__law_noted : List Str := ["_law_world", "_law_lies", "_law_walking", "_law_place"]
abbrev p__law_turn : List Str := ["_law_world", "_law_lies", "_law_rows", "_law_state", "_law_order", "_law_words", "_law_cell"]
abbrev p__law_gone : List Str := ["_law_lies", "_law_place", "_law_birth"]
abbrev p__law_row : List Str := ["_law_lies", "_law_order", "_law_walking"]
abbrev p__law_looks : List Str := ["_law_world", "_law_lies", "_law_rows", "_law_state", "_law_order", "_law_near"]
theorem sc_Cell___init__ : FnScope ["self", "birth", "many", "bulk", "tone"] p_Cell___init__ (defScope s_Cell___init__) := mkSc
theorem sc_Cell_units : FnScope ["self"] ["self"] (defScope s_Cell_units) := mkSc
theorem sc_Heap___init__ : FnScope ["self", "room"] p_Heap___init__ (defScope s_Heap___init__) := mkSc
theorem sc_Heap_make : FnScope ["self", "many", "bulk", "tone", "cell"] p_Heap_make (defScope s_Heap_make) := mkSc
theorem sc_Heap_lay : FnScope ["self", "cell", "place"] p_Heap_lay (defScope s_Heap_lay) := mkSc
theorem sc_Heap_back : FnScope ["self", "place", "cell"] p_Heap_back (defScope s_Heap_back) := mkSc
theorem sc_Heap_free : FnScope ["self"] ["self"] (defScope s_Heap_free) := mkSc
theorem sc_cell_at : FnScope ["heap", "place"] p_cell_at (defScope s_cell_at) := mkSc
theorem sc_Hand___init__ : FnScope ["self", "name", "many"] p_Hand___init__ (defScope s_Hand___init__) := mkSc
theorem sc_Sweeper___init__ : FnScope ["self"] ["self"] (defScope s_Sweeper___init__) := mkSc
theorem sc_World___init__ : FnScope ["self", "room", "kind", "hands"] p_World___init__ (defScope s_World___init__) := mkSc
theorem sc_held : FnScope ["world"] ["world"] (defScope s_held) := mkSc
theorem sc_has_sense : FnScope ["world", "cell"] p_has_sense (defScope s_has_sense) := mkSc
theorem sc_is_walking : FnScope ["world"] ["world"] (defScope s_is_walking) := mkSc
theorem sc_begin : FnScope ["world", "sweeper"] ["world"] (defScope s_begin) := mkSc
theorem sc_note : FnScope ["world", "place", "sweeper", "cell"] p_note (defScope s_note) := mkSc
theorem sc_gone : FnScope ["world", "place", "birth", "cell"] p_gone (defScope s_gone) := mkSc
theorem sc_roots : FnScope ["world"] ["world"] (defScope s_roots) := mkSc
theorem sc_root_of : FnScope ["world", "place", "birth"] p_root_of (defScope s_root_of) := mkSc
theorem sc_all_of : FnScope ["hands"] ["hands"] (defScope s_all_of) := mkSc
theorem sc_Looking_at_begin : FnScope ["self", "hands"] p_Looking_at_begin (defScope s_Looking_at_begin) := mkSc
theorem sc_First_word : FnScope ["self"] ["self"] (defScope s_First_word) := mkSc
theorem sc_First_at_begin : FnScope ["self", "hands"] p_First_at_begin (defScope s_First_at_begin) := mkSc
theorem sc_Each_word : FnScope ["self"] ["self"] (defScope s_Each_word) := mkSc
theorem sc_Last_word : FnScope ["self"] ["self"] (defScope s_Last_word) := mkSc
theorem sc_Kind___init__ : FnScope ["self", "looking", "tells"] p_Kind___init__ (defScope s_Kind___init__) := mkSc
theorem sc_Kind_words : FnScope ["self", "text"] ["self"] (defScope s_Kind_words) := mkSc
theorem sc_kind_of : FnScope ["text", "looking", "tells", "kind"] ["text"] (defScope s_kind_of) := mkSc
theorem sc__law_mix : FnScope ["_law_cell", "_law_factor", "_law_mixed"] p__law_mix (defScope s__law_mix) := mkSc
theorem sc__law_cell_at : FnScope ["_law_script", "_law_k"] p__law_cell_at (defScope s__law_cell_at) := mkSc
theorem sc__law_names : FnScope ["_law_cell", "_law_many", "_law_letters", "_law_size", "_law_word", "_law_k", "_law_at", "_law_start", "_law_words", "_law_one"] p__law_names (defScope s__law_names) := mkSc
theorem sc__law_same : FnScope ["_law_found", "_law_due", "_law_k"] p__law_same (defScope s__law_same) := mkSc
theorem sc__law_kind : FnScope ["_law_cell", "_law_word"] p__law_kind (defScope s__law_kind) := mkSc
theorem sc__law_least : FnScope ["_law_lies", "_law_place"] p__law_least (defScope s__law_least) := mkSc
theorem sc__law_make : FnScope ["_law_world", "_law_lies", "_law_state", "_law_mark", "_law_place", "_law_due"] p__law_make (defScope s__law_make) := mkSc
theorem sc__law_named : FnScope ["_law_world", "_law_lies", "_law_order", "_law_word", "_law_place", "_law_one"] p__law_named (defScope s__law_named) := mkSc
theorem sc__law_noted : FnScope ["_law_world", "_law_lies", "_law_walking", "_law_place", "_law_due"] p__law_noted (defScope s__law_noted) := mkSc
theorem sc__law_turn : FnScope ["_law_world", "_law_lies", "_law_rows", "_law_state", "_law_order", "_law_words", "_law_cell", "_law_what", "_law_mark", "_law_place", "_law_due"] p__law_turn (defScope s__law_turn) := mkSc
theorem sc__law_gone : FnScope ["_law_lies", "_law_place", "_law_birth"] p__law_gone (defScope s__law_gone) := mkSc
theorem sc__law_row : FnScope ["_law_lies", "_law_order", "_law_walking", "_law_row_here", "_law_one"] p__law_row (defScope s__law_row) := mkSc
theorem sc__law_looks : FnScope ["_law_world", "_law_lies", "_law_rows", "_law_state", "_law_order", "_law_near", "_law_one", "_law_birth"] p__law_looks (defScope s__law_looks) := mkSc
theorem sc_law : FnScope ["_law_script", "_law_word", "_law_begun", "_law_words", "_law_world", "_law_lies", "_law_rows", "_law_state", "_law_order", "_law_kept", "_law_k", "_law_cell", "_law_found", "_law_due"] ["_law_script"] (defScope s_law) := mkSc
section
variable (P : Program) {w : World} {K : PySem.W.Frag} {mg : Str → Option Value} (base : Heap) {C_Full f_Cell___init__ f_Cell_units f_Heap___init__ f_Heap_make f_Heap_lay f_Heap_back f_Heap_free f_cell_at f_Hand___init__ f_Sweeper___init__ f_World___init__ f_held f_has_sense f_is_walking f_begin f_note f_gone f_roots f_root_of f_all_of f_Looking_at_begin f_First_word f_First_at_begin f_Each_word f_Last_word f_Kind___init__ f_Kind_words f_kind_of f__law_mix f__law_cell_at f__law_names f__law_same f__law_kind f__law_least f__law_make f__law_named f__law_noted f__law_turn f__law_gone f__law_row f__law_looks : Addr} (XQ : Cs) (T : Txt K mg XQ.C XQ.H XQ.D XQ.S XQ.W XQ.F XQ.E XQ.L XQ.K C_Full f_Cell___init__ f_Cell_units f_Heap___init__ f_Heap_make f_Heap_lay f_Heap_back f_Heap_free f_cell_at f_Hand___init__ f_Sweeper___init__ f_World___init__ f_held f_has_sense f_is_walking f_begin f_note f_gone f_roots f_root_of f_all_of f_Looking_at_begin f_First_word f_First_at_begin f_Each_word f_Last_word f_Kind___init__ f_Kind_words f_kind_of f__law_mix f__law_cell_at f__law_names f__law_same f__law_kind f__law_least f__law_make f__law_named f__law_noted f__law_turn f__law_gone f__law_row f__law_looks)
include T
theorem ok_Cell___init__ {fd : FuncData} (F : Fun K "__init__" "Cell.__init__" s_Cell___init__ f_Cell___init__ fd) : Fn5 P w K mg base 1 f_Cell___init__ fd p_Cell___init__ (S_Cell_init XQ.C) := by
  have sc := sc_Cell___init__
  have tx : TxW K XQ := ⟨⟨T.cl_Cell, T.n_Cell_birth, T.n_Cell_bulk, T.n_Cell_tone, T.n_Cell_load, T.n_Cell_fields, T.cl_Heap, T.n_Heap_room, T.n_Heap_cells, T.n_Heap_used, T.n_Heap_born, T.eq_Cell⟩, T.cl_World, T.n_World_heap, T.n_World_kind, T.n_World_hands, T.n_World_names, T.n_World_sweeper, T.cl_Hand, T.n_Hand_name, T.n_Hand_slots, T.cl_Kind, T.n_Kind_looking, T.n_Kind_tells, T.cl_Sweeper, T.n_Sweeper_sense, T.n_Sweeper_phase, T.n_Sweeper_grey, T.n_Sweeper_looked, T.n_Sweeper_turn, T.n_Sweeper_at, T.n_Sweeper_stop, T.n_Sweeper_walks, T.n_Sweeper_looks, T.n_Sweeper_passes, T.n_Sweeper_loss⟩
  refine G.fok F sc (fun vs H Q E h => ?_) (fun cdv A outer s H vs Q E hr h => ?_)
  · obtain ⟨z0, z1, z2, z3, z4, rfl, q⟩ := h; rfl
  · refine ⟨rd_Cell___init__ K, (pss_cons (ps_fld (pv 0) (pv 1) rfl)
      (pss_cons (ps_fld (pv 0) (pv 3) rfl)
      (pss_cons (ps_fld (pv 0) (pv 4) rfl)
      (pss_cons (ps_fld (pv 0) (pe_int) rfl)
      (pss_one (ps_fld (pv 0) (pe_op op_rep (pe_lst (pa_cons (pe_non) pa_nil)) (pv 2)) rfl)))))), ?_⟩
    obtain ⟨z0, z1, z2, z3, z4, rfl, q⟩ := h
    exact Cell___init___rd tx.c q
theorem ok_Cell_units {fd : FuncData} (F : Fun K "units" "Cell.units" s_Cell_units f_Cell_units fd) : Fn5 P w K mg base 1 f_Cell_units fd ["self"] (S_Cell_units XQ.C) := by
  have sc := sc_Cell_units
  have tx : TxW K XQ := ⟨⟨T.cl_Cell, T.n_Cell_birth, T.n_Cell_bulk, T.n_Cell_tone, T.n_Cell_load, T.n_Cell_fields, T.cl_Heap, T.n_Heap_room, T.n_Heap_cells, T.n_Heap_used, T.n_Heap_born, T.eq_Cell⟩, T.cl_World, T.n_World_heap, T.n_World_kind, T.n_World_hands, T.n_World_names, T.n_World_sweeper, T.cl_Hand, T.n_Hand_name, T.n_Hand_slots, T.cl_Kind, T.n_Kind_looking, T.n_Kind_tells, T.cl_Sweeper, T.n_Sweeper_sense, T.n_Sweeper_phase, T.n_Sweeper_grey, T.n_Sweeper_looked, T.n_Sweeper_turn, T.n_Sweeper_at, T.n_Sweeper_stop, T.n_Sweeper_walks, T.n_Sweeper_looks, T.n_Sweeper_passes, T.n_Sweeper_loss⟩
  refine G.fok F sc (fun vs H Q E h => ?_) (fun cdv A outer s H vs Q E hr h => ?_)
  · obtain ⟨z0, rfl, q⟩ := h; rfl
  · refine ⟨rd_Cell_units K, (pss_one (ps_ret (pe_op op_add (pe_op op_add (pe_int) (pe_callB G.call_lenL (by rfl) T.z_len G.boot_len (pa_cons (pe_fld (pv 0) rfl) pa_nil))) (pe_fld (pv 0) rfl)))), ?_⟩
    obtain ⟨z0, rfl, q⟩ := h
    exact Cell_units_rd tx.c q
theorem ok_Heap___init__ {fd : FuncData} (F : Fun K "__init__" "Heap.__init__" s_Heap___init__ f_Heap___init__ fd) : Fn5 P w K mg base 1 f_Heap___init__ fd p_Heap___init__ (S_Heap_init XQ.H) := by
  have sc := sc_Heap___init__
  have tx : TxW K XQ := ⟨⟨T.cl_Cell, T.n_Cell_birth, T.n_Cell_bulk, T.n_Cell_tone, T.n_Cell_load, T.n_Cell_fields, T.cl_Heap, T.n_Heap_room, T.n_Heap_cells, T.n_Heap_used, T.n_Heap_born, T.eq_Cell⟩, T.cl_World, T.n_World_heap, T.n_World_kind, T.n_World_hands, T.n_World_names, T.n_World_sweeper, T.cl_Hand, T.n_Hand_name, T.n_Hand_slots, T.cl_Kind, T.n_Kind_looking, T.n_Kind_tells, T.cl_Sweeper, T.n_Sweeper_sense, T.n_Sweeper_phase, T.n_Sweeper_grey, T.n_Sweeper_looked, T.n_Sweeper_turn, T.n_Sweeper_at, T.n_Sweeper_stop, T.n_Sweeper_walks, T.n_Sweeper_looks, T.n_Sweeper_passes, T.n_Sweeper_loss⟩
  refine G.fok F sc (fun vs H Q E h => ?_) (fun cdv A outer s H vs Q E hr h => ?_)
  · obtain ⟨z0, z1, rfl, q⟩ := h; rfl
  · refine ⟨rd_Heap___init__ K, (pss_cons (ps_fld (pv 0) (pv 1) rfl)
      (pss_cons (ps_fld (pv 0) (pe_lst pa_nil) rfl)
      (pss_cons (ps_fld (pv 0) (pe_int) rfl)
      (pss_one (ps_fld (pv 0) (pe_int) rfl))))), ?_⟩
    obtain ⟨z0, z1, rfl, q⟩ := h
    exact Heap___init___rd tx.c q
theorem ok_Heap_make {fd : FuncData} (F : G.FunD K "make" "Heap.make" s_Heap_make f_Heap_make fd) {fd_Cell___init__ : FuncData} (G_Cell___init__ : Hh P w K mg base 1 f_Cell___init__ fd_Cell___init__ p_Cell___init__ (S_Cell_init XQ.C)) {fd_Cell_units : FuncData} (G_Cell_units : Hh P w K mg base 1 f_Cell_units fd_Cell_units ["self"] (S_Cell_units XQ.C)) {fd_Heap_free : FuncData} (G_Heap_free : Hh P w K mg base 1 f_Heap_free fd_Heap_free ["self"] (S_Heap_free XQ.H)) {fd_Heap_lay : FuncData} (G_Heap_lay : Hh P w K mg base 1 f_Heap_lay fd_Heap_lay p_Heap_lay (S_Heap_lay K XQ.H)) : Fn5 P w K mg base 3 f_Heap_make fd p_Heap_make (S_Heap_make K XQ.C XQ.H C_Full) := by
  have sc := sc_Heap_make
  have tx : TxW K XQ := ⟨⟨T.cl_Cell, T.n_Cell_birth, T.n_Cell_bulk, T.n_Cell_tone, T.n_Cell_load, T.n_Cell_fields, T.cl_Heap, T.n_Heap_room, T.n_Heap_cells, T.n_Heap_used, T.n_Heap_born, T.eq_Cell⟩, T.cl_World, T.n_World_heap, T.n_World_kind, T.n_World_hands, T.n_World_names, T.n_World_sweeper, T.cl_Hand, T.n_Hand_name, T.n_Hand_slots, T.cl_Kind, T.n_Kind_looking, T.n_Kind_tells, T.cl_Sweeper, T.n_Sweeper_sense, T.n_Sweeper_phase, T.n_Sweeper_grey, T.n_Sweeper_looked, T.n_Sweeper_turn, T.n_Sweeper_at, T.n_Sweeper_stop, T.n_Sweeper_walks, T.n_Sweeper_looks, T.n_Sweeper_passes, T.n_Sweeper_loss⟩
  refine G.fokDX F sc (fun vs H Q E h => ?_) (fun cdv A outer s H vs Q E hr h => ?_)
  · obtain ⟨z0, z1, z2, z3, rfl, q⟩ := h; rfl
  · refine ⟨rd_Heap_make K XQ.C C_Full XQ.H (S_Cell_init XQ.C) (S_Cell_units XQ.C) (S_Heap_free XQ.H) (S_Heap_lay K XQ.H) E, (pss_cons (ps_set (i := 4) sc.nd rfl (Or.inl rfl) (pe_make T.mk_Cell G_Cell___init__.g (hr.mono (by decide)) rfl T.m_Cell G_Cell___init__.b .nil G.passE0 (pa_cons (pe_op op_add (pe_fld (pv 0) rfl) (pe_int)) (pa_cons (pv 1) (pa_cons (pv 2) (pa_cons (pv 3) pa_nil))))))
      (pss_cons (ps_if (pt_cmpR op_gt (pe_meth0 (pv 4) T.cl_Cell T.me_Cell_units G_Cell_units.g (hr.mono (by decide)) G_Cell_units.b .nil G.passE0) (pe_meth0 (pv 0) T.cl_Heap T.me_Heap_free G_Heap_free.g (hr.mono (by decide)) G_Heap_free.b .nil G.passE0) (nomark _)) (pss_one (G.ps_raise rfl rfl T.m_Full T.x_Full (pa_cons (pe_str) pa_nil) (fun _ _ _ _ _ _ _ I hx hE => G.raiseL I hx hE))) pss_nil)
      (pss_cons (ps_fld (pv 0) (pe_fld (pv 4) rfl) rfl)
      (pss_cons (ps_fld (pv 0) (pe_op op_add (pe_fld (pv 0) rfl) (pe_meth0 (pv 4) T.cl_Cell T.me_Cell_units G_Cell_units.g (hr.mono (by decide)) G_Cell_units.b .nil G.passE0)) rfl)
      (pss_one (ps_ret (pe_meth (pv 0) T.cl_Heap T.me_Heap_lay G_Heap_lay.g (hr.mono (by decide)) G_Heap_lay.b .nil G.passE0 (pa_cons (pv 4) pa_nil)))))))), ?_⟩
    obtain ⟨z0, z1, z2, z3, rfl, q⟩ := h
    exact Heap_make_rd tx.c q
theorem ok_Heap_lay {fd : FuncData} (F : Fun K "lay" "Heap.lay" s_Heap_lay f_Heap_lay fd) : Fn5 P w K mg base 1 f_Heap_lay fd p_Heap_lay (S_Heap_lay K XQ.H) := by
  have sc := sc_Heap_lay
  have tx : TxW K XQ := ⟨⟨T.cl_Cell, T.n_Cell_birth, T.n_Cell_bulk, T.n_Cell_tone, T.n_Cell_load, T.n_Cell_fields, T.cl_Heap, T.n_Heap_room, T.n_Heap_cells, T.n_Heap_used, T.n_Heap_born, T.eq_Cell⟩, T.cl_World, T.n_World_heap, T.n_World_kind, T.n_World_hands, T.n_World_names, T.n_World_sweeper, T.cl_Hand, T.n_Hand_name, T.n_Hand_slots, T.cl_Kind, T.n_Kind_looking, T.n_Kind_tells, T.cl_Sweeper, T.n_Sweeper_sense, T.n_Sweeper_phase, T.n_Sweeper_grey, T.n_Sweeper_looked, T.n_Sweeper_turn, T.n_Sweeper_at, T.n_Sweeper_stop, T.n_Sweeper_walks, T.n_Sweeper_looks, T.n_Sweeper_passes, T.n_Sweeper_loss⟩
  refine G.fok F sc (fun vs H Q E h => ?_) (fun cdv A outer s H vs Q E hr h => ?_)
  · obtain ⟨z0, z1, rfl, q⟩ := h; rfl
  · refine ⟨rd_Heap_lay K, (pss_cons (ps_if (pt_cmpR (G.op_notInN (hu_of hr)) (pe_non) (pe_fld (pv 0) rfl) (by with_unfolding_all rfl)) (pss_cons (ps_expr (pe_bm PySem.F.plainAttrs_list PySem.F.slot_list_append PySem.F.type_list_append mt_append (pe_fld (pv 0) rfl) (pa_cons (pv 1) pa_nil)))
      (pss_one (ps_ret (pe_op op_sub (pe_callB G.call_lenL (by rfl) T.z_len G.boot_len (pa_cons (pe_fld (pv 0) rfl) pa_nil)) (pe_int))))) pss_nil)
      (pss_cons (ps_set (i := 2) sc.nd rfl (Or.inl rfl) (pe_bm PySem.F.plainAttrs_list PySem.F.slot_list_index PySem.F.type_list_index (G.mt_indexN (hu_of hr)) (pe_fld (pv 0) rfl) (pa_cons (pe_non) pa_nil)))
      (pss_cons (ps_asg (pv 1) (pg_sub (pe_fld (pv 0) rfl) (pv 2) set_list))
      (pss_one (ps_ret (pv 2)))))), ?_⟩
    obtain ⟨z0, z1, rfl, q⟩ := h
    exact Heap_lay_rd tx.c q
theorem ok_Heap_back {fd : FuncData} (F : Fun K "back" "Heap.back" s_Heap_back f_Heap_back fd) {fd_Cell_units : FuncData} (G_Cell_units : Hh P w K mg base 1 f_Cell_units fd_Cell_units ["self"] (S_Cell_units XQ.C)) : Fn5 P w K mg base 2 f_Heap_back fd p_Heap_back (S_Heap_back XQ.C XQ.H) := by
  have sc := sc_Heap_back
  have tx : TxW K XQ := ⟨⟨T.cl_Cell, T.n_Cell_birth, T.n_Cell_bulk, T.n_Cell_tone, T.n_Cell_load, T.n_Cell_fields, T.cl_Heap, T.n_Heap_room, T.n_Heap_cells, T.n_Heap_used, T.n_Heap_born, T.eq_Cell⟩, T.cl_World, T.n_World_heap, T.n_World_kind, T.n_World_hands, T.n_World_names, T.n_World_sweeper, T.cl_Hand, T.n_Hand_name, T.n_Hand_slots, T.cl_Kind, T.n_Kind_looking, T.n_Kind_tells, T.cl_Sweeper, T.n_Sweeper_sense, T.n_Sweeper_phase, T.n_Sweeper_grey, T.n_Sweeper_looked, T.n_Sweeper_turn, T.n_Sweeper_at, T.n_Sweeper_stop, T.n_Sweeper_walks, T.n_Sweeper_looks, T.n_Sweeper_passes, T.n_Sweeper_loss⟩
  refine G.fok F sc (fun vs H Q E h => ?_) (fun cdv A outer s H vs Q E hr h => ?_)
  · obtain ⟨z0, z1, rfl, q⟩ := h; rfl
  · refine ⟨rd_Heap_back K XQ.C (S_Cell_units XQ.C), (pss_cons (ps_set (i := 2) sc.nd rfl (Or.inl rfl) (pe_ix ix_list (pe_fld (pv 0) rfl) (pv 1) (fun _ _ => rfl)))
      (pss_cons (ps_fld (pv 0) (pe_op op_sub (pe_fld (pv 0) rfl) (pe_meth0 (pv 2) T.cl_Cell T.me_Cell_units G_Cell_units.g (hr.mono (by decide)) G_Cell_units.b .nil G.passE0)) rfl)
      (pss_cons (ps_asg (pe_non) (pg_sub (pe_fld (pv 0) rfl) (pv 1) set_list))
      (pss_one (ps_ret (pe_fld (pv 2) rfl)))))), ?_⟩
    obtain ⟨z0, z1, rfl, q⟩ := h
    exact Heap_back_rd tx.c q
theorem ok_Heap_free {fd : FuncData} (F : Fun K "free" "Heap.free" s_Heap_free f_Heap_free fd) : Fn5 P w K mg base 1 f_Heap_free fd ["self"] (S_Heap_free XQ.H) := by
  have sc := sc_Heap_free
  have tx : TxW K XQ := ⟨⟨T.cl_Cell, T.n_Cell_birth, T.n_Cell_bulk, T.n_Cell_tone, T.n_Cell_load, T.n_Cell_fields, T.cl_Heap, T.n_Heap_room, T.n_Heap_cells, T.n_Heap_used, T.n_Heap_born, T.eq_Cell⟩, T.cl_World, T.n_World_heap, T.n_World_kind, T.n_World_hands, T.n_World_names, T.n_World_sweeper, T.cl_Hand, T.n_Hand_name, T.n_Hand_slots, T.cl_Kind, T.n_Kind_looking, T.n_Kind_tells, T.cl_Sweeper, T.n_Sweeper_sense, T.n_Sweeper_phase, T.n_Sweeper_grey, T.n_Sweeper_looked, T.n_Sweeper_turn, T.n_Sweeper_at, T.n_Sweeper_stop, T.n_Sweeper_walks, T.n_Sweeper_looks, T.n_Sweeper_passes, T.n_Sweeper_loss⟩
  refine G.fok F sc (fun vs H Q E h => ?_) (fun cdv A outer s H vs Q E hr h => ?_)
  · obtain ⟨z0, rfl, q⟩ := h; rfl
  · refine ⟨rd_Heap_free K, (pss_one (ps_ret (pe_op op_sub (pe_fld (pv 0) rfl) (pe_fld (pv 0) rfl)))), ?_⟩
    obtain ⟨z0, rfl, q⟩ := h
    exact Heap_free_rd tx.c q
theorem ok_cell_at {fd : FuncData} (F : Fun K "cell_at" "cell_at" s_cell_at f_cell_at fd) : Fn5 P w K mg base 1 f_cell_at fd p_cell_at (S_cell_at XQ.H) := by
  have sc := sc_cell_at
  have tx : TxW K XQ := ⟨⟨T.cl_Cell, T.n_Cell_birth, T.n_Cell_bulk, T.n_Cell_tone, T.n_Cell_load, T.n_Cell_fields, T.cl_Heap, T.n_Heap_room, T.n_Heap_cells, T.n_Heap_used, T.n_Heap_born, T.eq_Cell⟩, T.cl_World, T.n_World_heap, T.n_World_kind, T.n_World_hands, T.n_World_names, T.n_World_sweeper, T.cl_Hand, T.n_Hand_name, T.n_Hand_slots, T.cl_Kind, T.n_Kind_looking, T.n_Kind_tells, T.cl_Sweeper, T.n_Sweeper_sense, T.n_Sweeper_phase, T.n_Sweeper_grey, T.n_Sweeper_looked, T.n_Sweeper_turn, T.n_Sweeper_at, T.n_Sweeper_stop, T.n_Sweeper_walks, T.n_Sweeper_looks, T.n_Sweeper_passes, T.n_Sweeper_loss⟩
  refine G.fok F sc (fun vs H Q E h => ?_) (fun cdv A outer s H vs Q E hr h => ?_)
  · obtain ⟨z0, z1, rfl, q⟩ := h; rfl
  · refine ⟨rd_cell_at K, (pss_cons (ps_if (PW.pt (pw_or (pt_cmpR G.op_isN_ (pv 1) (pe_non) (nomark _)) (pw_or (pt_cmpR op_lt (pv 1) (pe_int) (nomark _)) (pw_or1 (pt_cmpR op_ge (pv 1) (pe_callB G.call_lenL (by rfl) T.z_len G.boot_len (pa_cons (pe_fld (pv 0) rfl) pa_nil)) (nomark _)))))) (pss_one (ps_ret (pe_non))) pss_nil)
      (pss_one (ps_ret (pe_ix ix_list (pe_fld (pv 0) rfl) (pv 1) (fun _ _ => rfl))))), ?_⟩
    obtain ⟨z0, z1, rfl, q⟩ := h
    exact cell_at_rd tx q
theorem ok_Hand___init__ {fd : FuncData} (F : Fun K "__init__" "Hand.__init__" s_Hand___init__ f_Hand___init__ fd) : Fn5 P w K mg base 1 f_Hand___init__ fd p_Hand___init__ (S_Hand_init XQ.D) := by
  have sc := sc_Hand___init__
  have tx : TxW K XQ := ⟨⟨T.cl_Cell, T.n_Cell_birth, T.n_Cell_bulk, T.n_Cell_tone, T.n_Cell_load, T.n_Cell_fields, T.cl_Heap, T.n_Heap_room, T.n_Heap_cells, T.n_Heap_used, T.n_Heap_born, T.eq_Cell⟩, T.cl_World, T.n_World_heap, T.n_World_kind, T.n_World_hands, T.n_World_names, T.n_World_sweeper, T.cl_Hand, T.n_Hand_name, T.n_Hand_slots, T.cl_Kind, T.n_Kind_looking, T.n_Kind_tells, T.cl_Sweeper, T.n_Sweeper_sense, T.n_Sweeper_phase, T.n_Sweeper_grey, T.n_Sweeper_looked, T.n_Sweeper_turn, T.n_Sweeper_at, T.n_Sweeper_stop, T.n_Sweeper_walks, T.n_Sweeper_looks, T.n_Sweeper_passes, T.n_Sweeper_loss⟩
  refine G.fok F sc (fun vs H Q E h => ?_) (fun cdv A outer s H vs Q E hr h => ?_)
  · obtain ⟨z0, z1, z2, rfl, q⟩ := h; rfl
  · refine ⟨rd_Hand___init__ K, (pss_cons (ps_fld (pv 0) (pv 1) rfl)
      (pss_one (ps_fld (pv 0) (pe_op op_rep (pe_lst (pa_cons (pe_non) pa_nil)) (pv 2)) rfl))), ?_⟩
    obtain ⟨z0, z1, z2, rfl, q⟩ := h
    exact Hand___init___rd tx q
theorem ok_Sweeper___init__ {fd : FuncData} (F : Fun K "__init__" "Sweeper.__init__" s_Sweeper___init__ f_Sweeper___init__ fd) : Fn5 P w K mg base 1 f_Sweeper___init__ fd ["self"] (S_Sweeper_init XQ.S) := by
  have sc := sc_Sweeper___init__
  have tx : TxW K XQ := ⟨⟨T.cl_Cell, T.n_Cell_birth, T.n_Cell_bulk, T.n_Cell_tone, T.n_Cell_load, T.n_Cell_fields, T.cl_Heap, T.n_Heap_room, T.n_Heap_cells, T.n_Heap_used, T.n_Heap_born, T.eq_Cell⟩, T.cl_World, T.n_World_heap, T.n_World_kind, T.n_World_hands, T.n_World_names, T.n_World_sweeper, T.cl_Hand, T.n_Hand_name, T.n_Hand_slots, T.cl_Kind, T.n_Kind_looking, T.n_Kind_tells, T.cl_Sweeper, T.n_Sweeper_sense, T.n_Sweeper_phase, T.n_Sweeper_grey, T.n_Sweeper_looked, T.n_Sweeper_turn, T.n_Sweeper_at, T.n_Sweeper_stop, T.n_Sweeper_walks, T.n_Sweeper_looks, T.n_Sweeper_passes, T.n_Sweeper_loss⟩
  refine G.fok F sc (fun vs H Q E h => ?_) (fun cdv A outer s H vs Q E hr h => ?_)
  · obtain ⟨z0, rfl, q⟩ := h; rfl
  · refine ⟨rd_Sweeper___init__ K, (pss_cons (ps_fld (pv 0) (pe_int) rfl)
      (pss_cons (ps_fld (pv 0) (pe_str) rfl)
      (pss_cons (ps_fld (pv 0) (pe_lst pa_nil) rfl)
      (pss_cons (ps_fld (pv 0) (pe_int) rfl)
      (pss_cons (ps_fld (pv 0) (pe_int) rfl)
      (pss_cons (ps_fld (pv 0) (pe_int) rfl)
      (pss_cons (ps_fld (pv 0) (pe_int) rfl)
      (pss_cons (ps_fld (pv 0) (pe_int) rfl)
      (pss_cons (ps_fld (pv 0) (pe_int) rfl)
      (pss_cons (ps_fld (pv 0) (pe_int) rfl)
      (pss_one (ps_fld (pv 0) (pe_non) rfl)))))))))))), ?_⟩
    obtain ⟨z0, rfl, q⟩ := h
    exact Sweeper___init___rd tx q
theorem ok_World___init__ {fd : FuncData} (F : Fun K "__init__" "World.__init__" s_World___init__ f_World___init__ fd) {fd_Hand___init__ : FuncData} (G_Hand___init__ : Hh P w K mg base 1 f_Hand___init__ fd_Hand___init__ p_Hand___init__ (S_Hand_init XQ.D)) {fd_Heap___init__ : FuncData} (G_Heap___init__ : Hh P w K mg base 1 f_Heap___init__ fd_Heap___init__ p_Heap___init__ (S_Heap_init XQ.H)) {fd_Sweeper___init__ : FuncData} (G_Sweeper___init__ : Hh P w K mg base 1 f_Sweeper___init__ fd_Sweeper___init__ ["self"] (S_Sweeper_init XQ.S)) : Fn5 P w K mg base 3 f_World___init__ fd p_World___init__ (S_World_init XQ) := by
  have sc := sc_World___init__
  have tx : TxW K XQ := ⟨⟨T.cl_Cell, T.n_Cell_birth, T.n_Cell_bulk, T.n_Cell_tone, T.n_Cell_load, T.n_Cell_fields, T.cl_Heap, T.n_Heap_room, T.n_Heap_cells, T.n_Heap_used, T.n_Heap_born, T.eq_Cell⟩, T.cl_World, T.n_World_heap, T.n_World_kind, T.n_World_hands, T.n_World_names, T.n_World_sweeper, T.cl_Hand, T.n_Hand_name, T.n_Hand_slots, T.cl_Kind, T.n_Kind_looking, T.n_Kind_tells, T.cl_Sweeper, T.n_Sweeper_sense, T.n_Sweeper_phase, T.n_Sweeper_grey, T.n_Sweeper_looked, T.n_Sweeper_turn, T.n_Sweeper_at, T.n_Sweeper_stop, T.n_Sweeper_walks, T.n_Sweeper_looks, T.n_Sweeper_passes, T.n_Sweeper_loss⟩
  refine G.fok F sc (fun vs H Q E h => ?_) (fun cdv A outer s H vs Q E hr h => ?_)
  · obtain ⟨z0, z1, z2, z3, rfl, q⟩ := h; rfl
  · refine ⟨rd_World___init__ K XQ.D XQ.H XQ.S (S_Hand_init XQ.D) (S_Heap_init XQ.H) (S_Sweeper_init XQ.S), (pss_cons (ps_fld (pv 0) (pe_make T.mk_Heap G_Heap___init__.g (hr.mono (by decide)) rfl T.m_Heap G_Heap___init__.b .nil G.passE0 (pa_cons (pv 1) pa_nil)) rfl)
      (pss_cons (ps_fld (pv 0) (pv 2) rfl)
      (pss_cons (ps_fld (pv 0) (G.pe_lc2 (cns := []) [] (pi_list (pv 3)) (fun _ _ _ _ _ => G.pf_nil) (fun _ _ _ _ _ => (pe_make T.mk_Hand G_Hand___init__.g (hr.mono (by decide)) rfl T.m_Hand G_Hand___init__.b .nil G.passE0 (pa_cons (pv 0) (pa_cons (pv 1) pa_nil)))) rfl rfl (by repeat (first | exact trivial | refine ⟨rfl, ?_⟩)) (by repeat (first | exact trivial | refine ⟨rfl, ?_⟩)) rfl (by decide +kernel) rfl (by decide +kernel) (by decide +kernel) rfl rfl (by decide +kernel)) rfl)
      (pss_cons (ps_fld (pv 0) (pe_dnewK) rfl)
      (pss_one (ps_fld (pv 0) (pe_make0 T.mk_Sweeper G_Sweeper___init__.g (hr.mono (by decide)) rfl T.m_Sweeper G_Sweeper___init__.b .nil G.passE0) rfl)))))), ?_⟩
    obtain ⟨z0, z1, z2, z3, rfl, q⟩ := h
    exact World___init___rd tx q
theorem ok_held {fd : FuncData} (F : Fun K "held" "held" s_held f_held fd) : Fn5 P w K mg base 1 f_held fd ["world"] (S_held XQ) := by
  have sc := sc_held
  have tx : TxW K XQ := ⟨⟨T.cl_Cell, T.n_Cell_birth, T.n_Cell_bulk, T.n_Cell_tone, T.n_Cell_load, T.n_Cell_fields, T.cl_Heap, T.n_Heap_room, T.n_Heap_cells, T.n_Heap_used, T.n_Heap_born, T.eq_Cell⟩, T.cl_World, T.n_World_heap, T.n_World_kind, T.n_World_hands, T.n_World_names, T.n_World_sweeper, T.cl_Hand, T.n_Hand_name, T.n_Hand_slots, T.cl_Kind, T.n_Kind_looking, T.n_Kind_tells, T.cl_Sweeper, T.n_Sweeper_sense, T.n_Sweeper_phase, T.n_Sweeper_grey, T.n_Sweeper_looked, T.n_Sweeper_turn, T.n_Sweeper_at, T.n_Sweeper_stop, T.n_Sweeper_walks, T.n_Sweeper_looks, T.n_Sweeper_passes, T.n_Sweeper_loss⟩
  refine G.fok F sc (fun vs H Q E h => ?_) (fun cdv A outer s H vs Q E hr h => ?_)
  · obtain ⟨z0, rfl, q⟩ := h; rfl
  · refine ⟨rd_held K, (pss_one (ps_ret (G.pe_lc (cns := []) [] (pi_list (pe_fld (pv 0) rfl)) (fun _ _ _ _ _ => G.pf_nil) (fun _ _ _ _ _ => (pe_callTy G.call_listL (by rfl) T.z_list G.boot_list (pa_cons (pe_fld (pv 0) rfl) pa_nil))) rfl rfl (by repeat (first | exact trivial | refine ⟨rfl, ?_⟩)) (by repeat (first | exact trivial | refine ⟨rfl, ?_⟩)) rfl (by decide +kernel) rfl (by decide +kernel) (by decide +kernel) rfl (by decide +kernel)))), ?_⟩
    obtain ⟨z0, rfl, q⟩ := h
    exact held_rd tx q
theorem ok_has_sense {fd : FuncData} (F : Fun K "has_sense" "has_sense" s_has_sense f_has_sense fd) : Fn5 P w K mg base 1 f_has_sense fd p_has_sense (S_has_sense XQ) := by
  have sc := sc_has_sense
  have tx : TxW K XQ := ⟨⟨T.cl_Cell, T.n_Cell_birth, T.n_Cell_bulk, T.n_Cell_tone, T.n_Cell_load, T.n_Cell_fields, T.cl_Heap, T.n_Heap_room, T.n_Heap_cells, T.n_Heap_used, T.n_Heap_born, T.eq_Cell⟩, T.cl_World, T.n_World_heap, T.n_World_kind, T.n_World_hands, T.n_World_names, T.n_World_sweeper, T.cl_Hand, T.n_Hand_name, T.n_Hand_slots, T.cl_Kind, T.n_Kind_looking, T.n_Kind_tells, T.cl_Sweeper, T.n_Sweeper_sense, T.n_Sweeper_phase, T.n_Sweeper_grey, T.n_Sweeper_looked, T.n_Sweeper_turn, T.n_Sweeper_at, T.n_Sweeper_stop, T.n_Sweeper_walks, T.n_Sweeper_looks, T.n_Sweeper_passes, T.n_Sweeper_loss⟩
  refine G.fok F sc (fun vs H Q E h => ?_) (fun cdv A outer s H vs Q E hr h => ?_)
  · obtain ⟨z0, z1, rfl, q⟩ := h; rfl
  · refine ⟨rd_has_sense K, (pss_one (ps_ret (pe_cmpR op_eq (pe_fld (pv 1) rfl) (pe_fld (pe_fld (pv 0) rfl) rfl) (nomark _)))), ?_⟩
    obtain ⟨z0, z1, rfl, q⟩ := h
    exact has_sense_rd tx q
theorem ok_is_walking {fd : FuncData} (F : Fun K "is_walking" "is_walking" s_is_walking f_is_walking fd) : Fn5 P w K mg base 1 f_is_walking fd ["world"] (S_is_walking XQ) := by
  have sc := sc_is_walking
  have tx : TxW K XQ := ⟨⟨T.cl_Cell, T.n_Cell_birth, T.n_Cell_bulk, T.n_Cell_tone, T.n_Cell_load, T.n_Cell_fields, T.cl_Heap, T.n_Heap_room, T.n_Heap_cells, T.n_Heap_used, T.n_Heap_born, T.eq_Cell⟩, T.cl_World, T.n_World_heap, T.n_World_kind, T.n_World_hands, T.n_World_names, T.n_World_sweeper, T.cl_Hand, T.n_Hand_name, T.n_Hand_slots, T.cl_Kind, T.n_Kind_looking, T.n_Kind_tells, T.cl_Sweeper, T.n_Sweeper_sense, T.n_Sweeper_phase, T.n_Sweeper_grey, T.n_Sweeper_looked, T.n_Sweeper_turn, T.n_Sweeper_at, T.n_Sweeper_stop, T.n_Sweeper_walks, T.n_Sweeper_looks, T.n_Sweeper_passes, T.n_Sweeper_loss⟩
  refine G.fok F sc (fun vs H Q E h => ?_) (fun cdv A outer s H vs Q E hr h => ?_)
  · obtain ⟨z0, rfl, q⟩ := h; rfl
  · refine ⟨rd_is_walking K, (pss_one (ps_ret (pe_cmpR op_in_seq (pe_fld (pe_fld (pv 0) rfl) rfl) (pe_tup (pa_cons (pe_str) (pa_cons (pe_str) pa_nil))) (by with_unfolding_all rfl)))), ?_⟩
    obtain ⟨z0, rfl, q⟩ := h
    exact is_walking_rd tx q
theorem ok_begin {fd : FuncData} (F : Fun K "begin" "begin" s_begin f_begin fd) {fd_First_at_begin : FuncData} (G_First_at_begin : Hh P w K mg base 2 f_First_at_begin fd_First_at_begin p_First_at_begin (S_at_begin 0)) {fd_Looking_at_begin : FuncData} (G_Looking_at_begin : Hh P w K mg base 1 f_Looking_at_begin fd_Looking_at_begin p_Looking_at_begin (S_at_begin 1)) : Fn5 P w K mg base 3 f_begin fd ["world"] (S_begin XQ) := by
  have sc := sc_begin
  have tx : TxW K XQ := ⟨⟨T.cl_Cell, T.n_Cell_birth, T.n_Cell_bulk, T.n_Cell_tone, T.n_Cell_load, T.n_Cell_fields, T.cl_Heap, T.n_Heap_room, T.n_Heap_cells, T.n_Heap_used, T.n_Heap_born, T.eq_Cell⟩, T.cl_World, T.n_World_heap, T.n_World_kind, T.n_World_hands, T.n_World_names, T.n_World_sweeper, T.cl_Hand, T.n_Hand_name, T.n_Hand_slots, T.cl_Kind, T.n_Kind_looking, T.n_Kind_tells, T.cl_Sweeper, T.n_Sweeper_sense, T.n_Sweeper_phase, T.n_Sweeper_grey, T.n_Sweeper_looked, T.n_Sweeper_turn, T.n_Sweeper_at, T.n_Sweeper_stop, T.n_Sweeper_walks, T.n_Sweeper_looks, T.n_Sweeper_passes, T.n_Sweeper_loss⟩
  refine G.fok F sc (fun vs H Q E h => ?_) (fun cdv A outer s H vs Q E hr h => ?_)
  · obtain ⟨z0, rfl, q⟩ := h; rfl
  · refine ⟨rd_begin K XQ.E XQ.F XQ.L (S_at_begin 0) (S_at_begin 1), (pss_cons (ps_set (i := 1) sc.nd rfl (Or.inl rfl) (pe_fld (pv 0) rfl))
      (pss_cons (ps_fld (pv 1) (pe_op op_sub (pe_int) (pe_fld (pv 1) rfl)) rfl)
      (pss_cons (ps_fld (pv 1) (pe_op op_add (pe_fld (pv 1) rfl) (pe_int)) rfl)
      (pss_cons (ps_fld (pv 1) (pe_str) rfl)
      (pss_cons (ps_fld (pv 1) (pe_lst pa_nil) rfl)
      (pss_cons (ps_fld (pv 1) (G.pe_eith (pe_meth (pe_fld (pe_fld (pv 0) rfl) rfl) T.cl_First T.me_First_at_begin G_First_at_begin.g (hr.mono (by decide)) G_First_at_begin.b .nil G.passE0 (pa_cons (pe_callB G.call_lenL (by rfl) T.z_len G.boot_len (pa_cons (pe_fld (pv 0) rfl) pa_nil)) pa_nil)) (G.pe_eith (pe_meth (pe_fld (pe_fld (pv 0) rfl) rfl) T.cl_Each T.me_Each_at_begin G_Looking_at_begin.g (hr.mono (by decide)) G_Looking_at_begin.b .nil G.passE0 (pa_cons (pe_callB G.call_lenL (by rfl) T.z_len G.boot_len (pa_cons (pe_fld (pv 0) rfl) pa_nil)) pa_nil)) (pe_meth (pe_fld (pe_fld (pv 0) rfl) rfl) T.cl_Last T.me_Last_at_begin G_Looking_at_begin.g (hr.mono (by decide)) G_Looking_at_begin.b .nil G.passE0 (pa_cons (pe_callB G.call_lenL (by rfl) T.z_len G.boot_len (pa_cons (pe_fld (pv 0) rfl) pa_nil)) pa_nil)))) rfl)
      (pss_cons (ps_fld (pv 1) (pe_int) rfl)
      (pss_cons (ps_fld (pv 1) (pe_int) rfl)
      (pss_one (ps_fld (pv 1) (pe_int) rfl)))))))))), ?_⟩
    obtain ⟨z0, rfl, q⟩ := h
    exact begin_rd tx q
theorem ok_note {fd : FuncData} (F : Fun K "note" "note" s_note f_note fd) {fd_cell_at : FuncData} (G_cell_at : Hh P w K mg base 1 f_cell_at fd_cell_at p_cell_at (S_cell_at XQ.H)) {fd_has_sense : FuncData} (G_has_sense : Hh P w K mg base 1 f_has_sense fd_has_sense p_has_sense (S_has_sense XQ)) : Fn5 P w K mg base 2 f_note fd p_note (S_note XQ) := by
  have sc := sc_note
  have tx : TxW K XQ := ⟨⟨T.cl_Cell, T.n_Cell_birth, T.n_Cell_bulk, T.n_Cell_tone, T.n_Cell_load, T.n_Cell_fields, T.cl_Heap, T.n_Heap_room, T.n_Heap_cells, T.n_Heap_used, T.n_Heap_born, T.eq_Cell⟩, T.cl_World, T.n_World_heap, T.n_World_kind, T.n_World_hands, T.n_World_names, T.n_World_sweeper, T.cl_Hand, T.n_Hand_name, T.n_Hand_slots, T.cl_Kind, T.n_Kind_looking, T.n_Kind_tells, T.cl_Sweeper, T.n_Sweeper_sense, T.n_Sweeper_phase, T.n_Sweeper_grey, T.n_Sweeper_looked, T.n_Sweeper_turn, T.n_Sweeper_at, T.n_Sweeper_stop, T.n_Sweeper_walks, T.n_Sweeper_looks, T.n_Sweeper_passes, T.n_Sweeper_loss⟩
  refine G.fok F sc (fun vs H Q E h => ?_) (fun cdv A outer s H vs Q E hr h => ?_)
  · obtain ⟨z0, z1, rfl, q⟩ := h; rfl
  · refine ⟨rd_note K (S_cell_at XQ.H) (S_has_sense XQ), (pss_cons (ps_set (i := 2) sc.nd rfl (Or.inl rfl) (pe_fld (pv 0) rfl))
      (pss_cons (ps_set (i := 3) sc.nd rfl (Or.inl rfl) (pcl G_cell_at hr T.m_cell_at (pa_cons (pe_fld (pv 0) rfl) (pa_cons (pv 1) pa_nil))))
      (pss_cons (ps_if (PW.pt (pw_or (pt_cmpR op_ne (pe_fld (pv 2) rfl) (pe_str) (nomark _)) (pw_or (pt_cmpR G.op_isN_ (pv 3) (pe_non) (nomark _)) (pw_or1 (pt_val (pcl G_has_sense hr T.m_has_sense (pa_cons (pv 0) (pa_cons (pv 3) pa_nil)))))))) (pss_one (ps_ret (pe_non))) pss_nil)
      (pss_cons (ps_fld (pv 3) (pe_fld (pv 2) rfl) rfl)
      (pss_cons (ps_expr (pe_bm PySem.F.plainAttrs_list PySem.F.slot_list_append PySem.F.type_list_append mt_append (pe_fld (pv 2) rfl) (pa_cons (pv 1) pa_nil)))
      (pss_one (ps_ret (pe_fld (pv 3) rfl)))))))), ?_⟩
    obtain ⟨z0, z1, rfl, q⟩ := h
    exact note_rd tx q
theorem ok_gone {fd : FuncData} (F : Fun K "gone" "gone" s_gone f_gone fd) {fd_cell_at : FuncData} (G_cell_at : Hh P w K mg base 1 f_cell_at fd_cell_at p_cell_at (S_cell_at XQ.H)) {fd_has_sense : FuncData} (G_has_sense : Hh P w K mg base 1 f_has_sense fd_has_sense p_has_sense (S_has_sense XQ)) : Fn5 P w K mg base 2 f_gone fd p_gone (S_gone XQ) := by
  have sc := sc_gone
  have tx : TxW K XQ := ⟨⟨T.cl_Cell, T.n_Cell_birth, T.n_Cell_bulk, T.n_Cell_tone, T.n_Cell_load, T.n_Cell_fields, T.cl_Heap, T.n_Heap_room, T.n_Heap_cells, T.n_Heap_used, T.n_Heap_born, T.eq_Cell⟩, T.cl_World, T.n_World_heap, T.n_World_kind, T.n_World_hands, T.n_World_names, T.n_World_sweeper, T.cl_Hand, T.n_Hand_name, T.n_Hand_slots, T.cl_Kind, T.n_Kind_looking, T.n_Kind_tells, T.cl_Sweeper, T.n_Sweeper_sense, T.n_Sweeper_phase, T.n_Sweeper_grey, T.n_Sweeper_looked, T.n_Sweeper_turn, T.n_Sweeper_at, T.n_Sweeper_stop, T.n_Sweeper_walks, T.n_Sweeper_looks, T.n_Sweeper_passes, T.n_Sweeper_loss⟩
  refine G.fok F sc (fun vs H Q E h => ?_) (fun cdv A outer s H vs Q E hr h => ?_)
  · obtain ⟨z0, z1, z2, rfl, q⟩ := h; rfl
  · refine ⟨rd_gone K (S_cell_at XQ.H) (S_has_sense XQ), (pss_cons (ps_set (i := 3) sc.nd rfl (Or.inl rfl) (pcl G_cell_at hr T.m_cell_at (pa_cons (pe_fld (pv 0) rfl) (pa_cons (pv 1) pa_nil))))
      (pss_cons (ps_if (PW.pt (pw_or (pt_cmpR G.op_isN_ (pv 3) (pe_non) (nomark _)) (pw_or1 (pt_cmpR op_ne (pe_fld (pv 3) rfl) (pv 2) (nomark _))))) (pss_one (ps_ret (pe_bl))) pss_nil)
      (pss_one (ps_ret ((pe_and (pe_cmpR op_eq (pe_fld (pe_fld (pv 0) rfl) rfl) (pe_str) (nomark _)) (pe_one (pe_not (pcl G_has_sense hr T.m_has_sense (pa_cons (pv 0) (pa_cons (pv 3) pa_nil))))))))))), ?_⟩
    obtain ⟨z0, z1, z2, rfl, q⟩ := h
    exact gone_rd tx q
theorem ok_roots {fd : FuncData} (F : Fun K "roots" "roots" s_roots f_roots fd) {fd_held : FuncData} (G_held : Hh P w K mg base 1 f_held fd_held ["world"] (S_held XQ)) {fd_root_of : FuncData} (G_root_of : Hh P w K mg base 3 f_root_of fd_root_of p_root_of (S_root_of XQ)) : Fn5 P w K mg base 4 f_roots fd ["world"] (S_roots XQ) := by
  have sc := sc_roots
  have tx : TxW K XQ := ⟨⟨T.cl_Cell, T.n_Cell_birth, T.n_Cell_bulk, T.n_Cell_tone, T.n_Cell_load, T.n_Cell_fields, T.cl_Heap, T.n_Heap_room, T.n_Heap_cells, T.n_Heap_used, T.n_Heap_born, T.eq_Cell⟩, T.cl_World, T.n_World_heap, T.n_World_kind, T.n_World_hands, T.n_World_names, T.n_World_sweeper, T.cl_Hand, T.n_Hand_name, T.n_Hand_slots, T.cl_Kind, T.n_Kind_looking, T.n_Kind_tells, T.cl_Sweeper, T.n_Sweeper_sense, T.n_Sweeper_phase, T.n_Sweeper_grey, T.n_Sweeper_looked, T.n_Sweeper_turn, T.n_Sweeper_at, T.n_Sweeper_stop, T.n_Sweeper_walks, T.n_Sweeper_looks, T.n_Sweeper_passes, T.n_Sweeper_loss⟩
  refine G.fok F sc (fun vs H Q E h => ?_) (fun cdv A outer s H vs Q E hr h => ?_)
  · obtain ⟨z0, rfl, q⟩ := h; rfl
  · refine ⟨rd_roots K (S_held XQ) (S_root_of XQ) H, (pss_one (ps_ret (pe_op op_cat (pcl G_held hr T.m_held (pa_cons (pv 0) pa_nil)) (pe_lst (pa_cons (G.pe_thaw (G.pe_lc2 (cns := ["world"]) [0] (G.pi_vals (G.pe_values (pe_fld (pv 0) rfl))) (fun _ _ _ _ _ => G.pf_nil) (fun _ _ _ _ _ => (pcl G_root_of hr T.m_root_of (pa_cons (pv 2) (pa_cons (pv 0) (pa_cons (pv 1) pa_nil))))) rfl rfl (by repeat (first | exact trivial | refine ⟨rfl, ?_⟩)) (by repeat (first | exact trivial | refine ⟨rfl, ?_⟩)) rfl (by decide +kernel) rfl (by decide +kernel) (by decide +kernel) rfl rfl (by decide +kernel))) pa_nil))))), ?_⟩
    obtain ⟨z0, rfl, q⟩ := h
    exact roots_rd tx q
theorem ok_root_of {fd : FuncData} (F : Fun K "root_of" "root_of" s_root_of f_root_of fd) {fd_gone : FuncData} (G_gone : Hh P w K mg base 2 f_gone fd_gone p_gone (S_gone XQ)) {fd_has_sense : FuncData} (G_has_sense : Hh P w K mg base 1 f_has_sense fd_has_sense p_has_sense (S_has_sense XQ)) {fd_is_walking : FuncData} (G_is_walking : Hh P w K mg base 1 f_is_walking fd_is_walking ["world"] (S_is_walking XQ)) : Fn5 P w K mg base 3 f_root_of fd p_root_of (S_root_of XQ) := by
  have sc := sc_root_of
  have tx : TxW K XQ := ⟨⟨T.cl_Cell, T.n_Cell_birth, T.n_Cell_bulk, T.n_Cell_tone, T.n_Cell_load, T.n_Cell_fields, T.cl_Heap, T.n_Heap_room, T.n_Heap_cells, T.n_Heap_used, T.n_Heap_born, T.eq_Cell⟩, T.cl_World, T.n_World_heap, T.n_World_kind, T.n_World_hands, T.n_World_names, T.n_World_sweeper, T.cl_Hand, T.n_Hand_name, T.n_Hand_slots, T.cl_Kind, T.n_Kind_looking, T.n_Kind_tells, T.cl_Sweeper, T.n_Sweeper_sense, T.n_Sweeper_phase, T.n_Sweeper_grey, T.n_Sweeper_looked, T.n_Sweeper_turn, T.n_Sweeper_at, T.n_Sweeper_stop, T.n_Sweeper_walks, T.n_Sweeper_looks, T.n_Sweeper_passes, T.n_Sweeper_loss⟩
  refine G.fok F sc (fun vs H Q E h => ?_) (fun cdv A outer s H vs Q E hr h => ?_)
  · obtain ⟨z0, z1, z2, rfl, q⟩ := h; rfl
  · refine ⟨rd_root_of K (S_gone XQ) (S_has_sense XQ) (S_is_walking XQ), (pss_cons (ps_if (pt_val (pcl G_gone hr T.m_gone (pa_cons (pv 0) (pa_cons (pv 1) (pa_cons (pv 2) pa_nil))))) (pss_one (ps_ret (pe_non))) pss_nil)
      (pss_cons (ps_if (PW.pt (pw_and (pt_val (pcl G_is_walking hr T.m_is_walking (pa_cons (pv 0) pa_nil))) (pw_and1 (pt_not (pt_val (pcl G_has_sense hr T.m_has_sense (pa_cons (pv 0) (pa_cons (pe_ix ix_list (pe_fld (pe_fld (pv 0) rfl) rfl) (pv 1) (fun _ _ => rfl)) pa_nil)))))))) (pss_one (ps_ret (pe_non))) pss_nil)
      (pss_one (ps_ret (pv 1))))), ?_⟩
    obtain ⟨z0, z1, z2, rfl, q⟩ := h
    exact root_of_rd tx q
theorem ok_all_of {fd : FuncData} (F : Fun K "all_of" "all_of" s_all_of f_all_of fd) : Fn5 P w K mg base 1 f_all_of fd ["hands"] (S_all_of) := by
  have sc := sc_all_of
  have tx : TxW K XQ := ⟨⟨T.cl_Cell, T.n_Cell_birth, T.n_Cell_bulk, T.n_Cell_tone, T.n_Cell_load, T.n_Cell_fields, T.cl_Heap, T.n_Heap_room, T.n_Heap_cells, T.n_Heap_used, T.n_Heap_born, T.eq_Cell⟩, T.cl_World, T.n_World_heap, T.n_World_kind, T.n_World_hands, T.n_World_names, T.n_World_sweeper, T.cl_Hand, T.n_Hand_name, T.n_Hand_slots, T.cl_Kind, T.n_Kind_looking, T.n_Kind_tells, T.cl_Sweeper, T.n_Sweeper_sense, T.n_Sweeper_phase, T.n_Sweeper_grey, T.n_Sweeper_looked, T.n_Sweeper_turn, T.n_Sweeper_at, T.n_Sweeper_stop, T.n_Sweeper_walks, T.n_Sweeper_looks, T.n_Sweeper_passes, T.n_Sweeper_loss⟩
  refine G.fok F sc (fun vs H Q E h => ?_) (fun cdv A outer s H vs Q E hr h => ?_)
  · obtain ⟨z0, rfl, q⟩ := h; rfl
  · refine ⟨rd_all_of, (pss_one (ps_ret (pe_op op_sub (pe_op op_shl (pe_int) (pv 0)) (pe_int)))), ?_⟩
    obtain ⟨z0, rfl, q⟩ := h
    exact all_of_rd q
theorem ok_Looking_at_begin {fd : FuncData} (F : Fun K "at_begin" "Looking.at_begin" s_Looking_at_begin f_Looking_at_begin fd) : Fn5 P w K mg base 1 f_Looking_at_begin fd p_Looking_at_begin (S_at_begin 1) := by
  have sc := sc_Looking_at_begin
  have tx : TxW K XQ := ⟨⟨T.cl_Cell, T.n_Cell_birth, T.n_Cell_bulk, T.n_Cell_tone, T.n_Cell_load, T.n_Cell_fields, T.cl_Heap, T.n_Heap_room, T.n_Heap_cells, T.n_Heap_used, T.n_Heap_born, T.eq_Cell⟩, T.cl_World, T.n_World_heap, T.n_World_kind, T.n_World_hands, T.n_World_names, T.n_World_sweeper, T.cl_Hand, T.n_Hand_name, T.n_Hand_slots, T.cl_Kind, T.n_Kind_looking, T.n_Kind_tells, T.cl_Sweeper, T.n_Sweeper_sense, T.n_Sweeper_phase, T.n_Sweeper_grey, T.n_Sweeper_looked, T.n_Sweeper_turn, T.n_Sweeper_at, T.n_Sweeper_stop, T.n_Sweeper_walks, T.n_Sweeper_looks, T.n_Sweeper_passes, T.n_Sweeper_loss⟩
  refine G.fok F sc (fun vs H Q E h => ?_) (fun cdv A outer s H vs Q E hr h => ?_)
  · obtain ⟨z0, z1, rfl, q⟩ := h; rfl
  · refine ⟨rd_Looking_at_begin, (pss_one (ps_ret (pe_int))), ?_⟩
    obtain ⟨z0, z1, rfl, q⟩ := h
    exact Looking_at_begin_rd q
theorem ok_First_word {fd : FuncData} (F : Fun K "word" "First.word" s_First_word f_First_word fd) : Fn5 P w K mg base 1 f_First_word fd ["self"] (S_tell (.str "first")) := by
  have sc := sc_First_word
  have tx : TxW K XQ := ⟨⟨T.cl_Cell, T.n_Cell_birth, T.n_Cell_bulk, T.n_Cell_tone, T.n_Cell_load, T.n_Cell_fields, T.cl_Heap, T.n_Heap_room, T.n_Heap_cells, T.n_Heap_used, T.n_Heap_born, T.eq_Cell⟩, T.cl_World, T.n_World_heap, T.n_World_kind, T.n_World_hands, T.n_World_names, T.n_World_sweeper, T.cl_Hand, T.n_Hand_name, T.n_Hand_slots, T.cl_Kind, T.n_Kind_looking, T.n_Kind_tells, T.cl_Sweeper, T.n_Sweeper_sense, T.n_Sweeper_phase, T.n_Sweeper_grey, T.n_Sweeper_looked, T.n_Sweeper_turn, T.n_Sweeper_at, T.n_Sweeper_stop, T.n_Sweeper_walks, T.n_Sweeper_looks, T.n_Sweeper_passes, T.n_Sweeper_loss⟩
  refine G.fok F sc (fun vs H Q E h => ?_) (fun cdv A outer s H vs Q E hr h => ?_)
  · obtain ⟨z0, rfl, q⟩ := h; rfl
  · refine ⟨rd_First_word, (pss_one (ps_ret (pe_str))), ?_⟩
    obtain ⟨z0, rfl, q⟩ := h
    exact First_word_rd tx q
theorem ok_First_at_begin {fd : FuncData} (F : Fun K "at_begin" "First.at_begin" s_First_at_begin f_First_at_begin fd) {fd_all_of : FuncData} (G_all_of : Hh P w K mg base 1 f_all_of fd_all_of ["hands"] (S_all_of)) : Fn5 P w K mg base 2 f_First_at_begin fd p_First_at_begin (S_at_begin 0) := by
  have sc := sc_First_at_begin
  have tx : TxW K XQ := ⟨⟨T.cl_Cell, T.n_Cell_birth, T.n_Cell_bulk, T.n_Cell_tone, T.n_Cell_load, T.n_Cell_fields, T.cl_Heap, T.n_Heap_room, T.n_Heap_cells, T.n_Heap_used, T.n_Heap_born, T.eq_Cell⟩, T.cl_World, T.n_World_heap, T.n_World_kind, T.n_World_hands, T.n_World_names, T.n_World_sweeper, T.cl_Hand, T.n_Hand_name, T.n_Hand_slots, T.cl_Kind, T.n_Kind_looking, T.n_Kind_tells, T.cl_Sweeper, T.n_Sweeper_sense, T.n_Sweeper_phase, T.n_Sweeper_grey, T.n_Sweeper_looked, T.n_Sweeper_turn, T.n_Sweeper_at, T.n_Sweeper_stop, T.n_Sweeper_walks, T.n_Sweeper_looks, T.n_Sweeper_passes, T.n_Sweeper_loss⟩
  refine G.fok F sc (fun vs H Q E h => ?_) (fun cdv A outer s H vs Q E hr h => ?_)
  · obtain ⟨z0, z1, rfl, q⟩ := h; rfl
  · refine ⟨rd_First_at_begin (S_all_of), (pss_one (ps_ret (pcl G_all_of hr T.m_all_of (pa_cons (pv 1) pa_nil)))), ?_⟩
    obtain ⟨z0, z1, rfl, q⟩ := h
    exact First_at_begin_rd q
theorem ok_Each_word {fd : FuncData} (F : Fun K "word" "Each.word" s_Each_word f_Each_word fd) : Fn5 P w K mg base 1 f_Each_word fd ["self"] (S_tell (.str "each")) := by
  have sc := sc_Each_word
  have tx : TxW K XQ := ⟨⟨T.cl_Cell, T.n_Cell_birth, T.n_Cell_bulk, T.n_Cell_tone, T.n_Cell_load, T.n_Cell_fields, T.cl_Heap, T.n_Heap_room, T.n_Heap_cells, T.n_Heap_used, T.n_Heap_born, T.eq_Cell⟩, T.cl_World, T.n_World_heap, T.n_World_kind, T.n_World_hands, T.n_World_names, T.n_World_sweeper, T.cl_Hand, T.n_Hand_name, T.n_Hand_slots, T.cl_Kind, T.n_Kind_looking, T.n_Kind_tells, T.cl_Sweeper, T.n_Sweeper_sense, T.n_Sweeper_phase, T.n_Sweeper_grey, T.n_Sweeper_looked, T.n_Sweeper_turn, T.n_Sweeper_at, T.n_Sweeper_stop, T.n_Sweeper_walks, T.n_Sweeper_looks, T.n_Sweeper_passes, T.n_Sweeper_loss⟩
  refine G.fok F sc (fun vs H Q E h => ?_) (fun cdv A outer s H vs Q E hr h => ?_)
  · obtain ⟨z0, rfl, q⟩ := h; rfl
  · refine ⟨rd_Each_word, (pss_one (ps_ret (pe_str))), ?_⟩
    obtain ⟨z0, rfl, q⟩ := h
    exact Each_word_rd tx q
theorem ok_Last_word {fd : FuncData} (F : Fun K "word" "Last.word" s_Last_word f_Last_word fd) : Fn5 P w K mg base 1 f_Last_word fd ["self"] (S_tell (.str "last")) := by
  have sc := sc_Last_word
  have tx : TxW K XQ := ⟨⟨T.cl_Cell, T.n_Cell_birth, T.n_Cell_bulk, T.n_Cell_tone, T.n_Cell_load, T.n_Cell_fields, T.cl_Heap, T.n_Heap_room, T.n_Heap_cells, T.n_Heap_used, T.n_Heap_born, T.eq_Cell⟩, T.cl_World, T.n_World_heap, T.n_World_kind, T.n_World_hands, T.n_World_names, T.n_World_sweeper, T.cl_Hand, T.n_Hand_name, T.n_Hand_slots, T.cl_Kind, T.n_Kind_looking, T.n_Kind_tells, T.cl_Sweeper, T.n_Sweeper_sense, T.n_Sweeper_phase, T.n_Sweeper_grey, T.n_Sweeper_looked, T.n_Sweeper_turn, T.n_Sweeper_at, T.n_Sweeper_stop, T.n_Sweeper_walks, T.n_Sweeper_looks, T.n_Sweeper_passes, T.n_Sweeper_loss⟩
  refine G.fok F sc (fun vs H Q E h => ?_) (fun cdv A outer s H vs Q E hr h => ?_)
  · obtain ⟨z0, rfl, q⟩ := h; rfl
  · refine ⟨rd_Last_word, (pss_one (ps_ret (pe_str))), ?_⟩
    obtain ⟨z0, rfl, q⟩ := h
    exact Last_word_rd tx q
theorem ok_Kind___init__ {fd : FuncData} (F : Fun K "__init__" "Kind.__init__" s_Kind___init__ f_Kind___init__ fd) : Fn5 P w K mg base 1 f_Kind___init__ fd p_Kind___init__ (S_Kind_init XQ.K) := by
  have sc := sc_Kind___init__
  have tx : TxW K XQ := ⟨⟨T.cl_Cell, T.n_Cell_birth, T.n_Cell_bulk, T.n_Cell_tone, T.n_Cell_load, T.n_Cell_fields, T.cl_Heap, T.n_Heap_room, T.n_Heap_cells, T.n_Heap_used, T.n_Heap_born, T.eq_Cell⟩, T.cl_World, T.n_World_heap, T.n_World_kind, T.n_World_hands, T.n_World_names, T.n_World_sweeper, T.cl_Hand, T.n_Hand_name, T.n_Hand_slots, T.cl_Kind, T.n_Kind_looking, T.n_Kind_tells, T.cl_Sweeper, T.n_Sweeper_sense, T.n_Sweeper_phase, T.n_Sweeper_grey, T.n_Sweeper_looked, T.n_Sweeper_turn, T.n_Sweeper_at, T.n_Sweeper_stop, T.n_Sweeper_walks, T.n_Sweeper_looks, T.n_Sweeper_passes, T.n_Sweeper_loss⟩
  refine G.fok F sc (fun vs H Q E h => ?_) (fun cdv A outer s H vs Q E hr h => ?_)
  · obtain ⟨z0, z1, z2, rfl, q⟩ := h; rfl
  · refine ⟨rd_Kind___init__ K, (pss_cons (ps_fld (pv 0) (pv 1) rfl)
      (pss_one (ps_fld (pv 0) (pv 2) rfl))), ?_⟩
    obtain ⟨z0, z1, z2, rfl, q⟩ := h
    exact Kind___init___rd tx q
theorem ok_Kind_words {fd : FuncData} (F : Fun K "words" "Kind.words" s_Kind_words f_Kind_words fd) {fd_Each_word : FuncData} (G_Each_word : Hh P w K mg base 1 f_Each_word fd_Each_word ["self"] (S_tell (.str "each"))) {fd_First_word : FuncData} (G_First_word : Hh P w K mg base 1 f_First_word fd_First_word ["self"] (S_tell (.str "first"))) {fd_Last_word : FuncData} (G_Last_word : Hh P w K mg base 1 f_Last_word fd_Last_word ["self"] (S_tell (.str "last"))) : Fn5 P w K mg base 2 f_Kind_words fd ["self"] (S_words XQ) := by
  have sc := sc_Kind_words
  have tx : TxW K XQ := ⟨⟨T.cl_Cell, T.n_Cell_birth, T.n_Cell_bulk, T.n_Cell_tone, T.n_Cell_load, T.n_Cell_fields, T.cl_Heap, T.n_Heap_room, T.n_Heap_cells, T.n_Heap_used, T.n_Heap_born, T.eq_Cell⟩, T.cl_World, T.n_World_heap, T.n_World_kind, T.n_World_hands, T.n_World_names, T.n_World_sweeper, T.cl_Hand, T.n_Hand_name, T.n_Hand_slots, T.cl_Kind, T.n_Kind_looking, T.n_Kind_tells, T.cl_Sweeper, T.n_Sweeper_sense, T.n_Sweeper_phase, T.n_Sweeper_grey, T.n_Sweeper_looked, T.n_Sweeper_turn, T.n_Sweeper_at, T.n_Sweeper_stop, T.n_Sweeper_walks, T.n_Sweeper_looks, T.n_Sweeper_passes, T.n_Sweeper_loss⟩
  refine G.fok F sc (fun vs H Q E h => ?_) (fun cdv A outer s H vs Q E hr h => ?_)
  · obtain ⟨z0, rfl, q⟩ := h; rfl
  · refine ⟨rd_Kind_words K XQ.E XQ.F XQ.L (S_tell (.str "each")) (S_tell (.str "first")) (S_tell (.str "last")), (pss_cons (ps_set (i := 1) sc.nd rfl (Or.inl rfl) (G.pe_eith (pe_meth0 (pe_fld (pv 0) rfl) T.cl_First T.me_First_word G_First_word.g (hr.mono (by decide)) G_First_word.b .nil G.passE0) (G.pe_eith (pe_meth0 (pe_fld (pv 0) rfl) T.cl_Each T.me_Each_word G_Each_word.g (hr.mono (by decide)) G_Each_word.b .nil G.passE0) (pe_meth0 (pe_fld (pv 0) rfl) T.cl_Last T.me_Last_word G_Last_word.g (hr.mono (by decide)) G_Last_word.b .nil G.passE0))))
      (pss_cons (ps_if (pt_cmpR op_ne (pe_op op_and (pe_fld (pv 0) rfl) (T.g_OLD.pe rfl)) (pe_int) (nomark _)) (pss_one (ps_set (i := 1) sc.nd rfl (Or.inl rfl) (pe_op op_add_str (pv 1) (pe_str)))) pss_nil)
      (pss_cons (ps_if (pt_cmpR op_ne (pe_op op_and (pe_fld (pv 0) rfl) (T.g_NEW.pe rfl)) (pe_int) (nomark _)) (pss_one (ps_set (i := 1) sc.nd rfl (Or.inl rfl) (pe_op op_add_str (pv 1) (pe_str)))) pss_nil)
      (pss_one (ps_ret (pv 1)))))), ?_⟩
    obtain ⟨z0, rfl, q⟩ := h
    exact Kind_words_rd tx q
theorem ok_kind_of {fd : FuncData} (F : Fun K "kind_of" "kind_of" s_kind_of f_kind_of fd) {fd_Kind___init__ : FuncData} (G_Kind___init__ : Hh P w K mg base 1 f_Kind___init__ fd_Kind___init__ p_Kind___init__ (S_Kind_init XQ.K)) {fd_Kind_words : FuncData} (G_Kind_words : Hh P w K mg base 2 f_Kind_words fd_Kind_words ["self"] (S_words XQ)) : Fn5 P w K mg base 3 f_kind_of fd ["text"] (S_kind_of XQ) := by
  have sc := sc_kind_of
  have tx : TxW K XQ := ⟨⟨T.cl_Cell, T.n_Cell_birth, T.n_Cell_bulk, T.n_Cell_tone, T.n_Cell_load, T.n_Cell_fields, T.cl_Heap, T.n_Heap_room, T.n_Heap_cells, T.n_Heap_used, T.n_Heap_born, T.eq_Cell⟩, T.cl_World, T.n_World_heap, T.n_World_kind, T.n_World_hands, T.n_World_names, T.n_World_sweeper, T.cl_Hand, T.n_Hand_name, T.n_Hand_slots, T.cl_Kind, T.n_Kind_looking, T.n_Kind_tells, T.cl_Sweeper, T.n_Sweeper_sense, T.n_Sweeper_phase, T.n_Sweeper_grey, T.n_Sweeper_looked, T.n_Sweeper_turn, T.n_Sweeper_at, T.n_Sweeper_stop, T.n_Sweeper_walks, T.n_Sweeper_looks, T.n_Sweeper_passes, T.n_Sweeper_loss⟩
  refine G.fok F sc (fun vs H Q E h => ?_) (fun cdv A outer s H vs Q E hr h => ?_)
  · obtain ⟨z0, rfl, q⟩ := h; rfl
  · refine ⟨rd_kind_of K XQ.E XQ.F XQ.K XQ.L (S_Kind_init XQ.K) (S_words XQ), (pss_cons (ps_for PassesOwn.never rfl (pi_list (pe_lst (pa_cons (G.pe_make00 T.mk0_First rfl T.m_First) (pa_cons (G.pe_make00 T.mk0_Each rfl T.m_Each) (pa_cons (G.pe_make00 T.mk0_Last rfl T.m_Last) pa_nil))))) (pg_name (i := 1) sc.nd rfl (Or.inl rfl))
      (pss_one (ps_for PassesOwn.never rfl (pi_range1 rfl T.z_range (pa_cons (pe_int) pa_nil)) (pg_name (i := 2) sc.nd rfl (Or.inl rfl))
      (pss_cons (ps_set (i := 3) sc.nd rfl (Or.inl rfl) (pe_make T.mk_Kind G_Kind___init__.g (hr.mono (by decide)) rfl T.m_Kind G_Kind___init__.b .nil G.passE0 (pa_cons (pv 1) (pa_cons (pv 2) pa_nil))))
      (pss_one (ps_if (pt_cmpR op_eq (pe_meth0 (pv 3) T.cl_Kind T.me_Kind_words G_Kind_words.g (hr.mono (by decide)) G_Kind_words.b .nil G.passE0) (pv 0) (nomark _)) (pss_one (ps_ret (pv 3))) pss_nil))))))
      (pss_one (ps_ret (pe_non)))), ?_⟩
    obtain ⟨z0, rfl, q⟩ := h
    exact kind_of_rd tx q
theorem ok__law_mix {fd : FuncData} (F : Fun K "_law_mix" "_law_mix" s__law_mix f__law_mix fd) : Fn5 P w K mg base 1 f__law_mix fd p__law_mix (S_mix) := by
  have sc := sc__law_mix
  have tx : TxW K XQ := ⟨⟨T.cl_Cell, T.n_Cell_birth, T.n_Cell_bulk, T.n_Cell_tone, T.n_Cell_load, T.n_Cell_fields, T.cl_Heap, T.n_Heap_room, T.n_Heap_cells, T.n_Heap_used, T.n_Heap_born, T.eq_Cell⟩, T.cl_World, T.n_World_heap, T.n_World_kind, T.n_World_hands, T.n_World_names, T.n_World_sweeper, T.cl_Hand, T.n_Hand_name, T.n_Hand_slots, T.cl_Kind, T.n_Kind_looking, T.n_Kind_tells, T.cl_Sweeper, T.n_Sweeper_sense, T.n_Sweeper_phase, T.n_Sweeper_grey, T.n_Sweeper_looked, T.n_Sweeper_turn, T.n_Sweeper_at, T.n_Sweeper_stop, T.n_Sweeper_walks, T.n_Sweeper_looks, T.n_Sweeper_passes, T.n_Sweeper_loss⟩
  refine G.fok F sc (fun vs H Q E h => ?_) (fun cdv A outer s H vs Q E hr h => ?_)
  · obtain ⟨z0, z1, rfl, q⟩ := h; rfl
  · refine ⟨rd__law_mix, (pss_cons (ps_set (i := 2) sc.nd rfl (Or.inl rfl) (pe_op op_mod (pe_op op_add (pe_op op_mul (pv 0) (pv 1)) (pe_int)) (pe_int)))
      (pss_one (ps_ret (pe_op op_fdiv (pe_op op_mod (pe_op op_mul (pv 2) (pv 2)) (pe_int)) (pe_int))))), ?_⟩
    obtain ⟨z0, z1, rfl, q⟩ := h
    exact _law_mix_rd q
theorem ok__law_cell_at {fd : FuncData} (F : Fun K "_law_cell_at" "_law_cell_at" s__law_cell_at f__law_cell_at fd) : Fn5 P w K mg base 1 f__law_cell_at fd p__law_cell_at (S_at K) := by
  have sc := sc__law_cell_at
  have tx : TxW K XQ := ⟨⟨T.cl_Cell, T.n_Cell_birth, T.n_Cell_bulk, T.n_Cell_tone, T.n_Cell_load, T.n_Cell_fields, T.cl_Heap, T.n_Heap_room, T.n_Heap_cells, T.n_Heap_used, T.n_Heap_born, T.eq_Cell⟩, T.cl_World, T.n_World_heap, T.n_World_kind, T.n_World_hands, T.n_World_names, T.n_World_sweeper, T.cl_Hand, T.n_Hand_name, T.n_Hand_slots, T.cl_Kind, T.n_Kind_looking, T.n_Kind_tells, T.cl_Sweeper, T.n_Sweeper_sense, T.n_Sweeper_phase, T.n_Sweeper_grey, T.n_Sweeper_looked, T.n_Sweeper_turn, T.n_Sweeper_at, T.n_Sweeper_stop, T.n_Sweeper_walks, T.n_Sweeper_looks, T.n_Sweeper_passes, T.n_Sweeper_loss⟩
  refine G.fok F sc (fun vs H Q E h => ?_) (fun cdv A outer s H vs Q E hr h => ?_)
  · obtain ⟨z0, z1, rfl, q⟩ := h; rfl
  · refine ⟨rd__law_cell_at K, (pss_cons (ps_if (pt_cmpR op_lt (pv 1) (pe_callB G.call_lenL (by rfl) T.z_len G.boot_len (pa_cons (pv 0) pa_nil)) (nomark _)) (pss_one (ps_ret (pe_ix ix_list (pv 0) (pv 1) (fun _ _ => rfl)))) pss_nil)
      (pss_one (ps_ret (pe_int)))), ?_⟩
    obtain ⟨z0, z1, rfl, q⟩ := h
    exact _law_cell_at_rd q
theorem ok__law_names {fd : FuncData} (F : Fun K "_law_names" "_law_names" s__law_names f__law_names fd) {fd__law_mix : FuncData} (G__law_mix : Hh P w K mg base 1 f__law_mix fd__law_mix p__law_mix (S_mix)) : Fn5 P w K mg base 2 f__law_names fd p__law_names (S_names) := by
  have sc := sc__law_names
  have tx : TxW K XQ := ⟨⟨T.cl_Cell, T.n_Cell_birth, T.n_Cell_bulk, T.n_Cell_tone, T.n_Cell_load, T.n_Cell_fields, T.cl_Heap, T.n_Heap_room, T.n_Heap_cells, T.n_Heap_used, T.n_Heap_born, T.eq_Cell⟩, T.cl_World, T.n_World_heap, T.n_World_kind, T.n_World_hands, T.n_World_names, T.n_World_sweeper, T.cl_Hand, T.n_Hand_name, T.n_Hand_slots, T.cl_Kind, T.n_Kind_looking, T.n_Kind_tells, T.cl_Sweeper, T.n_Sweeper_sense, T.n_Sweeper_phase, T.n_Sweeper_grey, T.n_Sweeper_looked, T.n_Sweeper_turn, T.n_Sweeper_at, T.n_Sweeper_stop, T.n_Sweeper_walks, T.n_Sweeper_looks, T.n_Sweeper_passes, T.n_Sweeper_loss⟩
  refine G.fok F sc (fun vs H Q E h => ?_) (fun cdv A outer s H vs Q E hr h => ?_)
  · obtain ⟨z0, z1, rfl, q⟩ := h; rfl
  · refine ⟨rd__law_names K (S_mix), (pss_cons (ps_set (i := 2) sc.nd rfl (Or.inl rfl) (pe_str))
      (pss_cons (ps_set (i := 3) sc.nd rfl (Or.inl rfl) (pe_op op_add (pe_int) (pe_op op_mod (pcl G__law_mix hr T.m__law_mix (pa_cons (pv 0) (pa_cons (pe_int) pa_nil))) (pe_int))))
      (pss_cons (ps_set (i := 4) sc.nd rfl (Or.inl rfl) (pe_str))
      (pss_cons (ps_for PassesOwn.never rfl (pi_range1 rfl T.z_range (pa_cons (pv 3) pa_nil)) (pg_name (i := 5) sc.nd rfl (Or.inl rfl))
      (pss_one (ps_set (i := 4) sc.nd rfl (Or.inl rfl) (pe_op op_add_str (pv 4) (pe_ix ix_str (pv 2) (pe_op op_mod (pcl G__law_mix hr T.m__law_mix (pa_cons (pv 0) (pa_cons (pe_op op_add (pe_op op_mul (pv 5) (pv 5)) (pe_int)) pa_nil))) (pe_int)) (fun _ _ => rfl))))))
      (pss_cons (ps_set (i := 6) sc.nd rfl (Or.inl rfl) (pe_op op_mod (pcl G__law_mix hr T.m__law_mix (pa_cons (pv 0) (pa_cons (pe_int) pa_nil))) (pv 3)))
      (pss_cons (ps_set (i := 7) sc.nd rfl (Or.inl rfl) (pe_op op_mod (pcl G__law_mix hr T.m__law_mix (pa_cons (pv 0) (pa_cons (pe_int) pa_nil))) (pe_int)))
      (pss_cons (ps_set (i := 8) sc.nd rfl (Or.inl rfl) (pe_lst pa_nil))
      (pss_cons (ps_for PassesOwn.never rfl (pi_range1 rfl T.z_range (pa_cons (pv 1) pa_nil)) (pg_name (i := 5) sc.nd rfl (Or.inl rfl))
      (pss_cons (ps_set (i := 9) sc.nd rfl (Or.inl rfl) (pe_op op_add_str (pe_op op_add_str (pe_slice G.sl_str (pv 4) po_none (po_some (pv 6))) (pe_ix ix_str (pv 2) (pe_op op_mod (pe_op op_add (pv 7) (pv 5)) (pe_int)) (fun _ _ => rfl))) (pe_slice G.sl_str (pv 4) (po_some (pe_op op_add (pv 6) (pe_int))) po_none)))
      (pss_cons (ps_if (pt_cmpR op_eq (pv 9) (pe_str) (nomark _)) (pss_one (ps_set (i := 9) sc.nd rfl (Or.inl rfl) (pe_str))) pss_nil)
      (pss_one (ps_expr (pe_bm PySem.F.plainAttrs_list PySem.F.slot_list_append PySem.F.type_list_append mt_append (pv 8) (pa_cons (pv 9) pa_nil)))))))
      (pss_one (ps_ret (pv 8))))))))))), ?_⟩
    obtain ⟨z0, z1, rfl, q⟩ := h
    exact _law_names_rd q
theorem ok__law_same0 {fd : FuncData} (F : Fun K "_law_same" "_law_same" s__law_same f__law_same fd) (G__law_same : Hh P w K mg base 0 f__law_same fd p__law_same (S_never)) : FnOk P w K mg base (G.CXe P w) 1 f__law_same fd ["_law_found", "_law_due"] (S_same 0) := by
  have sc := sc__law_same
  refine G.fok F sc (fun vs H Q E h => ?_) (fun cdv A outer s H vs Q E hr h => ?_)
  · obtain ⟨z0, z1, rfl, q⟩ := h; rfl
  · refine ⟨rd__law_same K (S_never), (pss_cons (ps_if (pt_cmpR G.op_isN_ (pv 1) (pe_non) (nomark _)) (pss_one (ps_ret (pe_cmpR G.op_isN_ (pv 0) (pe_non) (nomark _)))) pss_nil)
      (pss_cons (ps_if (pt_cmpR G.op_isB (pv 1) (pe_bl) (nomark _)) (pss_one (ps_ret (pe_cmpR G.op_isB (pv 0) (pe_bl) (nomark _)))) pss_nil)
      (pss_cons (ps_if (pt_cmpR G.op_isB (pv 1) (pe_bl) (nomark _)) (pss_one (ps_ret (pe_cmpR G.op_isB (pv 0) (pe_bl) (nomark _)))) pss_nil)
      (pss_cons (ps_if (pt_val (pe_callB G.call_isi (by rfl) T.z_isinstance G.boot_isinstance (pa_cons (pv 1) (pa_cons (pe_bltn rfl T.z_int G.boot_int rfl) pa_nil)))) (pss_one (ps_ret ((pe_and (pe_callB G.call_isi (by rfl) T.z_isinstance G.boot_isinstance (pa_cons (pv 0) (pa_cons (pe_bltn rfl T.z_int G.boot_int rfl) pa_nil))) (pe_and (pe_not (pe_callB G.call_isi (by rfl) T.z_isinstance G.boot_isinstance (pa_cons (pv 0) (pa_cons (pe_bltn rfl T.z_bool G.boot_bool rfl) pa_nil)))) (pe_one (pe_cmpR op_eq (pv 0) (pv 1) (nomark _)))))))) pss_nil)
      (pss_cons (ps_if (pt_val (pe_callB G.call_isi (by rfl) T.z_isinstance G.boot_isinstance (pa_cons (pv 1) (pa_cons (pe_bltn rfl T.z_str G.boot_str rfl) pa_nil)))) (pss_one (ps_ret ((pe_and (pe_callB G.call_isi (by rfl) T.z_isinstance G.boot_isinstance (pa_cons (pv 0) (pa_cons (pe_bltn rfl T.z_str G.boot_str rfl) pa_nil))) (pe_one (pe_cmpR op_eq (pv 0) (pv 1) (nomark _))))))) pss_nil)
      (pss_cons (ps_if (PW.pt (pw_and (pt_val (pe_callB G.call_isi (by rfl) T.z_isinstance G.boot_isinstance (pa_cons (pv 1) (pa_cons (pe_bltn rfl T.z_list G.boot_list rfl) pa_nil)))) (pw_and1 (pt_not (pt_val (pe_callB G.call_isi (by rfl) T.z_isinstance G.boot_isinstance (pa_cons (pv 0) (pa_cons (pe_bltn rfl T.z_list G.boot_list rfl) pa_nil)))))))) (pss_one (ps_ret (pe_bl))) pss_nil)
      (pss_cons (ps_if (PW.pt (pw_and (pt_val (pe_callB G.call_isi (by rfl) T.z_isinstance G.boot_isinstance (pa_cons (pv 1) (pa_cons (pe_bltn rfl T.z_tuple G.boot_tuple rfl) pa_nil)))) (pw_and1 (pt_not (pt_val (pe_callB G.call_isi (by rfl) T.z_isinstance G.boot_isinstance (pa_cons (pv 0) (pa_cons (pe_bltn rfl T.z_tuple G.boot_tuple rfl) pa_nil)))))))) (pss_one (ps_ret (pe_bl))) pss_nil)
      (pss_cons (ps_if (pt_cmpR op_ne (pe_callB G.call_lenL (by rfl) T.z_len G.boot_len (pa_cons (pv 0) pa_nil)) (pe_callB G.call_lenL (by rfl) T.z_len G.boot_len (pa_cons (pv 1) pa_nil)) (nomark _)) (pss_one (ps_ret (pe_bl))) pss_nil)
      (pss_cons (ps_for PassesOwn.never rfl (pi_range1 rfl T.z_range (pa_cons (pe_callB G.call_lenL (by rfl) T.z_len G.boot_len (pa_cons (pv 1) pa_nil)) pa_nil)) (pg_name (i := 2) sc.nd rfl (Or.inl rfl))
      (pss_one (ps_if (pt_not (pt_val (pe_call G__law_same.g (hr.mono (by omega)) rfl T.m__law_same G__law_same.k G__law_same.b .nil G.passE0 (pa_cons (pe_ix ix_seq (pv 0) (pv 2) (fun _ _ => rfl)) (pa_cons (pe_ix ix_seq (pv 1) (pv 2) (fun _ _ => rfl)) pa_nil))))) (pss_one (ps_ret (pe_bl))) pss_nil)))
      (pss_one (ps_ret (pe_bl)))))))))))), ?_⟩
    obtain ⟨z0, z1, rfl, q⟩ := h
    exact _law_same_rd0 q
theorem ok__law_same {d lv : Nat} (hlv : 0 ≤ lv) {fd : FuncData} (F : Fun K "_law_same" "_law_same" s__law_same f__law_same fd) (G__law_same : Hh P w K mg base lv f__law_same fd p__law_same (S_same d)) : FnOk P w K mg base (G.CXe P w) (lv + 1) f__law_same fd ["_law_found", "_law_due"] (S_same (d + 1)) := by
  have sc := sc__law_same
  refine G.fok F sc (fun vs H Q E h => ?_) (fun cdv A outer s H vs Q E hr h => ?_)
  · obtain ⟨z0, z1, rfl, q⟩ := h; rfl
  · refine ⟨rd__law_same K (S_same d), (pss_cons (ps_if (pt_cmpR G.op_isN_ (pv 1) (pe_non) (nomark _)) (pss_one (ps_ret (pe_cmpR G.op_isN_ (pv 0) (pe_non) (nomark _)))) pss_nil)
      (pss_cons (ps_if (pt_cmpR G.op_isB (pv 1) (pe_bl) (nomark _)) (pss_one (ps_ret (pe_cmpR G.op_isB (pv 0) (pe_bl) (nomark _)))) pss_nil)
      (pss_cons (ps_if (pt_cmpR G.op_isB (pv 1) (pe_bl) (nomark _)) (pss_one (ps_ret (pe_cmpR G.op_isB (pv 0) (pe_bl) (nomark _)))) pss_nil)
      (pss_cons (ps_if (pt_val (pe_callB G.call_isi (by rfl) T.z_isinstance G.boot_isinstance (pa_cons (pv 1) (pa_cons (pe_bltn rfl T.z_int G.boot_int rfl) pa_nil)))) (pss_one (ps_ret ((pe_and (pe_callB G.call_isi (by rfl) T.z_isinstance G.boot_isinstance (pa_cons (pv 0) (pa_cons (pe_bltn rfl T.z_int G.boot_int rfl) pa_nil))) (pe_and (pe_not (pe_callB G.call_isi (by rfl) T.z_isinstance G.boot_isinstance (pa_cons (pv 0) (pa_cons (pe_bltn rfl T.z_bool G.boot_bool rfl) pa_nil)))) (pe_one (pe_cmpR op_eq (pv 0) (pv 1) (nomark _)))))))) pss_nil)
      (pss_cons (ps_if (pt_val (pe_callB G.call_isi (by rfl) T.z_isinstance G.boot_isinstance (pa_cons (pv 1) (pa_cons (pe_bltn rfl T.z_str G.boot_str rfl) pa_nil)))) (pss_one (ps_ret ((pe_and (pe_callB G.call_isi (by rfl) T.z_isinstance G.boot_isinstance (pa_cons (pv 0) (pa_cons (pe_bltn rfl T.z_str G.boot_str rfl) pa_nil))) (pe_one (pe_cmpR op_eq (pv 0) (pv 1) (nomark _))))))) pss_nil)
      (pss_cons (ps_if (PW.pt (pw_and (pt_val (pe_callB G.call_isi (by rfl) T.z_isinstance G.boot_isinstance (pa_cons (pv 1) (pa_cons (pe_bltn rfl T.z_list G.boot_list rfl) pa_nil)))) (pw_and1 (pt_not (pt_val (pe_callB G.call_isi (by rfl) T.z_isinstance G.boot_isinstance (pa_cons (pv 0) (pa_cons (pe_bltn rfl T.z_list G.boot_list rfl) pa_nil)))))))) (pss_one (ps_ret (pe_bl))) pss_nil)
      (pss_cons (ps_if (PW.pt (pw_and (pt_val (pe_callB G.call_isi (by rfl) T.z_isinstance G.boot_isinstance (pa_cons (pv 1) (pa_cons (pe_bltn rfl T.z_tuple G.boot_tuple rfl) pa_nil)))) (pw_and1 (pt_not (pt_val (pe_callB G.call_isi (by rfl) T.z_isinstance G.boot_isinstance (pa_cons (pv 0) (pa_cons (pe_bltn rfl T.z_tuple G.boot_tuple rfl) pa_nil)))))))) (pss_one (ps_ret (pe_bl))) pss_nil)
      (pss_cons (ps_if (pt_cmpR op_ne (pe_callB G.call_lenL (by rfl) T.z_len G.boot_len (pa_cons (pv 0) pa_nil)) (pe_callB G.call_lenL (by rfl) T.z_len G.boot_len (pa_cons (pv 1) pa_nil)) (nomark _)) (pss_one (ps_ret (pe_bl))) pss_nil)
      (pss_cons (ps_for PassesOwn.never rfl (pi_range1 rfl T.z_range (pa_cons (pe_callB G.call_lenL (by rfl) T.z_len G.boot_len (pa_cons (pv 1) pa_nil)) pa_nil)) (pg_name (i := 2) sc.nd rfl (Or.inl rfl))
      (pss_one (ps_if (pt_not (pt_val (pe_call G__law_same.g (hr.mono (by omega)) rfl T.m__law_same G__law_same.k G__law_same.b .nil G.passE0 (pa_cons (pe_ix ix_seq (pv 0) (pv 2) (fun _ _ => rfl)) (pa_cons (pe_ix ix_seq (pv 1) (pv 2) (fun _ _ => rfl)) pa_nil))))) (pss_one (ps_ret (pe_bl))) pss_nil)))
      (pss_one (ps_ret (pe_bl)))))))))))), ?_⟩
    obtain ⟨z0, z1, rfl, q⟩ := h
    exact _law_same_rd q
theorem ok__law_kind {fd : FuncData} (F : Fun K "_law_kind" "_law_kind" s__law_kind f__law_kind fd) {fd__law_mix : FuncData} (G__law_mix : Hh P w K mg base 1 f__law_mix fd__law_mix p__law_mix (S_mix)) : Fn5 P w K mg base 2 f__law_kind fd p__law_kind (S_kindL) := by
  have sc := sc__law_kind
  have tx : TxW K XQ := ⟨⟨T.cl_Cell, T.n_Cell_birth, T.n_Cell_bulk, T.n_Cell_tone, T.n_Cell_load, T.n_Cell_fields, T.cl_Heap, T.n_Heap_room, T.n_Heap_cells, T.n_Heap_used, T.n_Heap_born, T.eq_Cell⟩, T.cl_World, T.n_World_heap, T.n_World_kind, T.n_World_hands, T.n_World_names, T.n_World_sweeper, T.cl_Hand, T.n_Hand_name, T.n_Hand_slots, T.cl_Kind, T.n_Kind_looking, T.n_Kind_tells, T.cl_Sweeper, T.n_Sweeper_sense, T.n_Sweeper_phase, T.n_Sweeper_grey, T.n_Sweeper_looked, T.n_Sweeper_turn, T.n_Sweeper_at, T.n_Sweeper_stop, T.n_Sweeper_walks, T.n_Sweeper_looks, T.n_Sweeper_passes, T.n_Sweeper_loss⟩
  refine G.fok F sc (fun vs H Q E h => ?_) (fun cdv A outer s H vs Q E hr h => ?_)
  · obtain ⟨z0, rfl, q⟩ := h; rfl
  · refine ⟨rd__law_kind K (S_mix), (pss_cons (ps_set (i := 1) sc.nd rfl (Or.inl rfl) (pe_ix ix_list (pe_lst (pa_cons (pe_str) (pa_cons (pe_str) (pa_cons (pe_str) pa_nil)))) (pe_op op_mod (pcl G__law_mix hr T.m__law_mix (pa_cons (pv 0) (pa_cons (pe_int) pa_nil))) (pe_int)) (fun _ _ => rfl)))
      (pss_one (ps_ret (pe_op op_add_str (pv 1) (pe_ix ix_list (pe_lst (pa_cons (pe_str) (pa_cons (pe_str) (pa_cons (pe_str) (pa_cons (pe_str) pa_nil))))) (pe_op op_mod (pcl G__law_mix hr T.m__law_mix (pa_cons (pv 0) (pa_cons (pe_int) pa_nil))) (pe_int)) (fun _ _ => rfl)))))), ?_⟩
    obtain ⟨z0, rfl, q⟩ := h
    exact _law_kind_rd q
theorem ok__law_least {fd : FuncData} (F : Fun K "_law_least" "_law_least" s__law_least f__law_least fd) : Fn5 P w K mg base 1 f__law_least fd p__law_least (S_leastL) := by
  have sc := sc__law_least
  have tx : TxW K XQ := ⟨⟨T.cl_Cell, T.n_Cell_birth, T.n_Cell_bulk, T.n_Cell_tone, T.n_Cell_load, T.n_Cell_fields, T.cl_Heap, T.n_Heap_room, T.n_Heap_cells, T.n_Heap_used, T.n_Heap_born, T.eq_Cell⟩, T.cl_World, T.n_World_heap, T.n_World_kind, T.n_World_hands, T.n_World_names, T.n_World_sweeper, T.cl_Hand, T.n_Hand_name, T.n_Hand_slots, T.cl_Kind, T.n_Kind_looking, T.n_Kind_tells, T.cl_Sweeper, T.n_Sweeper_sense, T.n_Sweeper_phase, T.n_Sweeper_grey, T.n_Sweeper_looked, T.n_Sweeper_turn, T.n_Sweeper_at, T.n_Sweeper_stop, T.n_Sweeper_walks, T.n_Sweeper_looks, T.n_Sweeper_passes, T.n_Sweeper_loss⟩
  refine G.fok F sc (fun vs H Q E h => ?_) (fun cdv A outer s H vs Q E hr h => ?_)
  · obtain ⟨z0, rfl, q⟩ := h; rfl
  · refine ⟨rd__law_least K, (pss_cons (ps_for PassesOwn.never rfl (pi_range1 rfl T.z_range (pa_cons (pe_callB G.call_lenL (by rfl) T.z_len G.boot_len (pa_cons (pv 0) pa_nil)) pa_nil)) (pg_name (i := 1) sc.nd rfl (Or.inl rfl))
      (pss_one (ps_if (pt_cmpR G.op_isN_ (pe_ix ix_list (pv 0) (pv 1) (fun _ _ => rfl)) (pe_non) (nomark _)) (pss_one (ps_ret (pv 1))) pss_nil)))
      (pss_cons (ps_expr (pe_bm PySem.F.plainAttrs_list PySem.F.slot_list_append PySem.F.type_list_append mt_append (pv 0) (pa_cons (pe_non) pa_nil)))
      (pss_one (ps_ret (pe_op op_sub (pe_callB G.call_lenL (by rfl) T.z_len G.boot_len (pa_cons (pv 0) pa_nil)) (pe_int)))))), ?_⟩
    obtain ⟨z0, rfl, q⟩ := h
    exact _law_least_rd q
theorem ok__law_make {fd : FuncData} (F : Fun K "_law_make" "_law_make" s__law_make f__law_make fd) {fd_Heap_make : FuncData} (G_Heap_make : Hh P w K mg base 3 f_Heap_make fd_Heap_make p_Heap_make (S_Heap_make K XQ.C XQ.H C_Full)) {fd__law_least : FuncData} (G__law_least : Hh P w K mg base 1 f__law_least fd__law_least p__law_least (S_leastL)) {fd__law_same : FuncData} (G__law_same : Hh P w K mg base 4 f__law_same fd__law_same p__law_same (S_same 3)) : Fn5 P w K mg base 5 f__law_make fd p__law_make (S_makeL XQ) := by
  have sc := sc__law_make
  have tx : TxW K XQ := ⟨⟨T.cl_Cell, T.n_Cell_birth, T.n_Cell_bulk, T.n_Cell_tone, T.n_Cell_load, T.n_Cell_fields, T.cl_Heap, T.n_Heap_room, T.n_Heap_cells, T.n_Heap_used, T.n_Heap_born, T.eq_Cell⟩, T.cl_World, T.n_World_heap, T.n_World_kind, T.n_World_hands, T.n_World_names, T.n_World_sweeper, T.cl_Hand, T.n_Hand_name, T.n_Hand_slots, T.cl_Kind, T.n_Kind_looking, T.n_Kind_tells, T.cl_Sweeper, T.n_Sweeper_sense, T.n_Sweeper_phase, T.n_Sweeper_grey, T.n_Sweeper_looked, T.n_Sweeper_turn, T.n_Sweeper_at, T.n_Sweeper_stop, T.n_Sweeper_walks, T.n_Sweeper_looks, T.n_Sweeper_passes, T.n_Sweeper_loss⟩
  refine G.fok F sc (fun vs H Q E h => ?_) (fun cdv A outer s H vs Q E hr h => ?_)
  · obtain ⟨z0, z1, z2, z3, rfl, q⟩ := h; rfl
  · refine ⟨rd__law_make K XQ.H (S_Heap_make K XQ.C XQ.H C_Full) (S_leastL) (S_same 3), (pss_cons (ps_set (i := 4) sc.nd rfl (Or.inl rfl) (pe_meth (pe_fld (pv 0) rfl) T.cl_Heap T.me_Heap_make G_Heap_make.g (hr.mono (by decide)) G_Heap_make.b .nil G.passE0 (pa_cons (pe_int) (pa_cons (pe_int) (pa_cons (pe_fld (pe_fld (pv 0) rfl) rfl) pa_nil)))))
      (pss_cons (ps_set (i := 5) sc.nd rfl (Or.inl rfl) (pcl G__law_least hr T.m__law_least (pa_cons (pv 1) pa_nil)))
      (pss_cons (ps_asg (pe_op op_add (pe_ix ix_list (pv 2) (pe_int) (fun _ _ => rfl)) (pe_int)) (pg_sub (pv 2) (pe_int) set_list))
      (pss_cons (ps_asg (pe_lst (pa_cons (pe_ix ix_list (pv 2) (pe_int) (fun _ _ => rfl)) (pa_cons (pv 3) pa_nil))) (pg_sub (pv 1) (pv 5) set_list))
      (pss_one (ps_ret (pcl G__law_same hr T.m__law_same (pa_cons (pv 4) (pa_cons (pv 5) pa_nil))))))))), ?_⟩
    obtain ⟨z0, z1, z2, z3, rfl, q⟩ := h
    exact _law_make_rd tx q
theorem ok__law_named {fd : FuncData} (F : Fun K "_law_named" "_law_named" s__law_named f__law_named fd) : Fn5 P w K mg base 1 f__law_named fd p__law_named (S_namedL XQ) := by
  have sc := sc__law_named
  have tx : TxW K XQ := ⟨⟨T.cl_Cell, T.n_Cell_birth, T.n_Cell_bulk, T.n_Cell_tone, T.n_Cell_load, T.n_Cell_fields, T.cl_Heap, T.n_Heap_room, T.n_Heap_cells, T.n_Heap_used, T.n_Heap_born, T.eq_Cell⟩, T.cl_World, T.n_World_heap, T.n_World_kind, T.n_World_hands, T.n_World_names, T.n_World_sweeper, T.cl_Hand, T.n_Hand_name, T.n_Hand_slots, T.cl_Kind, T.n_Kind_looking, T.n_Kind_tells, T.cl_Sweeper, T.n_Sweeper_sense, T.n_Sweeper_phase, T.n_Sweeper_grey, T.n_Sweeper_looked, T.n_Sweeper_turn, T.n_Sweeper_at, T.n_Sweeper_stop, T.n_Sweeper_walks, T.n_Sweeper_looks, T.n_Sweeper_passes, T.n_Sweeper_loss⟩
  refine G.fok F sc (fun vs H Q E h => ?_) (fun cdv A outer s H vs Q E hr h => ?_)
  · obtain ⟨z0, z1, z2, z3, z4, rfl, q⟩ := h; rfl
  · refine ⟨rd__law_named K, (pss_cons (ps_dput (hu_of hr) (pe_fld (pv 0) rfl) (pv 3) (pe_tup (pa_cons (pv 4) (pa_cons (pe_ix ix_list (pe_ix ix_list (pv 1) (pv 4) (fun _ _ => rfl)) (pe_int) (fun _ _ => rfl)) pa_nil))) rfl)
      (pss_cons (ps_for PassesOwn.never rfl (pi_list (pv 2)) (pg_name (i := 5) sc.nd rfl (Or.inl rfl))
      (pss_one (ps_if (pt_cmpR op_eq (pe_ix ix_list (pv 5) (pe_int) (fun _ _ => rfl)) (pv 3) (nomark _)) (pss_cons (ps_asg (pv 4) (pg_sub (pv 5) (pe_int) set_list))
      (pss_cons (ps_asg (pe_ix ix_list (pe_ix ix_list (pv 1) (pv 4) (fun _ _ => rfl)) (pe_int) (fun _ _ => rfl)) (pg_sub (pv 5) (pe_int) set_list))
      (pss_one (ps_ret (pe_bl))))) pss_nil)))
      (pss_cons (ps_expr (pe_bm PySem.F.plainAttrs_list PySem.F.slot_list_append PySem.F.type_list_append mt_append (pv 2) (pa_cons (pe_lst (pa_cons (pv 3) (pa_cons (pv 4) (pa_cons (pe_ix ix_list (pe_ix ix_list (pv 1) (pv 4) (fun _ _ => rfl)) (pe_int) (fun _ _ => rfl)) pa_nil)))) pa_nil)))
      (pss_one (ps_ret (pe_bl)))))), ?_⟩
    obtain ⟨z0, z1, z2, z3, z4, rfl, q⟩ := h
    exact _law_named_rd tx q
theorem ok__law_noted {fd : FuncData} (F : Fun K "_law_noted" "_law_noted" s__law_noted f__law_noted fd) {fd__law_same : FuncData} (G__law_same : Hh P w K mg base 4 f__law_same fd__law_same p__law_same (S_same 3)) {fd_note : FuncData} (G_note : Hh P w K mg base 2 f_note fd_note p_note (S_note XQ)) : Fn5 P w K mg base 5 f__law_noted fd p__law_noted (S_notedL XQ) := by
  have sc := sc__law_noted
  have tx : TxW K XQ := ⟨⟨T.cl_Cell, T.n_Cell_birth, T.n_Cell_bulk, T.n_Cell_tone, T.n_Cell_load, T.n_Cell_fields, T.cl_Heap, T.n_Heap_room, T.n_Heap_cells, T.n_Heap_used, T.n_Heap_born, T.eq_Cell⟩, T.cl_World, T.n_World_heap, T.n_World_kind, T.n_World_hands, T.n_World_names, T.n_World_sweeper, T.cl_Hand, T.n_Hand_name, T.n_Hand_slots, T.cl_Kind, T.n_Kind_looking, T.n_Kind_tells, T.cl_Sweeper, T.n_Sweeper_sense, T.n_Sweeper_phase, T.n_Sweeper_grey, T.n_Sweeper_looked, T.n_Sweeper_turn, T.n_Sweeper_at, T.n_Sweeper_stop, T.n_Sweeper_walks, T.n_Sweeper_looks, T.n_Sweeper_passes, T.n_Sweeper_loss⟩
  refine G.fok F sc (fun vs H Q E h => ?_) (fun cdv A outer s H vs Q E hr h => ?_)
  · obtain ⟨z0, z1, z2, z3, rfl, q⟩ := h; rfl
  · refine ⟨rd__law_noted K (S_same 3) (S_note XQ), (pss_cons (ps_set (i := 4) sc.nd rfl (Or.inl rfl) (pe_non))
      (pss_cons (ps_if (PW.pt (pw_and (pt_val (pv 2)) (pw_and1 (pt_cmpR op_eq (pe_ix ix_list (pe_ix ix_list (pv 1) (pv 3) (fun _ _ => rfl)) (pe_int) (fun _ _ => rfl)) (pe_str) (nomark _))))) (pss_cons (ps_set (i := 4) sc.nd rfl (Or.inl rfl) (pe_ix ix_list (pe_ix ix_list (pv 1) (pv 3) (fun _ _ => rfl)) (pe_int) (fun _ _ => rfl)))
      (pss_one (ps_asg (pe_str) (pg_sub (pe_ix ix_list (pv 1) (pv 3) (fun _ _ => rfl)) (pe_int) set_list)))) pss_nil)
      (pss_one (ps_ret (pcl G__law_same hr T.m__law_same (pa_cons (pcl G_note hr T.m_note (pa_cons (pv 0) (pa_cons (pv 3) pa_nil))) (pa_cons (pv 4) pa_nil))))))), ?_⟩
    obtain ⟨z0, z1, z2, z3, rfl, q⟩ := h
    exact _law_noted_rd q
theorem ok__law_turn {fd : FuncData} (F : Fun K "_law_turn" "_law_turn" s__law_turn f__law_turn fd) {fd_Heap_back : FuncData} (G_Heap_back : Hh P w K mg base 2 f_Heap_back fd_Heap_back p_Heap_back (S_Heap_back XQ.C XQ.H)) {fd__law_make : FuncData} (G__law_make : Hh P w K mg base 5 f__law_make fd__law_make p__law_make (S_makeL XQ)) {fd__law_mix : FuncData} (G__law_mix : Hh P w K mg base 1 f__law_mix fd__law_mix p__law_mix (S_mix)) {fd__law_named : FuncData} (G__law_named : Hh P w K mg base 1 f__law_named fd__law_named p__law_named (S_namedL XQ)) {fd__law_noted : FuncData} (G__law_noted : Hh P w K mg base 5 f__law_noted fd__law_noted p__law_noted (S_notedL XQ)) {fd__law_same : FuncData} (G__law_same : Hh P w K mg base 4 f__law_same fd__law_same p__law_same (S_same 3)) : Fn5 P w K mg base 6 f__law_turn fd p__law_turn (S_turnL XQ) := by
  have sc := sc__law_turn
  have tx : TxW K XQ := ⟨⟨T.cl_Cell, T.n_Cell_birth, T.n_Cell_bulk, T.n_Cell_tone, T.n_Cell_load, T.n_Cell_fields, T.cl_Heap, T.n_Heap_room, T.n_Heap_cells, T.n_Heap_used, T.n_Heap_born, T.eq_Cell⟩, T.cl_World, T.n_World_heap, T.n_World_kind, T.n_World_hands, T.n_World_names, T.n_World_sweeper, T.cl_Hand, T.n_Hand_name, T.n_Hand_slots, T.cl_Kind, T.n_Kind_looking, T.n_Kind_tells, T.cl_Sweeper, T.n_Sweeper_sense, T.n_Sweeper_phase, T.n_Sweeper_grey, T.n_Sweeper_looked, T.n_Sweeper_turn, T.n_Sweeper_at, T.n_Sweeper_stop, T.n_Sweeper_walks, T.n_Sweeper_looks, T.n_Sweeper_passes, T.n_Sweeper_loss⟩
  refine G.fok F sc (fun vs H Q E h => ?_) (fun cdv A outer s H vs Q E hr h => ?_)
  · obtain ⟨z0, z1, z2, z3, z4, z5, z6, rfl, q⟩ := h; rfl
  · refine ⟨rd__law_turn K XQ.H (S_Heap_back XQ.C XQ.H) (S_makeL XQ) (S_mix) (S_namedL XQ) (S_notedL XQ) (S_same 3), (pss_cons (ps_set (i := 7) sc.nd rfl (Or.inl rfl) (pe_op op_mod (pcl G__law_mix hr T.m__law_mix (pa_cons (pv 6) (pa_cons (pe_int) pa_nil))) (pe_int)))
      (pss_cons (ps_set (i := 8) sc.nd rfl (Or.inl rfl) (pe_str))
      (pss_cons (ps_if (pt_cmpR op_eq (pe_ix ix_list (pv 3) (pe_int) (fun _ _ => rfl)) (pe_int) (nomark _)) (pss_one (ps_set (i := 8) sc.nd rfl (Or.inl rfl) (pe_str))) pss_nil)
      (pss_cons (ps_if (PW.pt (pw_or (pt_cmpR op_lt (pv 7) (pe_int) (nomark _)) (pw_or1 (pt_cmpR op_eq (pe_callB G.call_lenL (by rfl) T.z_len G.boot_len (pa_cons (pv 1) pa_nil)) (pe_int) (nomark _))))) (pss_one (ps_ret (pcl G__law_make hr T.m__law_make (pa_cons (pv 0) (pa_cons (pv 1) (pa_cons (pv 3) (pa_cons (pv 8) pa_nil))))))) pss_nil)
      (pss_cons (ps_set (i := 9) sc.nd rfl (Or.inl rfl) (pe_op op_mod (pcl G__law_mix hr T.m__law_mix (pa_cons (pv 6) (pa_cons (pe_int) pa_nil))) (pe_callB G.call_lenL (by rfl) T.z_len G.boot_len (pa_cons (pv 1) pa_nil))))
      (pss_cons (ps_if (pt_cmpR op_eq (pv 7) (pe_int) (nomark _)) (pss_cons (ps_asg (pv 9) (pg_sub (pe_ix ix_list (pv 2) (pe_op op_mod (pv 9) (pe_int)) (fun _ _ => rfl)) (pe_op op_mod (pe_op op_fdiv (pv 9) (pe_int)) (pe_int)) set_list))
      (pss_one (ps_asg (pv 9) (pg_sub (pe_fld (pe_ix ix_list (pe_fld (pv 0) rfl) (pe_op op_mod (pv 9) (pe_int)) (fun _ _ => rfl)) rfl) (pe_op op_mod (pe_op op_fdiv (pv 9) (pe_int)) (pe_int)) set_list)))) pss_nil)
      (pss_cons (ps_if (pt_cmpR G.op_isN_ (pe_ix ix_list (pv 1) (pv 9) (fun _ _ => rfl)) (pe_non) (nomark _)) (pss_one (ps_ret (pe_bl))) pss_nil)
      (pss_cons (ps_if (PW.pt (pw_and (pt_cmpR op_eq (pv 7) (pe_int) (nomark _)) (pw_and1 (pt_cmpR op_ne (pe_ix ix_list (pe_ix ix_list (pv 1) (pv 9) (fun _ _ => rfl)) (pe_int) (fun _ _ => rfl)) (pe_str) (nomark _))))) (pss_cons (ps_set (i := 10) sc.nd rfl (Or.inl rfl) (pe_ix ix_list (pe_ix ix_list (pv 1) (pv 9) (fun _ _ => rfl)) (pe_int) (fun _ _ => rfl)))
      (pss_cons (ps_asg (pe_non) (pg_sub (pv 1) (pv 9) set_list))
      (pss_one (ps_ret (pcl G__law_same hr T.m__law_same (pa_cons (pe_meth (pe_fld (pv 0) rfl) T.cl_Heap T.me_Heap_back G_Heap_back.g (hr.mono (by decide)) G_Heap_back.b .nil G.passE0 (pa_cons (pv 9) pa_nil)) (pa_cons (pv 10) pa_nil))))))) pss_nil)
      (pss_cons (ps_if (PW.pt (pw_and (pt_cmpR op_gt (pv 7) (pe_int) (nomark _)) (pw_and1 (pt_cmpR op_lt (pv 7) (pe_int) (nomark _))))) (pss_one (ps_ret (pcl G__law_named hr T.m__law_named (pa_cons (pv 0) (pa_cons (pv 1) (pa_cons (pv 4) (pa_cons (pe_ix ix_list (pv 5) (pe_op op_mod (pcl G__law_mix hr T.m__law_mix (pa_cons (pv 6) (pa_cons (pe_int) pa_nil))) (pe_int)) (fun _ _ => rfl)) (pa_cons (pv 9) pa_nil)))))))) pss_nil)
      (pss_cons (ps_if (pt_cmpR op_gt (pv 7) (pe_int) (nomark _)) (pss_one (ps_ret (pcl G__law_noted hr T.m__law_noted (pa_cons (pv 0) (pa_cons (pv 1) (pa_cons (pe_cmpR op_eq (pe_ix ix_list (pv 3) (pe_int) (fun _ _ => rfl)) (pe_int) (nomark _)) (pa_cons (pv 9) pa_nil))))))) pss_nil)
      (pss_one (ps_ret (pe_bl))))))))))))), ?_⟩
    obtain ⟨z0, z1, z2, z3, z4, z5, z6, rfl, q⟩ := h
    exact _law_turn_rd tx q
theorem ok__law_gone {fd : FuncData} (F : Fun K "_law_gone" "_law_gone" s__law_gone f__law_gone fd) : Fn5 P w K mg base 1 f__law_gone fd p__law_gone (S_goneL) := by
  have sc := sc__law_gone
  have tx : TxW K XQ := ⟨⟨T.cl_Cell, T.n_Cell_birth, T.n_Cell_bulk, T.n_Cell_tone, T.n_Cell_load, T.n_Cell_fields, T.cl_Heap, T.n_Heap_room, T.n_Heap_cells, T.n_Heap_used, T.n_Heap_born, T.eq_Cell⟩, T.cl_World, T.n_World_heap, T.n_World_kind, T.n_World_hands, T.n_World_names, T.n_World_sweeper, T.cl_Hand, T.n_Hand_name, T.n_Hand_slots, T.cl_Kind, T.n_Kind_looking, T.n_Kind_tells, T.cl_Sweeper, T.n_Sweeper_sense, T.n_Sweeper_phase, T.n_Sweeper_grey, T.n_Sweeper_looked, T.n_Sweeper_turn, T.n_Sweeper_at, T.n_Sweeper_stop, T.n_Sweeper_walks, T.n_Sweeper_looks, T.n_Sweeper_passes, T.n_Sweeper_loss⟩
  refine G.fok F sc (fun vs H Q E h => ?_) (fun cdv A outer s H vs Q E hr h => ?_)
  · obtain ⟨z0, z1, z2, rfl, q⟩ := h; rfl
  · refine ⟨rd__law_gone K, (pss_one (ps_ret ((pe_or (pe_cmpR G.op_isN_ (pe_ix ix_list (pv 0) (pv 1) (fun _ _ => rfl)) (pe_non) (nomark _)) (pe_one (pe_cmpR op_ne (pe_ix ix_list (pe_ix ix_list (pv 0) (pv 1) (fun _ _ => rfl)) (pe_int) (fun _ _ => rfl)) (pv 2) (nomark _))))))), ?_⟩
    obtain ⟨z0, z1, z2, rfl, q⟩ := h
    exact _law_gone_rd q
theorem ok__law_row {fd : FuncData} (F : Fun K "_law_row" "_law_row" s__law_row f__law_row fd) {fd__law_gone : FuncData} (G__law_gone : Hh P w K mg base 1 f__law_gone fd__law_gone p__law_gone (S_goneL)) : Fn5 P w K mg base 2 f__law_row fd p__law_row (S_rowL) := by
  have sc := sc__law_row
  have tx : TxW K XQ := ⟨⟨T.cl_Cell, T.n_Cell_birth, T.n_Cell_bulk, T.n_Cell_tone, T.n_Cell_load, T.n_Cell_fields, T.cl_Heap, T.n_Heap_room, T.n_Heap_cells, T.n_Heap_used, T.n_Heap_born, T.eq_Cell⟩, T.cl_World, T.n_World_heap, T.n_World_kind, T.n_World_hands, T.n_World_names, T.n_World_sweeper, T.cl_Hand, T.n_Hand_name, T.n_Hand_slots, T.cl_Kind, T.n_Kind_looking, T.n_Kind_tells, T.cl_Sweeper, T.n_Sweeper_sense, T.n_Sweeper_phase, T.n_Sweeper_grey, T.n_Sweeper_looked, T.n_Sweeper_turn, T.n_Sweeper_at, T.n_Sweeper_stop, T.n_Sweeper_walks, T.n_Sweeper_looks, T.n_Sweeper_passes, T.n_Sweeper_loss⟩
  refine G.fok F sc (fun vs H Q E h => ?_) (fun cdv A outer s H vs Q E hr h => ?_)
  · obtain ⟨z0, z1, z2, rfl, q⟩ := h; rfl
  · refine ⟨rd__law_row K (S_goneL), (pss_cons (ps_set (i := 3) sc.nd rfl (Or.inl rfl) (pe_lst pa_nil))
      (pss_cons (ps_for PassesOwn.never rfl (pi_list (pv 1)) (pg_name (i := 4) sc.nd rfl (Or.inl rfl))
      (pss_one (ps_if (PW.pt (pw_or (pt_val (pcl G__law_gone hr T.m__law_gone (pa_cons (pv 0) (pa_cons (pe_ix ix_list (pv 4) (pe_int) (fun _ _ => rfl)) (pa_cons (pe_ix ix_list (pv 4) (pe_int) (fun _ _ => rfl)) pa_nil))))) (pw_or1 (PW.pt (pw_and (pt_val (pv 2)) (pw_and1 (pt_cmpR op_eq (pe_ix ix_list (pe_ix ix_list (pv 0) (pe_ix ix_list (pv 4) (pe_int) (fun _ _ => rfl)) (fun _ _ => rfl)) (pe_int) (fun _ _ => rfl)) (pe_str) (nomark _)))))))) (pss_one (ps_expr (pe_bm PySem.F.plainAttrs_list PySem.F.slot_list_append PySem.F.type_list_append mt_append (pv 3) (pa_cons (pe_non) pa_nil)))) (pss_one (ps_expr (pe_bm PySem.F.plainAttrs_list PySem.F.slot_list_append PySem.F.type_list_append mt_append (pv 3) (pa_cons (pe_ix ix_list (pv 4) (pe_int) (fun _ _ => rfl)) pa_nil)))))))
      (pss_one (ps_ret (pv 3))))), ?_⟩
    obtain ⟨z0, z1, z2, rfl, q⟩ := h
    exact _law_row_rd q
theorem ok__law_looks {fd : FuncData} (F : Fun K "_law_looks" "_law_looks" s__law_looks f__law_looks fd) {fd__law_gone : FuncData} (G__law_gone : Hh P w K mg base 1 f__law_gone fd__law_gone p__law_gone (S_goneL)) {fd__law_same : FuncData} (G__law_same : Hh P w K mg base 4 f__law_same fd__law_same p__law_same (S_same 3)) {fd_gone : FuncData} (G_gone : Hh P w K mg base 2 f_gone fd_gone p_gone (S_gone XQ)) {fd_held : FuncData} (G_held : Hh P w K mg base 1 f_held fd_held ["world"] (S_held XQ)) : Fn5 P w K mg base 5 f__law_looks fd p__law_looks (S_looksL XQ) := by
  have sc := sc__law_looks
  have tx : TxW K XQ := ⟨⟨T.cl_Cell, T.n_Cell_birth, T.n_Cell_bulk, T.n_Cell_tone, T.n_Cell_load, T.n_Cell_fields, T.cl_Heap, T.n_Heap_room, T.n_Heap_cells, T.n_Heap_used, T.n_Heap_born, T.eq_Cell⟩, T.cl_World, T.n_World_heap, T.n_World_kind, T.n_World_hands, T.n_World_names, T.n_World_sweeper, T.cl_Hand, T.n_Hand_name, T.n_Hand_slots, T.cl_Kind, T.n_Kind_looking, T.n_Kind_tells, T.cl_Sweeper, T.n_Sweeper_sense, T.n_Sweeper_phase, T.n_Sweeper_grey, T.n_Sweeper_looked, T.n_Sweeper_turn, T.n_Sweeper_at, T.n_Sweeper_stop, T.n_Sweeper_walks, T.n_Sweeper_looks, T.n_Sweeper_passes, T.n_Sweeper_loss⟩
  refine G.fok F sc (fun vs H Q E h => ?_) (fun cdv A outer s H vs Q E hr h => ?_)
  · obtain ⟨z0, z1, z2, z3, z4, z5, rfl, q⟩ := h; rfl
  · refine ⟨rd__law_looks K (S_goneL) (S_same 3) (S_gone XQ) (S_held XQ), (pss_cons (ps_for PassesOwn.never rfl (pi_list (pv 4)) (pg_name (i := 6) sc.nd rfl (Or.inl rfl))
      (pss_cons (ps_if (pt_not (pt_val (pcl G__law_same hr T.m__law_same (pa_cons (pcl G_gone hr T.m_gone (pa_cons (pv 0) (pa_cons (pe_ix ix_list (pv 6) (pe_int) (fun _ _ => rfl)) (pa_cons (pe_ix ix_list (pv 6) (pe_int) (fun _ _ => rfl)) pa_nil)))) (pa_cons (pcl G__law_gone hr T.m__law_gone (pa_cons (pv 1) (pa_cons (pe_ix ix_list (pv 6) (pe_int) (fun _ _ => rfl)) (pa_cons (pe_ix ix_list (pv 6) (pe_int) (fun _ _ => rfl)) pa_nil)))) pa_nil))))) (pss_one (ps_ret (pe_bl))) pss_nil)
      (pss_cons (ps_set (i := 7) sc.nd rfl (Or.inl rfl) (pe_op op_add (pe_ix ix_list (pv 6) (pe_int) (fun _ _ => rfl)) (pv 5)))
      (pss_one (ps_if (pt_not (pt_val (pcl G__law_same hr T.m__law_same (pa_cons (pcl G_gone hr T.m_gone (pa_cons (pv 0) (pa_cons (pe_ix ix_list (pv 6) (pe_int) (fun _ _ => rfl)) (pa_cons (pv 7) pa_nil)))) (pa_cons (pcl G__law_gone hr T.m__law_gone (pa_cons (pv 1) (pa_cons (pe_ix ix_list (pv 6) (pe_int) (fun _ _ => rfl)) (pa_cons (pv 7) pa_nil)))) pa_nil))))) (pss_one (ps_ret (pe_bl))) pss_nil)))))
      (pss_one (ps_ret (pcl G__law_same hr T.m__law_same (pa_cons (pcl G_held hr T.m_held (pa_cons (pv 0) pa_nil)) (pa_cons (pv 2) pa_nil)))))), ?_⟩
    obtain ⟨z0, z1, z2, z3, z4, z5, rfl, q⟩ := h
    exact _law_looks_rd q
theorem ok_law {fl : Addr} {fd : FuncData} (F : Fun K "law" "law" s_law fl fd) {fd_World___init__ : FuncData} (G_World___init__ : Hh P w K mg base 3 f_World___init__ fd_World___init__ p_World___init__ (S_World_init XQ)) {fd__law_cell_at : FuncData} (G__law_cell_at : Hh P w K mg base 1 f__law_cell_at fd__law_cell_at p__law_cell_at (S_at K)) {fd__law_kind : FuncData} (G__law_kind : Hh P w K mg base 2 f__law_kind fd__law_kind p__law_kind (S_kindL)) {fd__law_looks : FuncData} (G__law_looks : Hh P w K mg base 5 f__law_looks fd__law_looks p__law_looks (S_looksL XQ)) {fd__law_mix : FuncData} (G__law_mix : Hh P w K mg base 1 f__law_mix fd__law_mix p__law_mix (S_mix)) {fd__law_names : FuncData} (G__law_names : Hh P w K mg base 2 f__law_names fd__law_names p__law_names (S_names)) {fd__law_row : FuncData} (G__law_row : Hh P w K mg base 2 f__law_row fd__law_row p__law_row (S_rowL)) {fd__law_same : FuncData} (G__law_same : Hh P w K mg base 4 f__law_same fd__law_same p__law_same (S_same 3)) {fd__law_turn : FuncData} (G__law_turn : Hh P w K mg base 6 f__law_turn fd__law_turn p__law_turn (S_turnL XQ)) {fd_begin : FuncData} (G_begin : Hh P w K mg base 3 f_begin fd_begin ["world"] (S_begin XQ)) {fd_kind_of : FuncData} (G_kind_of : Hh P w K mg base 3 f_kind_of fd_kind_of ["text"] (S_kind_of XQ)) {fd_roots : FuncData} (G_roots : Hh P w K mg base 4 f_roots fd_roots ["world"] (S_roots XQ)) : Fn5 P w K mg base 7 fl fd ["_law_script"] (S_law K) := by
  have sc := sc_law
  have tx : TxW K XQ := ⟨⟨T.cl_Cell, T.n_Cell_birth, T.n_Cell_bulk, T.n_Cell_tone, T.n_Cell_load, T.n_Cell_fields, T.cl_Heap, T.n_Heap_room, T.n_Heap_cells, T.n_Heap_used, T.n_Heap_born, T.eq_Cell⟩, T.cl_World, T.n_World_heap, T.n_World_kind, T.n_World_hands, T.n_World_names, T.n_World_sweeper, T.cl_Hand, T.n_Hand_name, T.n_Hand_slots, T.cl_Kind, T.n_Kind_looking, T.n_Kind_tells, T.cl_Sweeper, T.n_Sweeper_sense, T.n_Sweeper_phase, T.n_Sweeper_grey, T.n_Sweeper_looked, T.n_Sweeper_turn, T.n_Sweeper_at, T.n_Sweeper_stop, T.n_Sweeper_walks, T.n_Sweeper_looks, T.n_Sweeper_passes, T.n_Sweeper_loss⟩
  refine G.fok F sc (fun vs H Q E h => ?_) (fun cdv A outer s H vs Q E hr h => ?_)
  · obtain ⟨z0, rfl, q⟩ := h; rfl
  · refine ⟨rd_law K XQ.W (S_World_init XQ) (S_at K) (S_kindL) (S_looksL XQ) (S_mix) (S_names) (S_rowL) (S_same 3) (S_turnL XQ) (S_begin XQ) (S_kind_of XQ) (S_roots XQ), (pss_cons (ps_set (i := 1) sc.nd rfl (Or.inl rfl) (pcl G__law_kind hr T.m__law_kind (pa_cons (pcl G__law_cell_at hr T.m__law_cell_at (pa_cons (pv 0) (pa_cons (pe_int) pa_nil))) pa_nil)))
      (pss_cons (ps_set (i := 2) sc.nd rfl (Or.inl rfl) (pe_op op_add (pe_int) (pe_op op_mod (pcl G__law_cell_at hr T.m__law_cell_at (pa_cons (pv 0) (pa_cons (pe_int) pa_nil))) (pe_int))))
      (pss_cons (ps_set (i := 3) sc.nd rfl (Or.inl rfl) (pcl G__law_names hr T.m__law_names (pa_cons (pe_op op_fdiv (pcl G__law_cell_at hr T.m__law_cell_at (pa_cons (pv 0) (pa_cons (pe_int) pa_nil))) (pe_int)) (pa_cons (pe_int) pa_nil))))
      (pss_cons (ps_set (i := 4) sc.nd rfl (Or.inl rfl) (pe_make T.mk_World G_World___init__.g (hr.mono (by decide)) rfl T.m_World G_World___init__.b .nil G.passE0 (pa_cons (pe_op op_pow (pe_int) (pe_int)) (pa_cons (pcl G_kind_of hr T.m_kind_of (pa_cons (pv 1) pa_nil)) (pa_cons (pe_lst (pa_cons (pe_tup (pa_cons (pe_str) (pa_cons (pe_int) pa_nil))) (pa_cons (pe_tup (pa_cons (pe_str) (pa_cons (pe_int) pa_nil))) pa_nil))) pa_nil)))))
      (pss_cons (ps_set (i := 5) sc.nd rfl (Or.inl rfl) (pe_lst pa_nil))
      (pss_cons (ps_set (i := 6) sc.nd rfl (Or.inl rfl) (pe_lst (pa_cons (pe_lst (pa_cons (pe_non) (pa_cons (pe_non) (pa_cons (pe_non) pa_nil)))) (pa_cons (pe_lst (pa_cons (pe_non) (pa_cons (pe_non) (pa_cons (pe_non) pa_nil)))) pa_nil))))
      (pss_cons (ps_set (i := 7) sc.nd rfl (Or.inl rfl) (pe_lst (pa_cons (pe_int) (pa_cons (pe_int) pa_nil))))
      (pss_cons (ps_set (i := 8) sc.nd rfl (Or.inl rfl) (pe_lst pa_nil))
      (pss_cons (ps_set (i := 9) sc.nd rfl (Or.inl rfl) (pe_lst pa_nil))
      (pss_cons (ps_for PassesOwn.never rfl (G.pi_enum rfl T.z_enumerate (pa_cons (pe_slice sl_list (pv 0) (po_some (pe_int)) (po_some (pe_int))) pa_nil)) (pg_tup rfl (pgs_cons (pg_name (i := 10) sc.nd rfl (Or.inl rfl)) (pgs_cons (pg_name (i := 11) sc.nd rfl (Or.inl rfl)) pgs_nil)))
      (pss_cons (ps_if (pt_cmpR op_eq (pe_op op_add (pv 10) (pe_int)) (pv 2) (nomark _)) (pss_cons (ps_asg (pe_int) (pg_sub (pv 7) (pe_int) set_list))
      (pss_one (ps_expr (pcl G_begin hr T.m_begin (pa_cons (pv 4) pa_nil))))) pss_nil)
      (pss_cons (ps_if (pt_not (pt_val (pcl G__law_turn hr T.m__law_turn (pa_cons (pv 4) (pa_cons (pv 5) (pa_cons (pv 6) (pa_cons (pv 7) (pa_cons (pv 8) (pa_cons (pv 3) (pa_cons (pv 11) pa_nil)))))))))) (pss_one (ps_ret (pe_bl))) pss_nil)
      (pss_cons (ps_set (i := 12) sc.nd rfl (Or.inl rfl) (pcl G_roots hr T.m_roots (pa_cons (pv 4) pa_nil)))
      (pss_cons (ps_set (i := 13) sc.nd rfl (Or.inl rfl) (pe_op op_cat (G.pe_lc (cns := []) [] (pi_list (pv 6)) (fun _ _ _ _ _ => G.pf_nil) (fun _ _ _ _ _ => (pe_callTy G.call_listL (by rfl) T.z_list G.boot_list (pa_cons (pv 0) pa_nil))) rfl rfl (by repeat (first | exact trivial | refine ⟨rfl, ?_⟩)) (by repeat (first | exact trivial | refine ⟨rfl, ?_⟩)) rfl (by decide +kernel) rfl (by decide +kernel) (by decide +kernel) rfl (by decide +kernel)) (pe_lst (pa_cons (pcl G__law_row hr T.m__law_row (pa_cons (pv 5) (pa_cons (pv 8) (pa_cons (pe_cmpR op_eq (pe_ix ix_list (pv 7) (pe_int) (fun _ _ => rfl)) (pe_int) (nomark _)) pa_nil)))) pa_nil))))
      (pss_cons (ps_if (pt_not (pt_val (pcl G__law_same hr T.m__law_same (pa_cons (pv 12) (pa_cons (pv 13) pa_nil))))) (pss_one (ps_ret (pe_bl))) pss_nil)
      (pss_cons (ps_if (pt_not (pt_val (pcl G__law_looks hr T.m__law_looks (pa_cons (pv 4) (pa_cons (pv 5) (pa_cons (pv 6) (pa_cons (pv 7) (pa_cons (pv 8) (pa_cons (pe_op op_sub (pe_op op_mod (pcl G__law_mix hr T.m__law_mix (pa_cons (pv 11) (pa_cons (pe_int) pa_nil))) (pe_int)) (pe_int)) pa_nil))))))))) (pss_one (ps_ret (pe_bl))) pss_nil)
      (pss_cons (ps_expr (pe_bm PySem.F.plainAttrs_list PySem.F.slot_list_append PySem.F.type_list_append mt_append (pv 9) (pa_cons (pe_tup (pa_cons (pv 12) (pa_cons (pv 13) pa_nil))) pa_nil)))
      (pss_one (ps_expr (pe_bm PySem.F.plainAttrs_list PySem.F.slot_list_append PySem.F.type_list_append mt_append (pe_ix ix_list (pcl G_roots hr T.m_roots (pa_cons (pv 4) pa_nil)) (pe_int) (fun _ _ => rfl)) (pa_cons (pe_int) pa_nil))))))))))))
      (pss_cons (ps_for PassesOwn.never rfl (pi_list (pv 9)) (pg_tup rfl (pgs_cons (pg_name (i := 12) sc.nd rfl (Or.inl rfl)) (pgs_cons (pg_name (i := 13) sc.nd rfl (Or.inl rfl)) pgs_nil)))
      (pss_one (ps_if (pt_not (pt_val (pcl G__law_same hr T.m__law_same (pa_cons (pv 12) (pa_cons (pv 13) pa_nil))))) (pss_one (ps_ret (pe_bl))) pss_nil)))
      (pss_one (ps_ret (pe_bl)))))))))))))), ?_⟩
    obtain ⟨z0, rfl, q⟩ := h
    exact law_rd tx q
end
abbrev Fi (K : PySem.W.Frag) (c : Addr) (s : Str) (f : Addr) : Prop := PySem.W.findIn K (.ref c) s = some (some (.ref f))
abbrev Fo (K : PySem.W.Frag) (c : Addr) (s : Str) : Prop := PySem.W.findIn K (.ref c) s = some none
abbrev Ns (K : PySem.W.Frag) (s : Str) (f : Addr) : Prop := PySem.W.nsIn K mainGlobals s = some (some (.ref f))
abbrev Ki (K : PySem.W.Frag) (f : Addr) : Prop := PySem.W.keepIn K (.ref f) = true
abbrev Ci (K : PySem.W.Frag) (c : Value) (s : Str) : Prop := PySem.W.codeIn K c s = true
abbrev Lk (K : PySem.W.Frag) (f : Addr) (a b : Str) (s : Stmt) (d : Value) (oc : Value) (od : Option Addr) (kV dc pm : Value) (an : Option Addr) (cd ct : Value) (sl : Array (Option Value)) : Prop := K.lookup f = some ⟨oc, od, .func (PySem.W.fnOf a b (defArgs s) (defBody s) (defScope s) d kV dc pm an cd ct), sl⟩
def FnG (K : PySem.W.Frag) (x q : Str) (s : Stmt) (f : Addr) : Prop := ∃ oc od kV dc pm an cd ct sl, Lk K f x q s .none oc od kV dc pm an cd ct sl ∧ Ci K cd q ∧ Ki K f
theorem fgm {K : PySem.W.Frag} {x q : Str} {s : Stmt} {f : Addr} {oc : Value} {od : Option Addr} {kV dc pm : Value} {an : Option Addr} {cd ct : Value} {sl : Array (Option Value)} (l : Lk K f x q s .none oc od kV dc pm an cd ct sl) (c : Ci K cd q) (k : Ki K f) : FnG K x q s f := ⟨oc, od, kV, dc, pm, an, cd, ct, sl, l, c, k⟩
theorem fg {K : PySem.W.Frag} {x q : Str} {s : Stmt} {f : Addr} (h : FnG K x q s f) : ∃ fd, Fun K x q s f fd ∧ Ki K f := by
  obtain ⟨oc, od, kV, dc, pm, an, cd, ct, sl, l, c, k⟩ := h
  exact ⟨_, fun_mk l c k, k⟩
theorem bd1 {K : PySem.W.Frag} {x qual : Str} {st : Stmt} {f : Addr} {fd : FuncData} (F : Fun K x qual st f fd) (a0 : Str) (h : ∀ (kV doc pm : Value) (an : Option Addr) (cdv ct u0 : Value), bindArgs (PySem.W.fnOf x qual (defArgs st) (defBody st) (defScope st) .none kV doc pm an cdv ct) ⟨[u0], []⟩ = pure (([a0] : List Str).zip [u0]) := by intros; rfl) : Binds K fd [a0] [] := F.binds fun kV doc pm an cdv ct us hl => match us, hl with | [u0], _ => h kV doc pm an cdv ct u0
theorem bd2 {K : PySem.W.Frag} {x qual : Str} {st : Stmt} {f : Addr} {fd : FuncData} (F : Fun K x qual st f fd) (a0 a1 : Str) (h : ∀ (kV doc pm : Value) (an : Option Addr) (cdv ct u0 u1 : Value), bindArgs (PySem.W.fnOf x qual (defArgs st) (defBody st) (defScope st) .none kV doc pm an cdv ct) ⟨[u0, u1], []⟩ = pure (([a0, a1] : List Str).zip [u0, u1]) := by intros; rfl) : Binds K fd [a0, a1] [] := F.binds fun kV doc pm an cdv ct us hl => match us, hl with | [u0, u1], _ => h kV doc pm an cdv ct u0 u1
theorem bd3 {K : PySem.W.Frag} {x qual : Str} {st : Stmt} {f : Addr} {fd : FuncData} (F : Fun K x qual st f fd) (a0 a1 a2 : Str) (h : ∀ (kV doc pm : Value) (an : Option Addr) (cdv ct u0 u1 u2 : Value), bindArgs (PySem.W.fnOf x qual (defArgs st) (defBody st) (defScope st) .none kV doc pm an cdv ct) ⟨[u0, u1, u2], []⟩ = pure (([a0, a1, a2] : List Str).zip [u0, u1, u2]) := by intros; rfl) : Binds K fd [a0, a1, a2] [] := F.binds fun kV doc pm an cdv ct us hl => match us, hl with | [u0, u1, u2], _ => h kV doc pm an cdv ct u0 u1 u2
theorem bd4 {K : PySem.W.Frag} {x qual : Str} {st : Stmt} {f : Addr} {fd : FuncData} (F : Fun K x qual st f fd) (a0 a1 a2 a3 : Str) (h : ∀ (kV doc pm : Value) (an : Option Addr) (cdv ct u0 u1 u2 u3 : Value), bindArgs (PySem.W.fnOf x qual (defArgs st) (defBody st) (defScope st) .none kV doc pm an cdv ct) ⟨[u0, u1, u2, u3], []⟩ = pure (([a0, a1, a2, a3] : List Str).zip [u0, u1, u2, u3]) := by intros; rfl) : Binds K fd [a0, a1, a2, a3] [] := F.binds fun kV doc pm an cdv ct us hl => match us, hl with | [u0, u1, u2, u3], _ => h kV doc pm an cdv ct u0 u1 u2 u3
theorem bd5 {K : PySem.W.Frag} {x qual : Str} {st : Stmt} {f : Addr} {fd : FuncData} (F : Fun K x qual st f fd) (a0 a1 a2 a3 a4 : Str) (h : ∀ (kV doc pm : Value) (an : Option Addr) (cdv ct u0 u1 u2 u3 u4 : Value), bindArgs (PySem.W.fnOf x qual (defArgs st) (defBody st) (defScope st) .none kV doc pm an cdv ct) ⟨[u0, u1, u2, u3, u4], []⟩ = pure (([a0, a1, a2, a3, a4] : List Str).zip [u0, u1, u2, u3, u4]) := by intros; rfl) : Binds K fd [a0, a1, a2, a3, a4] [] := F.binds fun kV doc pm an cdv ct us hl => match us, hl with | [u0, u1, u2, u3, u4], _ => h kV doc pm an cdv ct u0 u1 u2 u3 u4
theorem bd6 {K : PySem.W.Frag} {x qual : Str} {st : Stmt} {f : Addr} {fd : FuncData} (F : Fun K x qual st f fd) (a0 a1 a2 a3 a4 a5 : Str) (h : ∀ (kV doc pm : Value) (an : Option Addr) (cdv ct u0 u1 u2 u3 u4 u5 : Value), bindArgs (PySem.W.fnOf x qual (defArgs st) (defBody st) (defScope st) .none kV doc pm an cdv ct) ⟨[u0, u1, u2, u3, u4, u5], []⟩ = pure (([a0, a1, a2, a3, a4, a5] : List Str).zip [u0, u1, u2, u3, u4, u5]) := by intros; rfl) : Binds K fd [a0, a1, a2, a3, a4, a5] [] := F.binds fun kV doc pm an cdv ct us hl => match us, hl with | [u0, u1, u2, u3, u4, u5], _ => h kV doc pm an cdv ct u0 u1 u2 u3 u4 u5
theorem bd7 {K : PySem.W.Frag} {x qual : Str} {st : Stmt} {f : Addr} {fd : FuncData} (F : Fun K x qual st f fd) (a0 a1 a2 a3 a4 a5 a6 : Str) (h : ∀ (kV doc pm : Value) (an : Option Addr) (cdv ct u0 u1 u2 u3 u4 u5 u6 : Value), bindArgs (PySem.W.fnOf x qual (defArgs st) (defBody st) (defScope st) .none kV doc pm an cdv ct) ⟨[u0, u1, u2, u3, u4, u5, u6], []⟩ = pure (([a0, a1, a2, a3, a4, a5, a6] : List Str).zip [u0, u1, u2, u3, u4, u5, u6]) := by intros; rfl) : Binds K fd [a0, a1, a2, a3, a4, a5, a6] [] := F.binds fun kV doc pm an cdv ct us hl => match us, hl with | [u0, u1, u2, u3, u4, u5, u6], _ => h kV doc pm an cdv ct u0 u1 u2 u3 u4 u5 u6
theorem all_mk {l : PySem.W.OpenLaw} {w : World} {K : PySem.W.Frag} {h : Heap} {mg : Str → Option Value} {fa fl C_Cell C_Heap C_Hand C_Sweeper C_World C_First C_Each C_Last C_Kind C_Full f_Cell___init__ f_Cell_units f_Heap___init__ f_Heap_make f_Heap_lay f_Heap_back f_Heap_free f_cell_at f_Hand___init__ f_Sweeper___init__ f_World___init__ f_held f_has_sense f_is_walking f_begin f_note f_gone f_roots f_root_of f_all_of f_Looking_at_begin f_First_word f_First_at_begin f_Each_word f_Last_word f_Kind___init__ f_Kind_words f_kind_of f__law_mix f__law_cell_at f__law_names f__law_same f__law_kind f__law_least f__law_make f__law_named f__law_noted f__law_turn f__law_gone f__law_row f__law_looks : Addr} (KI : K.In h) (GN : h.Ns mainGlobals mg) (hfa : mg "law" = some (.ref fa))
    {od4 an4 to4 od42 an42 : Option Addr}
    {sl4 ts4 sl42 : Array (Option Value)}
    {oc4 kV4 dc4 pm4 cd4 ct4 tc4 dv4_0 dv4_1 oc42 kV42 dc42 pm42 cd42 ct42 u_NEW u_OLD : Value}
    {td4 : Addr}
    {tn4 : Nat}
    (a_Cell : Ns K "Cell" C_Cell)
    (a_Heap : Ns K "Heap" C_Heap)
    (a_Hand : Ns K "Hand" C_Hand)
    (a_Sweeper : Ns K "Sweeper" C_Sweeper)
    (a_World : Ns K "World" C_World)
    (a_First : Ns K "First" C_First)
    (a_Each : Ns K "Each" C_Each)
    (a_Last : Ns K "Last" C_Last)
    (a_Kind : Ns K "Kind" C_Kind)
    (a_Full : Ns K "Full" C_Full)
    (a1 : Fi K C_Cell "__init__" f_Cell___init__)
    (i1 : PySem.W.isFn K (.ref f_Cell___init__) = true)
    (a2 : Fi K C_Cell "units" f_Cell_units)
    (i2 : PySem.W.isFn K (.ref f_Cell_units) = true)
    (a3 : Fi K C_Heap "__init__" f_Heap___init__)
    (i3 : PySem.W.isFn K (.ref f_Heap___init__) = true)
    (a4 : Fi K C_Heap "make" f_Heap_make)
    (i4 : PySem.W.isFn K (.ref f_Heap_make) = true)
    (l4 : Lk K f_Heap_make "make" "Heap.make" s_Heap_make (.ref td4) oc4 od4 kV4 dc4 pm4 an4 cd4 ct4 sl4)
    (t4 : K.lookup td4 = some ⟨tc4, to4, .seq #[dv4_0, dv4_1] tn4, ts4⟩)
    (dr4_0 : RelV (.int 0) dv4_0)
    (dr4_1 : RelV (.int 0) dv4_1)
    (c4 : Ci K cd4 "Heap.make")
    (k4 : Ki K f_Heap_make)
    (a5 : Fi K C_Heap "lay" f_Heap_lay)
    (i5 : PySem.W.isFn K (.ref f_Heap_lay) = true)
    (a6 : Fi K C_Heap "back" f_Heap_back)
    (i6 : PySem.W.isFn K (.ref f_Heap_back) = true)
    (a7 : Fi K C_Heap "free" f_Heap_free)
    (i7 : PySem.W.isFn K (.ref f_Heap_free) = true)
    (a8 : Ns K "cell_at" f_cell_at)
    (a9 : Fi K C_Hand "__init__" f_Hand___init__)
    (i9 : PySem.W.isFn K (.ref f_Hand___init__) = true)
    (a10 : Fi K C_Sweeper "__init__" f_Sweeper___init__)
    (i10 : PySem.W.isFn K (.ref f_Sweeper___init__) = true)
    (a11 : Fi K C_World "__init__" f_World___init__)
    (i11 : PySem.W.isFn K (.ref f_World___init__) = true)
    (a12 : Ns K "held" f_held)
    (a13 : Ns K "has_sense" f_has_sense)
    (a14 : Ns K "is_walking" f_is_walking)
    (a15 : Ns K "begin" f_begin)
    (a16 : Ns K "note" f_note)
    (a17 : Ns K "gone" f_gone)
    (a18 : Ns K "roots" f_roots)
    (a19 : Ns K "root_of" f_root_of)
    (a20 : Ns K "all_of" f_all_of)
    (a21 : Fi K C_Each "at_begin" f_Looking_at_begin)
    (i21 : PySem.W.isFn K (.ref f_Looking_at_begin) = true)
    (a22 : Fi K C_First "word" f_First_word)
    (i22 : PySem.W.isFn K (.ref f_First_word) = true)
    (a23 : Fi K C_First "at_begin" f_First_at_begin)
    (i23 : PySem.W.isFn K (.ref f_First_at_begin) = true)
    (a24 : Fi K C_Each "word" f_Each_word)
    (i24 : PySem.W.isFn K (.ref f_Each_word) = true)
    (a25 : Fi K C_Last "word" f_Last_word)
    (i25 : PySem.W.isFn K (.ref f_Last_word) = true)
    (a26 : Fi K C_Kind "__init__" f_Kind___init__)
    (i26 : PySem.W.isFn K (.ref f_Kind___init__) = true)
    (a27 : Fi K C_Kind "words" f_Kind_words)
    (i27 : PySem.W.isFn K (.ref f_Kind_words) = true)
    (a28 : Ns K "kind_of" f_kind_of)
    (a29 : Ns K "_law_mix" f__law_mix)
    (a30 : Ns K "_law_cell_at" f__law_cell_at)
    (a31 : Ns K "_law_names" f__law_names)
    (a32 : Ns K "_law_same" f__law_same)
    (a33 : Ns K "_law_kind" f__law_kind)
    (a34 : Ns K "_law_least" f__law_least)
    (a35 : Ns K "_law_make" f__law_make)
    (a36 : Ns K "_law_named" f__law_named)
    (a37 : Ns K "_law_noted" f__law_noted)
    (a38 : Ns K "_law_turn" f__law_turn)
    (a39 : Ns K "_law_gone" f__law_gone)
    (a40 : Ns K "_law_row" f__law_row)
    (a41 : Ns K "_law_looks" f__law_looks)
    (a42 : Ns K "law" fl)
    (l42 : Lk K fl "law" "law" s_law .none oc42 od42 kV42 dc42 pm42 an42 cd42 ct42 sl42)
    (c42 : Ci K cd42 "law")
    (k42 : Ki K fl)
    (pg_Cell : PySem.W.plainGet K C_Cell Str.empty = true)
    (hd_Cell : PySem.W.hasDictIn K C_Cell = true)
    (po_Cell : PySem.W.plainOver K C_Cell = true)
    (sa_Cell : PySem.W.findIn K (.ref C_Cell) "__setattr__" = some (some (.builtin "object.__setattr__")))
    (mk_Cell : PySem.W.makesIn K C_Cell = true)
    (kc_Cell : Ki K C_Cell)
    (n_Cell_birth : Fo K C_Cell "birth")
    (n_Cell_bulk : Fo K C_Cell "bulk")
    (n_Cell_tone : Fo K C_Cell "tone")
    (n_Cell_load : Fo K C_Cell "load")
    (n_Cell_fields : Fo K C_Cell "fields")
    (eq1_Cell : PySem.W.findIn K (.ref C_Cell) "__eq__" = some (some (.builtin "object.__eq__")))
    (eq2_Cell : PySem.W.mroIn K C_Cell (.type "object") = some true)
    (pg_Heap : PySem.W.plainGet K C_Heap Str.empty = true)
    (hd_Heap : PySem.W.hasDictIn K C_Heap = true)
    (po_Heap : PySem.W.plainOver K C_Heap = true)
    (sa_Heap : PySem.W.findIn K (.ref C_Heap) "__setattr__" = some (some (.builtin "object.__setattr__")))
    (mk_Heap : PySem.W.makesIn K C_Heap = true)
    (kc_Heap : Ki K C_Heap)
    (n_Heap_room : Fo K C_Heap "room")
    (n_Heap_cells : Fo K C_Heap "cells")
    (n_Heap_used : Fo K C_Heap "used")
    (n_Heap_born : Fo K C_Heap "born")
    (pg_Hand : PySem.W.plainGet K C_Hand Str.empty = true)
    (hd_Hand : PySem.W.hasDictIn K C_Hand = true)
    (po_Hand : PySem.W.plainOver K C_Hand = true)
    (sa_Hand : PySem.W.findIn K (.ref C_Hand) "__setattr__" = some (some (.builtin "object.__setattr__")))
    (mk_Hand : PySem.W.makesIn K C_Hand = true)
    (kc_Hand : Ki K C_Hand)
    (n_Hand_name : Fo K C_Hand "name")
    (n_Hand_slots : Fo K C_Hand "slots")
    (pg_Sweeper : PySem.W.plainGet K C_Sweeper Str.empty = true)
    (hd_Sweeper : PySem.W.hasDictIn K C_Sweeper = true)
    (po_Sweeper : PySem.W.plainOver K C_Sweeper = true)
    (sa_Sweeper : PySem.W.findIn K (.ref C_Sweeper) "__setattr__" = some (some (.builtin "object.__setattr__")))
    (mk_Sweeper : PySem.W.makesIn K C_Sweeper = true)
    (kc_Sweeper : Ki K C_Sweeper)
    (n_Sweeper_sense : Fo K C_Sweeper "sense")
    (n_Sweeper_phase : Fo K C_Sweeper "phase")
    (n_Sweeper_grey : Fo K C_Sweeper "grey")
    (n_Sweeper_looked : Fo K C_Sweeper "looked")
    (n_Sweeper_turn : Fo K C_Sweeper "turn")
    (n_Sweeper_at : Fo K C_Sweeper "at")
    (n_Sweeper_stop : Fo K C_Sweeper "stop")
    (n_Sweeper_walks : Fo K C_Sweeper "walks")
    (n_Sweeper_looks : Fo K C_Sweeper "looks")
    (n_Sweeper_passes : Fo K C_Sweeper "passes")
    (n_Sweeper_loss : Fo K C_Sweeper "loss")
    (pg_World : PySem.W.plainGet K C_World Str.empty = true)
    (hd_World : PySem.W.hasDictIn K C_World = true)
    (po_World : PySem.W.plainOver K C_World = true)
    (sa_World : PySem.W.findIn K (.ref C_World) "__setattr__" = some (some (.builtin "object.__setattr__")))
    (mk_World : PySem.W.makesIn K C_World = true)
    (kc_World : Ki K C_World)
    (n_World_heap : Fo K C_World "heap")
    (n_World_kind : Fo K C_World "kind")
    (n_World_hands : Fo K C_World "hands")
    (n_World_names : Fo K C_World "names")
    (n_World_sweeper : Fo K C_World "sweeper")
    (pg_First : PySem.W.plainGet K C_First Str.empty = true)
    (hd_First : PySem.W.hasDictIn K C_First = true)
    (po_First : PySem.W.plainOver K C_First = true)
    (sa_First : PySem.W.findIn K (.ref C_First) "__setattr__" = some (some (.builtin "object.__setattr__")))
    (mk_First : PySem.W.makesIn K C_First = true)
    (kc_First : Ki K C_First)
    (oi_First : PySem.W.findIn K (.ref C_First) "__init__" = some (some (.builtin "object.__init__")))
    (pg_Each : PySem.W.plainGet K C_Each Str.empty = true)
    (hd_Each : PySem.W.hasDictIn K C_Each = true)
    (po_Each : PySem.W.plainOver K C_Each = true)
    (sa_Each : PySem.W.findIn K (.ref C_Each) "__setattr__" = some (some (.builtin "object.__setattr__")))
    (mk_Each : PySem.W.makesIn K C_Each = true)
    (kc_Each : Ki K C_Each)
    (oi_Each : PySem.W.findIn K (.ref C_Each) "__init__" = some (some (.builtin "object.__init__")))
    (pg_Last : PySem.W.plainGet K C_Last Str.empty = true)
    (hd_Last : PySem.W.hasDictIn K C_Last = true)
    (po_Last : PySem.W.plainOver K C_Last = true)
    (sa_Last : PySem.W.findIn K (.ref C_Last) "__setattr__" = some (some (.builtin "object.__setattr__")))
    (mk_Last : PySem.W.makesIn K C_Last = true)
    (kc_Last : Ki K C_Last)
    (oi_Last : PySem.W.findIn K (.ref C_Last) "__init__" = some (some (.builtin "object.__init__")))
    (pg_Kind : PySem.W.plainGet K C_Kind Str.empty = true)
    (hd_Kind : PySem.W.hasDictIn K C_Kind = true)
    (po_Kind : PySem.W.plainOver K C_Kind = true)
    (sa_Kind : PySem.W.findIn K (.ref C_Kind) "__setattr__" = some (some (.builtin "object.__setattr__")))
    (mk_Kind : PySem.W.makesIn K C_Kind = true)
    (kc_Kind : Ki K C_Kind)
    (n_Kind_looking : Fo K C_Kind "looking")
    (n_Kind_tells : Fo K C_Kind "tells")
    (x_Full : PySem.W.excIn K C_Full [.type "ValueError", .type "Exception", .type "BaseException", .type "object"] "ValueError.__new__" = true)
    (ih_Each_at_begin : Fi K C_Each "at_begin" f_Looking_at_begin)
    (ih_Last_at_begin : Fi K C_Last "at_begin" f_Looking_at_begin)
    (z_bool : PySem.W.nsIn K mainGlobals "bool" = some none)
    (z_enumerate : PySem.W.nsIn K mainGlobals "enumerate" = some none)
    (z_int : PySem.W.nsIn K mainGlobals "int" = some none)
    (z_isinstance : PySem.W.nsIn K mainGlobals "isinstance" = some none)
    (z_len : PySem.W.nsIn K mainGlobals "len" = some none)
    (z_list : PySem.W.nsIn K mainGlobals "list" = some none)
    (z_range : PySem.W.nsIn K mainGlobals "range" = some none)
    (z_str : PySem.W.nsIn K mainGlobals "str" = some none)
    (z_tuple : PySem.W.nsIn K mainGlobals "tuple" = some none)
    (gl_NEW : PySem.W.nsIn K mainGlobals "NEW" = some (some u_NEW))
    (gr_NEW : RelV (.int 2) u_NEW)
    (gl_OLD : PySem.W.nsIn K mainGlobals "OLD" = some (some u_OLD))
    (gr_OLD : RelV (.int 1) u_OLD)
    (g1 : FnG K "__init__" "Cell.__init__" s_Cell___init__ f_Cell___init__)
    (g2 : FnG K "units" "Cell.units" s_Cell_units f_Cell_units)
    (g3 : FnG K "__init__" "Heap.__init__" s_Heap___init__ f_Heap___init__)
    (g5 : FnG K "lay" "Heap.lay" s_Heap_lay f_Heap_lay)
    (g6 : FnG K "back" "Heap.back" s_Heap_back f_Heap_back)
    (g7 : FnG K "free" "Heap.free" s_Heap_free f_Heap_free)
    (g8 : FnG K "cell_at" "cell_at" s_cell_at f_cell_at)
    (g9 : FnG K "__init__" "Hand.__init__" s_Hand___init__ f_Hand___init__)
    (g10 : FnG K "__init__" "Sweeper.__init__" s_Sweeper___init__ f_Sweeper___init__)
    (g11 : FnG K "__init__" "World.__init__" s_World___init__ f_World___init__)
    (g12 : FnG K "held" "held" s_held f_held)
    (g13 : FnG K "has_sense" "has_sense" s_has_sense f_has_sense)
    (g14 : FnG K "is_walking" "is_walking" s_is_walking f_is_walking)
    (g15 : FnG K "begin" "begin" s_begin f_begin)
    (g16 : FnG K "note" "note" s_note f_note)
    (g17 : FnG K "gone" "gone" s_gone f_gone)
    (g18 : FnG K "roots" "roots" s_roots f_roots)
    (g19 : FnG K "root_of" "root_of" s_root_of f_root_of)
    (g20 : FnG K "all_of" "all_of" s_all_of f_all_of)
    (g21 : FnG K "at_begin" "Looking.at_begin" s_Looking_at_begin f_Looking_at_begin)
    (g22 : FnG K "word" "First.word" s_First_word f_First_word)
    (g23 : FnG K "at_begin" "First.at_begin" s_First_at_begin f_First_at_begin)
    (g24 : FnG K "word" "Each.word" s_Each_word f_Each_word)
    (g25 : FnG K "word" "Last.word" s_Last_word f_Last_word)
    (g26 : FnG K "__init__" "Kind.__init__" s_Kind___init__ f_Kind___init__)
    (g27 : FnG K "words" "Kind.words" s_Kind_words f_Kind_words)
    (g28 : FnG K "kind_of" "kind_of" s_kind_of f_kind_of)
    (g29 : FnG K "_law_mix" "_law_mix" s__law_mix f__law_mix)
    (g30 : FnG K "_law_cell_at" "_law_cell_at" s__law_cell_at f__law_cell_at)
    (g31 : FnG K "_law_names" "_law_names" s__law_names f__law_names)
    (g32 : FnG K "_law_same" "_law_same" s__law_same f__law_same)
    (g33 : FnG K "_law_kind" "_law_kind" s__law_kind f__law_kind)
    (g34 : FnG K "_law_least" "_law_least" s__law_least f__law_least)
    (g35 : FnG K "_law_make" "_law_make" s__law_make f__law_make)
    (g36 : FnG K "_law_named" "_law_named" s__law_named f__law_named)
    (g37 : FnG K "_law_noted" "_law_noted" s__law_noted f__law_noted)
    (g38 : FnG K "_law_turn" "_law_turn" s__law_turn f__law_turn)
    (g39 : FnG K "_law_gone" "_law_gone" s__law_gone f__law_gone)
    (g40 : FnG K "_law_row" "_law_row" s__law_row f__law_row)
    (g41 : FnG K "_law_looks" "_law_looks" s__law_looks f__law_looks)
    : ∃ fd : FuncData, (∀ (s : Shared) (v : Value), BindsTo s fd ⟨[v], []⟩ [("_law_script", v)]) ∧ ∀ base : Heap, K.In base → base.Ns mainGlobals mg → FnOk l.prog w K mg base (G.CXe l.prog w) 7 fa fd ["_law_script"] (S_law K) := by
  have e := hfa.symm.trans (PySem.W.mg_of KI GN a42)
  cases e
  have mo : ∀ {s : Str} {v : Value}, PySem.W.nsIn K mainGlobals s = some (some v) → mg s = some v := fun h => PySem.W.mg_of KI GN h
  let Q0 : Cs := ⟨C_World, C_Heap, C_Cell, C_Kind, C_Hand, C_Sweeper, C_First, C_Each, C_Last⟩
  obtain ⟨_, F1, k1⟩ := fg g1
  obtain ⟨_, F2, k2⟩ := fg g2
  obtain ⟨_, F3, k3⟩ := fg g3
  obtain ⟨_, F5, k5⟩ := fg g5
  obtain ⟨_, F6, k6⟩ := fg g6
  obtain ⟨_, F7, k7⟩ := fg g7
  obtain ⟨_, F8, k8⟩ := fg g8
  obtain ⟨_, F9, k9⟩ := fg g9
  obtain ⟨_, F10, k10⟩ := fg g10
  obtain ⟨_, F11, k11⟩ := fg g11
  obtain ⟨_, F12, k12⟩ := fg g12
  obtain ⟨_, F13, k13⟩ := fg g13
  obtain ⟨_, F14, k14⟩ := fg g14
  obtain ⟨_, F15, k15⟩ := fg g15
  obtain ⟨_, F16, k16⟩ := fg g16
  obtain ⟨_, F17, k17⟩ := fg g17
  obtain ⟨_, F18, k18⟩ := fg g18
  obtain ⟨_, F19, k19⟩ := fg g19
  obtain ⟨_, F20, k20⟩ := fg g20
  obtain ⟨_, F21, k21⟩ := fg g21
  obtain ⟨_, F22, k22⟩ := fg g22
  obtain ⟨_, F23, k23⟩ := fg g23
  obtain ⟨_, F24, k24⟩ := fg g24
  obtain ⟨_, F25, k25⟩ := fg g25
  obtain ⟨_, F26, k26⟩ := fg g26
  obtain ⟨_, F27, k27⟩ := fg g27
  obtain ⟨_, F28, k28⟩ := fg g28
  obtain ⟨_, F29, k29⟩ := fg g29
  obtain ⟨_, F30, k30⟩ := fg g30
  obtain ⟨_, F31, k31⟩ := fg g31
  obtain ⟨_, F32, k32⟩ := fg g32
  obtain ⟨_, F33, k33⟩ := fg g33
  obtain ⟨_, F34, k34⟩ := fg g34
  obtain ⟨_, F35, k35⟩ := fg g35
  obtain ⟨_, F36, k36⟩ := fg g36
  obtain ⟨_, F37, k37⟩ := fg g37
  obtain ⟨_, F38, k38⟩ := fg g38
  obtain ⟨_, F39, k39⟩ := fg g39
  obtain ⟨_, F40, k40⟩ := fg g40
  obtain ⟨_, F41, k41⟩ := fg g41
  have T : Txt K mg C_Cell C_Heap C_Hand C_Sweeper C_World C_First C_Each C_Last C_Kind C_Full f_Cell___init__ f_Cell_units f_Heap___init__ f_Heap_make f_Heap_lay f_Heap_back f_Heap_free f_cell_at f_Hand___init__ f_Sweeper___init__ f_World___init__ f_held f_has_sense f_is_walking f_begin f_note f_gone f_roots f_root_of f_all_of f_Looking_at_begin f_First_word f_First_at_begin f_Each_word f_Last_word f_Kind___init__ f_Kind_words f_kind_of f__law_mix f__law_cell_at f__law_names f__law_same f__law_kind f__law_least f__law_make f__law_named f__law_noted f__law_turn f__law_gone f__law_row f__law_looks := {
    cl_Cell := ⟨pg_Cell, hd_Cell, po_Cell, sa_Cell⟩
    m_Cell := mo a_Cell
    mk_Cell := ⟨mk_Cell, a1, i1, kc_Cell⟩
    n_Cell_birth := n_Cell_birth
    n_Cell_bulk := n_Cell_bulk
    n_Cell_tone := n_Cell_tone
    n_Cell_load := n_Cell_load
    n_Cell_fields := n_Cell_fields
    eq_Cell := ⟨eq1_Cell, eq2_Cell⟩
    cl_Heap := ⟨pg_Heap, hd_Heap, po_Heap, sa_Heap⟩
    m_Heap := mo a_Heap
    mk_Heap := ⟨mk_Heap, a3, i3, kc_Heap⟩
    n_Heap_room := n_Heap_room
    n_Heap_cells := n_Heap_cells
    n_Heap_used := n_Heap_used
    n_Heap_born := n_Heap_born
    cl_Hand := ⟨pg_Hand, hd_Hand, po_Hand, sa_Hand⟩
    m_Hand := mo a_Hand
    mk_Hand := ⟨mk_Hand, a9, i9, kc_Hand⟩
    n_Hand_name := n_Hand_name
    n_Hand_slots := n_Hand_slots
    cl_Sweeper := ⟨pg_Sweeper, hd_Sweeper, po_Sweeper, sa_Sweeper⟩
    m_Sweeper := mo a_Sweeper
    mk_Sweeper := ⟨mk_Sweeper, a10, i10, kc_Sweeper⟩
    n_Sweeper_sense := n_Sweeper_sense
    n_Sweeper_phase := n_Sweeper_phase
    n_Sweeper_grey := n_Sweeper_grey
    n_Sweeper_looked := n_Sweeper_looked
    n_Sweeper_turn := n_Sweeper_turn
    n_Sweeper_at := n_Sweeper_at
    n_Sweeper_stop := n_Sweeper_stop
    n_Sweeper_walks := n_Sweeper_walks
    n_Sweeper_looks := n_Sweeper_looks
    n_Sweeper_passes := n_Sweeper_passes
    n_Sweeper_loss := n_Sweeper_loss
    cl_World := ⟨pg_World, hd_World, po_World, sa_World⟩
    m_World := mo a_World
    mk_World := ⟨mk_World, a11, i11, kc_World⟩
    n_World_heap := n_World_heap
    n_World_kind := n_World_kind
    n_World_hands := n_World_hands
    n_World_names := n_World_names
    n_World_sweeper := n_World_sweeper
    cl_First := ⟨pg_First, hd_First, po_First, sa_First⟩
    m_First := mo a_First
    mk0_First := ⟨mk_First, oi_First, kc_First⟩
    cl_Each := ⟨pg_Each, hd_Each, po_Each, sa_Each⟩
    m_Each := mo a_Each
    mk0_Each := ⟨mk_Each, oi_Each, kc_Each⟩
    cl_Last := ⟨pg_Last, hd_Last, po_Last, sa_Last⟩
    m_Last := mo a_Last
    mk0_Last := ⟨mk_Last, oi_Last, kc_Last⟩
    cl_Kind := ⟨pg_Kind, hd_Kind, po_Kind, sa_Kind⟩
    m_Kind := mo a_Kind
    mk_Kind := ⟨mk_Kind, a26, i26, kc_Kind⟩
    n_Kind_looking := n_Kind_looking
    n_Kind_tells := n_Kind_tells
    m_Full := mo a_Full
    x_Full := x_Full
    me_Each_at_begin := ⟨ih_Each_at_begin, i21, k21⟩
    me_Last_at_begin := ⟨ih_Last_at_begin, i21, k21⟩
    me_Cell___init__ := ⟨a1, i1, k1⟩
    me_Cell_units := ⟨a2, i2, k2⟩
    me_Heap___init__ := ⟨a3, i3, k3⟩
    me_Heap_make := ⟨a4, i4, k4⟩
    me_Heap_lay := ⟨a5, i5, k5⟩
    me_Heap_back := ⟨a6, i6, k6⟩
    me_Heap_free := ⟨a7, i7, k7⟩
    m_cell_at := mo a8
    me_Hand___init__ := ⟨a9, i9, k9⟩
    me_Sweeper___init__ := ⟨a10, i10, k10⟩
    me_World___init__ := ⟨a11, i11, k11⟩
    m_held := mo a12
    m_has_sense := mo a13
    m_is_walking := mo a14
    m_begin := mo a15
    m_note := mo a16
    m_gone := mo a17
    m_roots := mo a18
    m_root_of := mo a19
    m_all_of := mo a20
    me_Looking_at_begin := ⟨a21, i21, k21⟩
    me_First_word := ⟨a22, i22, k22⟩
    me_First_at_begin := ⟨a23, i23, k23⟩
    me_Each_word := ⟨a24, i24, k24⟩
    me_Last_word := ⟨a25, i25, k25⟩
    me_Kind___init__ := ⟨a26, i26, k26⟩
    me_Kind_words := ⟨a27, i27, k27⟩
    m_kind_of := mo a28
    m__law_mix := mo a29
    m__law_cell_at := mo a30
    m__law_names := mo a31
    m__law_same := mo a32
    m__law_kind := mo a33
    m__law_least := mo a34
    m__law_make := mo a35
    m__law_named := mo a36
    m__law_noted := mo a37
    m__law_turn := mo a38
    m__law_gone := mo a39
    m__law_row := mo a40
    m__law_looks := mo a41
    z_bool := PySem.W.mg_none_of KI GN z_bool
    z_enumerate := PySem.W.mg_none_of KI GN z_enumerate
    z_int := PySem.W.mg_none_of KI GN z_int
    z_isinstance := PySem.W.mg_none_of KI GN z_isinstance
    z_len := PySem.W.mg_none_of KI GN z_len
    z_list := PySem.W.mg_none_of KI GN z_list
    z_range := PySem.W.mg_none_of KI GN z_range
    z_str := PySem.W.mg_none_of KI GN z_str
    z_tuple := PySem.W.mg_none_of KI GN z_tuple
    g_NEW := ⟨_, PySem.W.mg_of KI GN gl_NEW, gr_NEW⟩
    g_OLD := ⟨_, PySem.W.mg_of KI GN gl_OLD, gr_OLD⟩
  }
  have b1 := bd5 F1 "self" "birth" "many" "bulk" "tone"
  have b2 := bd1 F2 "self"
  have b3 := bd2 F3 "self" "room"
  have F4 := G.funD_mk (st := s_Heap_make) l4 c4 k4
  have b4 := G.bindsD (ps := ["self", "many", "bulk", "tone"]) (ds := []) l4 t4 fun us hl => match us, hl with | [_, _, _, _], _ => ⟨_, rfl, rfl⟩
  have bd4_1 := G.bindsD (ps := ["self", "many", "bulk", "tone"]) (ds := [dv4_1]) l4 t4 fun us hl => match us, hl with | [_, _, _], _ => ⟨_, rfl, rfl⟩
  have bd4_2 := G.bindsD (ps := ["self", "many", "bulk", "tone"]) (ds := [dv4_0, dv4_1]) l4 t4 fun us hl => match us, hl with | [_, _], _ => ⟨_, rfl, rfl⟩
  have b5 := bd2 F5 "self" "cell"
  have b6 := bd2 F6 "self" "place"
  have b7 := bd1 F7 "self"
  have b8 := bd2 F8 "heap" "place"
  have b9 := bd3 F9 "self" "name" "many"
  have b10 := bd1 F10 "self"
  have b11 := bd4 F11 "self" "room" "kind" "hands"
  have b12 := bd1 F12 "world"
  have b13 := bd2 F13 "world" "cell"
  have b14 := bd1 F14 "world"
  have b15 := bd1 F15 "world"
  have b16 := bd2 F16 "world" "place"
  have b17 := bd3 F17 "world" "place" "birth"
  have b18 := bd1 F18 "world"
  have b19 := bd3 F19 "world" "place" "birth"
  have b20 := bd1 F20 "hands"
  have b21 := bd2 F21 "self" "hands"
  have b22 := bd1 F22 "self"
  have b23 := bd2 F23 "self" "hands"
  have b24 := bd1 F24 "self"
  have b25 := bd1 F25 "self"
  have b26 := bd3 F26 "self" "looking" "tells"
  have b27 := bd1 F27 "self"
  have b28 := bd1 F28 "text"
  have b29 := bd2 F29 "_law_cell" "_law_factor"
  have b30 := bd2 F30 "_law_script" "_law_k"
  have b31 := bd2 F31 "_law_cell" "_law_many"
  have b32 := bd2 F32 "_law_found" "_law_due"
  have b33 := bd1 F33 "_law_cell"
  have b34 := bd1 F34 "_law_lies"
  have b35 := bd4 F35 "_law_world" "_law_lies" "_law_state" "_law_mark"
  have b36 := bd5 F36 "_law_world" "_law_lies" "_law_order" "_law_word" "_law_place"
  have b37 := bd4 F37 "_law_world" "_law_lies" "_law_walking" "_law_place"
  have b38 := bd7 F38 "_law_world" "_law_lies" "_law_rows" "_law_state" "_law_order" "_law_words" "_law_cell"
  have b39 := bd3 F39 "_law_lies" "_law_place" "_law_birth"
  have b40 := bd3 F40 "_law_lies" "_law_order" "_law_walking"
  have b41 := bd6 F41 "_law_world" "_law_lies" "_law_rows" "_law_state" "_law_order" "_law_near"
  have F42 := fun_mk (st := s_law) l42 c42 k42
  refine ⟨PySem.W.fnOf "law" "law" (defArgs s_law) (defBody s_law) (defScope s_law) .none kV42 dc42 pm42 an42 cd42 ct42, fun s v => .of_eq rfl, fun base _ _ => ?_⟩
  have G1 := hh (w := w) (ok_Cell___init__ l.prog base Q0 T F1 ) b1 k1
  have G2 := hh (w := w) (ok_Cell_units l.prog base Q0 T F2 ) b2 k2
  have G3 := hh (w := w) (ok_Heap___init__ l.prog base Q0 T F3 ) b3 k3
  have G5 := hh (w := w) (ok_Heap_lay l.prog base Q0 T F5 ) b5 k5
  have G7 := hh (w := w) (ok_Heap_free l.prog base Q0 T F7 ) b7 k7
  have G8 := hh (w := w) (ok_cell_at l.prog base Q0 T F8 ) b8 k8
  have G9 := hh (w := w) (ok_Hand___init__ l.prog base Q0 T F9 ) b9 k9
  have G10 := hh (w := w) (ok_Sweeper___init__ l.prog base Q0 T F10 ) b10 k10
  have G12 := hh (w := w) (ok_held l.prog base Q0 T F12 ) b12 k12
  have G13 := hh (w := w) (ok_has_sense l.prog base Q0 T F13 ) b13 k13
  have G14 := hh (w := w) (ok_is_walking l.prog base Q0 T F14 ) b14 k14
  have G20 := hh (w := w) (ok_all_of l.prog base Q0 T F20 ) b20 k20
  have G21 := hh (w := w) (ok_Looking_at_begin l.prog base Q0 T F21 ) b21 k21
  have G22 := hh (w := w) (ok_First_word l.prog base Q0 T F22 ) b22 k22
  have G24 := hh (w := w) (ok_Each_word l.prog base Q0 T F24 ) b24 k24
  have G25 := hh (w := w) (ok_Last_word l.prog base Q0 T F25 ) b25 k25
  have G26 := hh (w := w) (ok_Kind___init__ l.prog base Q0 T F26 ) b26 k26
  have G29 := hh (w := w) (ok__law_mix l.prog base Q0 T F29 ) b29 k29
  have G30 := hh (w := w) (ok__law_cell_at l.prog base Q0 T F30 ) b30 k30
  have G34 := hh (w := w) (ok__law_least l.prog base Q0 T F34 ) b34 k34
  have G36 := hh (w := w) (ok__law_named l.prog base Q0 T F36 ) b36 k36
  have G39 := hh (w := w) (ok__law_gone l.prog base Q0 T F39 ) b39 k39
  have G6 := hh (w := w) (ok_Heap_back l.prog base Q0 T F6 G2) b6 k6
  have G16 := hh (w := w) (ok_note l.prog base Q0 T F16 G8 G13) b16 k16
  have G17 := hh (w := w) (ok_gone l.prog base Q0 T F17 G8 G13) b17 k17
  have G23 := hh (w := w) (ok_First_at_begin l.prog base Q0 T F23 G20) b23 k23
  have G27 := hh (w := w) (ok_Kind_words l.prog base Q0 T F27 G24 G22 G25) b27 k27
  have G31 := hh (w := w) (ok__law_names l.prog base Q0 T F31 G29) b31 k31
  have G33 := hh (w := w) (ok__law_kind l.prog base Q0 T F33 G29) b33 k33
  have G40 := hh (w := w) (ok__law_row l.prog base Q0 T F40 G39) b40 k40
  have G4 := hh (w := w) (ok_Heap_make l.prog base Q0 T F4 G1 G2 G7 G5) b4 k4
  have G11 := hh (w := w) (ok_World___init__ l.prog base Q0 T F11 G9 G3 G10) b11 k11
  have G15 := hh (w := w) (ok_begin l.prog base Q0 T F15 G23 G21) b15 k15
  have G19 := hh (w := w) (ok_root_of l.prog base Q0 T F19 G17 G13 G14) b19 k19
  have G28 := hh (w := w) (ok_kind_of l.prog base Q0 T F28 G26 G27) b28 k28
  have G18 := hh (w := w) (ok_roots l.prog base Q0 T F18 G12 G19) b18 k18
  have R32_0 := hh (w := w) (ok__law_same0 l.prog base Q0 T F32 (hh (w := w) (G.fn_never (k := 0) fun _ _ _ _ ⟨_, _, _, z⟩ => z) b32 k32) ) b32 k32
  have R32_1 := hh (w := w) (ok__law_same l.prog base Q0 (d := 0) (lv := 1) T (by decide) F32 R32_0 ) b32 k32
  have R32_2 := hh (w := w) (ok__law_same l.prog base Q0 (d := 1) (lv := 2) T (by decide) F32 R32_1 ) b32 k32
  have R32_3 := hh (w := w) (ok__law_same l.prog base Q0 (d := 2) (lv := 3) T (by decide) F32 R32_2 ) b32 k32
  have G32 := R32_3
  have G35 := hh (w := w) (ok__law_make l.prog base Q0 T F35 G4 G34 G32) b35 k35
  have G37 := hh (w := w) (ok__law_noted l.prog base Q0 T F37 G32 G16) b37 k37
  have G41 := hh (w := w) (ok__law_looks l.prog base Q0 T F41 G39 G32 G17 G12) b41 k41
  have G38 := hh (w := w) (ok__law_turn l.prog base Q0 T F38 G6 G35 G29 G36 G37 G32) b38 k38
  exact ok_law _ _ Q0 T F42 G11 G30 G33 G41 G29 G31 G40 G32 G38 G15 G28 G18
theorem walk {l : PySem.W.OpenLaw} {q : Program} {loose : List Str} {XP : (Str → Option Value) → Heap → Prop} {YP : World → Heap → Prop} {d : DefRec} {K : Params → PySem.W.Frag} (hn : l.most = some 63) (hdf : d.params.defaults = [])
    (hY : ∀ (w : World) (h : Heap), YP w h → (K w.params).In h)
    (F : ∀ (w : World) (mg : Str → Option Value) (fa : Addr) (h : Heap), (K w.params).In h → h.Ns mainGlobals mg → mg d.name = some (.ref fa) →
      ∃ fd : FuncData, (∀ (s : Shared) (u : Value), BindsTo s fd ⟨[u], []⟩ [("_law_script", u)]) ∧ ∀ base : Heap, (K w.params).In base → base.Ns mainGlobals mg → FnOk l.prog w (K w.params) mg base (G.CXe l.prog w) 7 fa fd ["_law_script"] (S_law (K w.params))) :
    PySem.W.WalkO q loose XP YP l.row.toRowW d [] (fun f vs => PySem.call f vs) :=
  L2.walk_of (n := 63) (k := 7) (x := "_law_script") (CX := fun w => G.CXe l.prog w) (sp := fun w => S_law (K w.params)) hn (by decide) hdf ⟨rfl, by decide, by decide⟩ hY F (fun _ _ a ns hl _ hS => ⟨a, rfl, ns, hS, hl, fun _ => rfl⟩) fun _ _ _ _ _ z => by
    obtain ⟨_, _, _, _, _, _, _, _, _, _, _, _, z⟩ := z
    exact z
end K15
def PySem.W.Fast.tw14526751375180627340 : Nat := 0
def PySem.W.Fast.tw3458118034099707988 : Nat := 0
def PySem.W.Fast.tw16141641783301090161 : Nat := 0
def PySem.W.Fast.tw3846055799500638553 : Nat := 0
def PySem.W.Fast.tw16279874573290298742 : Nat := 0
def PySem.W.Fast.tw4800809685344239955 : Nat := 0
def PySem.W.Fast.tw17719575048522253741 : Nat := 0
def PySem.W.Fast.tw18083964674671493177 : Nat := 0
def PySem.W.Fast.tw1782308429741991904 : Nat := 0
def PySem.W.Fast.tw4179522498675741619 : Nat := 0
def PySem.W.Fast.tw6131920243370118354 : Nat := 0
def PySem.W.Fast.tw6602739034272674170 : Nat := 0
def PySem.W.Fast.tw16423983602250163350 : Nat := 0
def PySem.W.Fast.tw16728502803148924600 : Nat := 0
def PySem.W.Fast.tw10101791550054269761 : Nat := 0
def PySem.W.Fast.tw16310802784878765906 : Nat := 0
def PySem.W.Fast.tw15086558929907569368 : Nat := 0
def PySem.W.Fast.tw1622376121405869709 : Nat := 0
def PySem.W.Fast.tw14380840330077631423 : Nat := 0
def PySem.W.Fast.tw4652428809056291697 : Nat := 0
open PySem PySem.W PyProof.Rows
set_option maxRecDepth 100000 in
set_option maxHeartbeats 0 in
theorem PySem.Challenge.cw_greywalk_k15_gone_and_roots_holds : PySem.Challenge.rw_greywalk_k15_gone_and_roots.Holds := by
  w_on; o_law; k_head; (case hw => w_witness2)
  k_fill
  refine K15.walk (l := PySem.Challenge.rw_greywalk_k15_gone_and_roots) rfl rfl (fun w h Y => PySem.W.kIn_of Y) ?F
  case F =>
    intro w mg fa h KX G hmg
    refine' K15.all_mk KX G hmg ?h0 ?h1 ?h2 ?h3 ?h4 ?h5 ?h6 ?h7 ?h8 ?h9 ?h10 ?h11 ?h12 ?h13 ?h14 ?h15 ?h16 ?h17 ?h18 ?h19 ?h20 ?h21 ?h22 ?h23 ?h24 ?h25 ?h26 ?h27 ?h28 ?h29 ?h30 ?h31 ?h32 ?h33 ?h34 ?h35 ?h36 ?h37 ?h38 ?h39 ?h40 ?h41 ?h42 ?h43 ?h44 ?h45 ?h46 ?h47 ?h48 ?h49 ?h50 ?h51 ?h52 ?h53 ?h54 ?h55 ?h56 ?h57 ?h58 ?h59 ?h60 ?h61 ?h62 ?h63 ?h64 ?h65 ?h66 ?h67 ?h68 ?h69 ?h70 ?h71 ?h72 ?h73 ?h74 ?h75 ?h76 ?h77 ?h78 ?h79 ?h80 ?h81 ?h82 ?h83 ?h84 ?h85 ?h86 ?h87 ?h88 ?h89 ?h90 ?h91 ?h92 ?h93 ?h94 ?h95 ?h96 ?h97 ?h98 ?h99 ?h100 ?h101 ?h102 ?h103 ?h104 ?h105 ?h106 ?h107 ?h108 ?h109 ?h110 ?h111 ?h112 ?h113 ?h114 ?h115 ?h116 ?h117 ?h118 ?h119 ?h120 ?h121 ?h122 ?h123 ?h124 ?h125 ?h126 ?h127 ?h128 ?h129 ?h130 ?h131 ?h132 ?h133 ?h134 ?h135 ?h136 ?h137 ?h138 ?h139 ?h140 ?h141 ?h142 ?h143 ?h144 ?h145 ?h146 ?h147 ?h148 ?h149 ?h150 ?h151 ?h152 ?h153 ?h154 ?h155 ?h156 ?h157 ?h158 ?h159 ?h160 ?h161 ?h162 ?h163 ?h164 ?h165 ?h166 ?h167 ?h168 ?h169 ?h170 ?h171 ?h172 ?h173 ?h174 ?h175 ?h176 ?h177 ?h178 ?h179 ?h180 ?h181 ?h182 ?h183 ?h184 ?h185 ?h186 ?h187 ?h188 ?h189 ?h190 ?h191 ?h192 ?h193 ?h194 ?h195 ?h196 ?h197 ?h198 ?h199 ?h200 ?h201 ?h202 ?h203 ?h204 ?h205 ?h206 ?h207 ?h208 ?h209 ?h210 ?h211 ?h212 ?h213 ?h214 ?h215 ?h216 ?h217 ?h218 ?h219 ?h220 ?h221
    case h0 | h1 | h2 | h3 | h4 | h5 | h6 | h7 | h8 | h9 | h10 | h11 | h12 | h13 | h14 | h15 | h16 | h17 | h18 | h19 => (show _ = _; k_is)
    case h20 | h21 => first | exact rfl | exact ⟨_, rfl⟩
    case h22 | h23 | h24 | h25 | h26 | h27 | h28 | h29 | h30 | h31 | h32 | h33 | h34 | h35 | h36 | h37 | h38 | h39 | h40 | h41 | h42 | h43 | h44 | h45 | h46 | h47 | h48 | h49 | h50 | h51 | h52 | h53 | h54 | h55 | h56 | h57 | h58 | h59 | h60 | h61 | h62 | h63 | h64 | h65 | h66 | h67 | h68 | h69 | h70 | h71 | h72 | h73 | h74 | h75 | h76 | h77 | h78 | h79 | h80 | h81 | h82 | h83 | h84 | h85 | h86 | h87 | h88 | h89 | h90 | h91 | h92 | h93 | h94 | h95 | h96 | h97 | h98 | h99 | h100 | h101 | h102 | h103 | h104 | h105 | h106 | h107 | h108 | h109 | h110 | h111 | h112 | h113 | h114 | h115 | h116 | h117 | h118 | h119 | h120 | h121 | h122 | h123 | h124 | h125 | h126 | h127 | h128 | h129 | h130 | h131 | h132 | h133 | h134 | h135 | h136 | h137 | h138 | h139 | h140 | h141 | h142 | h143 | h144 | h145 | h146 | h147 | h148 | h149 | h150 | h151 | h152 | h153 | h154 | h155 | h156 | h157 | h158 | h159 | h160 | h161 | h162 | h163 | h164 | h165 => (show _ = _; k_is)
    case h166 => k_exc
    case h167 | h168 | h169 | h170 | h171 | h172 | h173 | h174 | h175 | h176 | h177 | h178 => (show _ = _; k_is)
    case h179 => first | exact rfl | exact ⟨_, rfl⟩
    case h180 => (show _ = _; k_is)
    case h181 => first | exact rfl | exact ⟨_, rfl⟩
    case h182 | h183 | h184 | h185 | h186 | h187 | h188 | h189 | h190 | h191 | h192 | h193 | h194 | h195 | h196 | h197 | h198 | h199 | h200 | h201 | h202 | h203 | h204 | h205 | h206 | h207 | h208 | h209 | h210 | h211 | h212 | h213 | h214 | h215 | h216 | h217 | h218 | h219 | h220 | h221 => (refine' K15.fgm ?l ?c ?k; (case l => show _ = _; k_is); (case c => show _ = _; k_is); (case k => show _ = _; k_is))
#print axioms PySem.Challenge.cw_greywalk_k15_gone_and_roots_holds

