import PyProof.Rows.All
import Wide.All
import OpenK.AllK
import Wide.FinOn
import Lean
import PyProof.EqAt
import PyProof.EqKinds
import PyProof.TupleCall
import KE.KItemsList
import KE.KDictList
import PyProof.Rows.StrSplitAre
import PyProof.Rows.StrWeight2
import PyProof.StrLawsTight
import PyProof.Rows.StrItems
import PyProof.Rows.ReprOcc
import PyProof.ZipIter
import PyProof.Rows.FactsT2
import PyProof.Rows.FStrParts
import PySem.Challenge.RW_greywalk_k38_texts_both_ways
set_option Elab.async false
set_option linter.all false
set_option maxRecDepth 100000
namespace L2
open PySem PySem.Spec PyProof.Rows

abbrev Key := Sum Int Str
def keyIs : Key → Value → Bool
  | .inl k, v => Value.isInt k v
  | .inr x, v => Value.isStrOf x v
def keyH (w : World) : Key → Int
  | .inl k => hashInt k
  | .inr x => hashStr w x
theorem keyIs_shape : ∀ {k : Key} {v : Value}, keyIs k v = true → (∃ i t, k = Sum.inl i ∧ v = Value.int i t) ∨ (∃ x t, k = Sum.inr x ∧ v = Value.str x t)
  | .inl i, v, h => by
    obtain ⟨t, e⟩ := Value.isInt_shape (k := i) (v := v) h
    exact .inl ⟨i, t, rfl, e⟩
  | .inr x, v, h => by
    obtain ⟨t, e⟩ := Value.isStrOf_shape (x := x) (v := v) h
    exact .inr ⟨x, t, rfl, e⟩
theorem key_ll (a b : Int) : decide ((Sum.inl a : Key) = Sum.inl b) = (a == b) := by
  by_cases e : a = b
  · subst e; simp
  · have h : ¬ (Sum.inl a : Key) = Sum.inl b := fun q => e (Sum.inl.inj q)
    rw [decide_eq_false h]
    exact (beq_eq_false_iff_ne.mpr e).symm
theorem key_rr (a b : Str) : decide ((Sum.inr a : Key) = Sum.inr b) = decide (a = b) := by
  by_cases e : a = b
  · subst e; simp
  · have h : ¬ (Sum.inr a : Key) = Sum.inr b := fun q => e (Sum.inr.inj q)
    rw [decide_eq_false h, decide_eq_false e]
theorem key_lr (a : Int) (b : Str) : decide ((Sum.inl a : Key) = Sum.inr b) = false := decide_eq_false (fun q => nomatch q)
theorem key_rl (a : Str) (b : Int) : decide ((Sum.inr a : Key) = Sum.inl b) = false := decide_eq_false (fun q => nomatch q)

def mixKind (prog : Program) (w : World) : PySem.KeyKind prog w Key where
  is := keyIs
  hash := keyH w
  inj := fun v a b ha hb => by
    rcases keyIs_shape ha with ⟨i, t, rfl, rfl⟩ | ⟨x, t, rfl, rfl⟩
    · rcases keyIs_shape hb with ⟨j, u, rfl, e⟩ | ⟨y, u, rfl, e⟩
      · injection e with e1 _; rw [e1]
      · exact nomatch e
    · rcases keyIs_shape hb with ⟨j, u, rfl, e⟩ | ⟨y, u, rfl, e⟩
      · exact nomatch e
      · injection e with e1 _; rw [e1]
  byValue := fun k v h => by
    rcases keyIs_shape h with ⟨i, t, rfl, rfl⟩ | ⟨x, t, rfl, rfl⟩ <;> rfl
  pyHash := fun hv h => by
    rcases keyIs_shape hv with ⟨i, t, rfl, rfl⟩ | ⟨x, t, rfl, rfl⟩
    · exact wpAny_pyHash_int h
    · exact wpAny_pyHash_str h
  eqBool := fun hu hv h => by
    rcases keyIs_shape hu with ⟨i, t, rfl, rfl⟩ | ⟨x, t, rfl, rfl⟩
    · rcases keyIs_shape hv with ⟨j, u, rfl, rfl⟩ | ⟨y, u, rfl, rfl⟩
      · rw [key_ll] at h; exact wpAny_eqBool_int h
      · rw [key_lr] at h; exact SeqAt.EqAt.int_str i t y u _ _ _ _ h
    · rcases keyIs_shape hv with ⟨j, u, rfl, rfl⟩ | ⟨y, u, rfl, rfl⟩
      · rw [key_rl] at h; exact SeqAt.EqAt.str_int x t j u _ _ _ _ h
      · rw [key_rr] at h; exact wpAny_eqBool_str h
  «strs» := fun k x t v h => by
    rcases keyIs_shape h with ⟨i, u, rfl, e⟩ | ⟨y, u, rfl, e⟩
    · exact nomatch e
    · injection e with e1 _
      subst e1
      cases v <;> rfl

end L2

namespace L2
open PySem PySem.Spec PyProof.Rows

inductive V where
  | non | bl (b : Bool) | int (i : Int) | str (x : Str) | byt (b : Array UInt8) | flt (b : UInt64) | ref (a : Addr) | ty (n : String)
  deriving DecidableEq

def RelV : V → Value → Prop
  | .non, u => u = Value.none
  | .bl b, u => u = Value.bool b
  | .int i, u => ∃ t, u = Value.int i t
  | .str x, u => ∃ t, u = Value.str x t
  | .byt b, u => ∃ t, u = Value.bytes b t
  | .flt b, u => ∃ t, u = Value.float b t
  | .ref a, u => u = Value.ref a
  | .ty n, u => u = Value.type n

abbrev Vals : List V → List Value → Prop := Paired RelV
theorem Vals.length {xs : List V} {us : List Value} (r : Vals xs us) : xs.length = us.length := Paired.length r
theorem Vals.get : ∀ {xs : List V} {us : List Value} {i : Nat} {x : V}, Vals xs us → xs[i]? = some x → ∃ u, us[i]? = some u ∧ RelV x u
  | _, _, _, _, .nil, e => by simp at e
  | _, _, 0, _, .cons r _, e => by simp at e; subst e; exact ⟨_, rfl, r⟩
  | _, _, i + 1, x, .cons _ t, e => by
    obtain ⟨u, h1, h2⟩ := Vals.get (i := i) (x := x) t (by simpa using e)
    exact ⟨u, by simpa using h1, h2⟩
theorem Vals.set {x : V} {u : Value} (r : RelV x u) : ∀ {xs : List V} {us : List Value} (i : Nat), Vals xs us → Vals (xs.set i x) (us.set i u)
  | _, _, _, .nil => .nil
  | _, _, 0, .cons _ t => .cons r t
  | _, _, i + 1, .cons q t => .cons q (Vals.set r i t)
theorem Vals.append : ∀ {xs ys : List V} {us ws : List Value}, Vals xs us → Vals ys ws → Vals (xs ++ ys) (us ++ ws)
  | _, _, _, _, .nil, s => s
  | _, _, _, _, .cons r t, s => .cons r (Vals.append t s)
theorem Vals.take : ∀ {xs : List V} {us : List Value} (n : Nat), Vals xs us → Vals (xs.take n) (us.take n)
  | _, _, 0, _ => .nil
  | _, _, _ + 1, .nil => .nil
  | _, _, n + 1, .cons r t => .cons r (Vals.take n t)
theorem Vals.drop : ∀ {xs : List V} {us : List Value} (n : Nat), Vals xs us → Vals (xs.drop n) (us.drop n)
  | _, _, 0, r => r
  | _, _, _ + 1, .nil => .nil
  | _, _, n + 1, .cons _ t => Vals.drop n t
def RelO : Option V → Option Value → Prop
  | some v, some u => RelV v u
  | none, none => True
  | _, _ => False
def KV {κ : Type} : List (κ × V) → List (κ × Value) → Prop := Paired fun (p : κ × V) (q : κ × Value) => p.1 = q.1 ∧ RelV p.2 q.2

def kV : Key → V
  | .inl i => .int i
  | .inr x => .str x

inductive HO where
    | lst (xs : List V)
    | tup (xs : List V)
    | dK (kvs : List (Key × V)) | dT (kvs : List (List Key × V))
    | set (S : Int → Bool) (n : Nat)
    | ins (C dx : Addr) (fs : List (Str × V))
    | own (x : Addr)
    | xd (fs : List (Str × V))
    | met (f x : Addr)
    | rng (lo hi : Int)
    | frz (o : Obj) (u : HO)
    | tbl (ps : Array Value)
    | ext (φ : Heap → Prop)

abbrev Hp := Addr → Option HO
def upd (H : Hp) (a : Addr) (o : HO) : Hp := fun b => if b = a then some o else H b
theorem upd_same {H : Hp} {a : Addr} {o : HO} : upd H a o a = some o := by unfold upd; rw [if_pos rfl]
theorem upd_ne {H : Hp} {a b : Addr} {o : HO} (h : b ≠ a) : upd H a o b = H b := by unfold upd; rw [if_neg h]
theorem upd_upd {H : Hp} {a : Addr} {o u : HO} : upd (upd H a o) a u = upd H a u := by
  funext b; unfold upd; split <;> rfl
theorem ne_of_none {H : Hp} {a b : Addr} {o : HO} (h : H a = some o) (h' : H b = none) : a ≠ b := by
  intro e; subst e; rw [h] at h'; cases h'

section
variable (P : Program) (w : World)
def ObjOk (H : Hp) (h : Heap) (a : Addr) : HO → Prop
  | .lst xs => xs.length ≤ sizeLine ∧ ∃ (its : List Value) (n : Nat), Vals xs its ∧ h.get? a = some { cls := .type "list", data := .seq its.toArray n }
  | .tup xs => xs.length ≤ sizeLine ∧ ∃ its : List Value, Vals xs its ∧ IsTup h a its.toArray
  | .dK kvs => kvs.length ≤ sizeLine ∧ (a == sysModules) = false ∧ ∃ vs, KV kvs vs ∧ h.DictOf (mixKind P w) a vs
  | .dT kvs => kvs.length ≤ sizeLine ∧ (a == sysModules) = false ∧ ∃ xs : List (List Key × Addr × Value),
      Paired (fun (p : List Key × V) (q : List Key × Addr × Value) => p.1 = q.1 ∧ H q.2.1 = some (.tup (p.1.map kV)) ∧ RelV p.2 q.2.2) kvs xs ∧
      ∃ o es ep, h.get? a = some o ∧ o.ExactDict ∧ o.data = .dict es ep ∧ es.toList = xs.map (entryOfKey (tupleKind (mixKind P w))) ∧ (xs.map (·.1)).Nodup
  | .set S n => h.SetOf (intKind P w) a S n
  | .ins C dx fs => H dx = some (.own a) ∧ fs.length ≤ 1000 ∧ dx ≠ a ∧ h.get? a = some (PySem.W.instObj C dx) ∧
      ∃ mA, h.Ns1 dx mA ∧ (∀ f, RelO (fs.lookup f) (mA f)) ∧ PySem.Within mA (fs.map (·.1))
  | .own _ => ∃ o, h.get? a = some o
  | .xd fs => ∃ mA, h.Ns1 a mA ∧ ∀ f, RelO (fs.lookup f) (mA f)
  | .rng lo hi => ∃ t u v, h.get? a = some { cls := .type "range", data := .fields #[.int lo t, .int hi u, .int 1 v] }
  | .frz o u => h.get? a = some o ∧ ObjOk H h a u
  | .tbl ps => h.get? a = some { cls := .none, data := .fields ps }
  | .met f x => h.get? a = some (PySem.W.methodObj (.ref f) (.ref x))
  | .ext φ => φ h ∧ (∃ o, h.get? a = some o) ∧ ∀ h1 h2 : Heap, φ h1 → (∀ o, h1.get? a = some o → h2.get? a = some o) → φ h2
def HOk (H : Hp) (h : Heap) : Prop := ∀ a o, H a = some o → ObjOk P w H h a o
end

section
variable {P : Program} {w : World} {H H' : Hp} {h h' : Heap} {a : Addr} {o : HO}
theorem ObjOk.lt (x : ObjOk P w H h a o) : a < h.objs.size := by
  cases o with
  | lst xs => obtain ⟨_, _, _, _, e⟩ := x; exact Heap.lt_size e
  | tup xs => obtain ⟨_, _, _, p⟩ := x; exact p.lt
  | dK kvs => obtain ⟨_, _, _, _, o, _, _, e, _⟩ := x; exact Heap.lt_size e
  | dT kvs => obtain ⟨_, _, _, _, o, _, _, e, _⟩ := x; exact Heap.lt_size e
  | set S n => obtain ⟨o, _, _, _, e, _⟩ := x; exact Heap.lt_size e
  | ins C dx fs => obtain ⟨_, _, _, e, _⟩ := x; exact Heap.lt_size e
  | own y => obtain ⟨_, e⟩ := x; exact Heap.lt_size e
  | xd fs => obtain ⟨_, ⟨_, _, _, e, _⟩, _⟩ := x; exact Heap.lt_size e
  | rng lo hi => obtain ⟨_, _, _, e⟩ := x; exact Heap.lt_size e
  | frz ob u => obtain ⟨e, _⟩ := x; exact Heap.lt_size e
  | tbl ps => exact Heap.lt_size (show h.get? a = some _ from x)
  | met f y => exact Heap.lt_size (show h.get? a = some _ from x)
  | ext φ => obtain ⟨_, ⟨_, e⟩, _⟩ := x; exact Heap.lt_size e
theorem Paired.mapP {α β : Type} {F G : α → β → Prop} : ∀ {l₁ : List α} {l₂ : List β}, Paired F l₁ l₂ → (∀ a b, F a b → G a b) → Paired G l₁ l₂
  | _, _, .nil, _ => .nil
  | _, _, .cons r t, f => .cons (f _ _ r) (Paired.mapP t f)
theorem ObjOk.stay (x : ObjOk P w H h a o) (k : ∀ b u, (b = a ∨ H b = some (.own a)) → h.get? b = some u → h'.get? b = some u)
    (ho : ∀ b, H b = some (.own a) → H' b = some (.own a)) (ht : ∀ b xs, H b = some (.tup xs) → H' b = some (.tup xs)) : ObjOk P w H' h' a o := by
  induction o with
  | lst xs => obtain ⟨z, its, n, r, e⟩ := x; exact ⟨z, its, n, r, k _ _ (.inl rfl) e⟩
  | tup xs => obtain ⟨z, its, r, ob, e, c⟩ := x; exact ⟨z, its, r, ob, k _ _ (.inl rfl) e, c⟩
  | dK kvs => obtain ⟨z, y, vs, r, ob, es, ep, e, c⟩ := x; exact ⟨z, y, vs, r, ob, es, ep, k _ _ (.inl rfl) e, c⟩
  | dT kvs =>
    obtain ⟨z, y, xs, r, ob, es, ep, e, c⟩ := x
    exact ⟨z, y, xs, Paired.mapP r fun p q z => ⟨z.1, ht _ _ z.2.1, z.2.2⟩, ob, es, ep, k _ _ (.inl rfl) e, c⟩
  | set S n => obtain ⟨ob, es, ep, t, e, c⟩ := x; exact ⟨ob, es, ep, t, k _ _ (.inl rfl) e, c⟩
  | ins C dx fs =>
    obtain ⟨d, z, ne, e, mA, ⟨od, es, ep, e2, c⟩, r⟩ := x
    exact ⟨ho _ d, z, ne, k _ _ (.inl rfl) e, mA, ⟨od, es, ep, k _ _ (.inr d) e2, c⟩, r⟩
  | own y => obtain ⟨ob, e⟩ := x; exact ⟨ob, k _ _ (.inl rfl) e⟩
  | xd fs => obtain ⟨mA, ⟨od, es, ep, e, c⟩, r⟩ := x; exact ⟨mA, ⟨od, es, ep, k _ _ (.inl rfl) e, c⟩, r⟩
  | rng lo hi => obtain ⟨t, u, v, e⟩ := x; exact ⟨t, u, v, k _ _ (.inl rfl) e⟩
  | frz ob u ih => obtain ⟨e, q⟩ := x; exact ⟨k _ _ (.inl rfl) e, ih q⟩
  | tbl ps =>
    have e : h.get? a = some { cls := .none, data := .fields ps } := x
    show h'.get? a = some { cls := .none, data := .fields ps }
    exact k a _ (.inl rfl) e
  | met f y =>
    have e : h.get? a = some (PySem.W.methodObj (.ref f) (.ref y)) := x
    show h'.get? a = some (PySem.W.methodObj (.ref f) (.ref y))
    exact k a _ (.inl rfl) e
  | ext φ => obtain ⟨p, ⟨o, e⟩, st⟩ := x; exact ⟨st _ _ p fun o q => k _ _ (.inl rfl) q, ⟨o, k _ _ (.inl rfl) e⟩, st⟩
theorem HOk.lt (x : HOk P w H h) (e : H a = some o) : a < h.objs.size := (x a o e).lt
theorem HOk.fresh (x : HOk P w H h) (e : h.objs.size ≤ a) : H a = none := by
  cases q : H a with
  | none => rfl
  | some u => exact absurd (Nat.lt_of_lt_of_le (x.lt q) e) (Nat.lt_irrefl _)
theorem HOk.kept (x : HOk P w H h) (k : ∀ b u, h.get? b = some u → h'.get? b = some u) : HOk P w H h' := fun a o e =>
  (x a o e).stay (fun b u _ q => k b u q) (fun _ q => q) fun _ _ q => q
theorem HOk.laid (x : HOk P w H h) (k : ∀ b u, h.get? b = some u → h'.get? b = some u) (hp : h.objs.size ≤ a) (new : ObjOk P w (upd H a o) h' a o) : HOk P w (upd H a o) h' := fun b u e => by
  have hn := x.fresh hp
  by_cases hb : b = a
  · subst hb; rw [upd_same] at e; cases e; exact new
  · rw [upd_ne hb] at e
    exact (x b u e).stay (fun c v _ q => k c v q) (fun c q => by rw [upd_ne (ne_of_none q hn)]; exact q) fun c xs q => by rw [upd_ne (ne_of_none q hn)]; exact q
end

def Rd (H : Hp) (a : Addr) (u : HO) : Prop := H a = some u ∨ ∃ o, H a = some (.frz o u)
theorem Rd.ok {P : Program} {w : World} {H : Hp} {h : Heap} {a : Addr} {u : HO} (r : Rd H a u) (x : HOk P w H h) : ObjOk P w H h a u := by
  rcases r with r | ⟨o, r⟩
  · exact x a u r
  · obtain ⟨_, q⟩ := x a _ r
    exact q
def Mut : Option HO → Prop
  | some (.lst _) => True
  | some (.dK _) => True
  | some (.dT _) => True
  | some (.set _ _) => True
  | some (.ins _ _ _) => True
  | some (.ext _) => True
  | _ => False
section
variable {P : Program} {w : World} {H : Hp} {h h' : Heap} {x e : Addr} {o' : HO}
theorem HOk.write (ok : HOk P w H h) (mu : Mut (H x)) (he : e = x ∨ H e = some (.own x)) (k : ∀ b u, b ≠ e → h.get? b = some u → h'.get? b = some u) (heo : ∃ u, h'.get? e = some u)
    (new : ObjOk P w (upd H x o') h' x o') : HOk P w (upd H x o') h' := fun b u q => by
  have nown : ∀ c y, H c = some (.own y) → c ≠ x := fun c y r z => by subst z; rw [r] at mu; exact mu
  have ntup : ∀ c xs, H c = some (.tup xs) → c ≠ x := fun c xs r z => by subst z; rw [r] at mu; exact mu
  by_cases hb : b = x
  · subst hb; rw [upd_same] at q; cases q; exact new
  · rw [upd_ne hb] at q
    by_cases hbe : b = e
    · have q' : H b = some (.own x) := by
        rcases he with z | z
        · exact absurd (hbe.trans z) hb
        · rw [hbe]; exact z
      rw [q] at q'; cases q'
      obtain ⟨v, hv⟩ := heo
      exact ⟨v, by rw [hbe]; exact hv⟩
    · refine (ok b u q).stay (fun c v hc r => k c v ?_ r) (fun c r => by rw [upd_ne (nown c b r)]; exact r) fun c xs r => by rw [upd_ne (ntup c xs r)]; exact r
      rcases hc with rfl | hc
      · exact hbe
      · rintro rfl
        rcases he with z | z
        · exact nown c b hc z
        · rw [hc] at z; cases z; exact hb rfl
end

structure Un (fs ex : List Addr) (H H' : Hp) (h h' : Heap) : Prop where
  keep : ∀ b o, h.get? b = some o → H b = none → b ∉ fs → b ∉ ex → h'.get? b = some o
  slot : ∀ b o, h.get? b = some o → H b = none → b ∈ fs → b ∉ ex → ∃ sl, h'.get? b = some { o with slots := sl }
  free : ∀ b o, h.get? b = some o → H b = none → b ∉ ex → H' b = none
  there : ∀ b o, h.get? b = some o → b ∉ ex → ∃ o', h'.get? b = some o'
  tups : ∀ b xs, H b = some (.tup xs) → H' b = some (.tup xs)
  frzs : ∀ b o u, H b = some (.frz o u) → H' b = some (.frz o u)
  tbls : ∀ b ps, H b = some (.tbl ps) → ∃ more, H' b = some (.tbl (ps ++ more))
section
variable {fs fs' ex ex' : List Addr} {H H1 H2 : Hp} {h h1 h2 h' : Heap} {a x e : Addr} {o : HO}
theorem Un.any (u : Un fs ex H H1 h h1) {b : Addr} {ob : Obj} (q : h.get? b = some ob) (n : H b = none) (hx : b ∉ ex) : ∃ sl, h1.get? b = some { ob with slots := sl } := by
  by_cases hb : b ∈ fs
  · exact u.slot b ob q n hb hx
  · exact ⟨ob.slots, u.keep b ob q n hb hx⟩
theorem Un.kept (k : ∀ b u, h.get? b = some u → h'.get? b = some u) : Un fs ex H H h h' :=
  ⟨fun b ob q _ _ _ => k b ob q, fun b ob q _ _ _ => ⟨ob.slots, k b ob q⟩, fun _ _ _ n _ => n, fun b ob q _ => ⟨ob, k b ob q⟩, fun _ _ q => q, fun _ _ _ q => q, fun _ ps q => ⟨#[], by rw [q]; simp⟩⟩
theorem Un.refl : Un fs ex H H h h := Un.kept fun _ _ q => q
theorem Un.laid (k : ∀ b u, h.get? b = some u → h'.get? b = some u) (hp : h.objs.size ≤ a) (hn : H a = none) : Un fs ex H (upd H a o) h h' where
  keep := fun b u q _ _ _ => k b u q
  slot := fun b u q _ _ _ => ⟨u.slots, k b u q⟩
  free := fun b u q n _ => by rw [upd_ne (Nat.ne_of_lt (Nat.lt_of_lt_of_le (Heap.lt_size q) hp))]; exact n
  there := fun b u q _ => ⟨u, k b u q⟩
  tups := fun b xs q => by rw [upd_ne (ne_of_none q hn)]; exact q
  frzs := fun b u xs q => by rw [upd_ne (ne_of_none q hn)]; exact q
  tbls := fun b ps q => ⟨#[], by rw [upd_ne (ne_of_none q hn), q]; simp⟩
theorem Un.write (mu : Mut (H x)) (he : e = x ∨ H e = some (.own x)) (k : ∀ b u, b ≠ e → h.get? b = some u → h'.get? b = some u) (heo : ∃ u, h'.get? e = some u) : Un fs ex H (upd H x o) h h' := by
  have hx : ∀ b, H b = none → b ≠ x := fun b n z => by subst z; rw [n] at mu; exact mu
  have hb : ∀ b, H b = none → b ≠ e := fun b n z => by
    subst z
    rcases he with r | r
    · exact hx b n r
    · rw [n] at r; cases r
  have hm : ∀ b u, H b = some u → ¬ Mut (some u) → b ≠ x := fun b u q nm z => by subst z; rw [q] at mu; exact nm mu
  refine ⟨fun b u q n _ _ => k b u (hb b n) q, fun b u q n _ _ => ⟨u.slots, k b u (hb b n) q⟩, fun b u q n _ => by rw [upd_ne (hx b n)]; exact n, fun b u q _ => ?_,
    fun b xs q => by rw [upd_ne (hm b _ q fun z => z)]; exact q, fun b u xs q => by rw [upd_ne (hm b _ q fun z => z)]; exact q, fun b ps q => ⟨#[], by rw [upd_ne (hm b _ q fun z => z), q]; simp⟩⟩
  by_cases hbe : b = e
  · subst hbe; exact heo
  · exact ⟨u, k b u hbe q⟩
end

def trk (h : Heap) (H : Hp) : List Addr := (List.range h.objs.size).filter fun a => (H a).isSome
def hidT (h : Heap) (H : Hp) : Heap := PySem.W.hideAll h (trk h H)
theorem hidT_size (h : Heap) (H : Hp) : (hidT h H).objs.size = h.objs.size := PySem.W.hideAll_size _ _
theorem hidT_get {h : Heap} {H : Hp} {b : Addr} {o : Obj} (e : h.get? b = some o) (n : H b = none) : (hidT h H).get? b = some o :=
  PySem.W.hideAll_get _ e fun hm => by
    have q : (H b).isSome = true := (List.mem_filter.mp hm).2
    rw [n] at q; simp at q
theorem of_hidT {h : Heap} {H : Hp} {b : Addr} {o : Obj} (e : (hidT h H).get? b = some o) : h.get? b = some o ∧ H b = none := by
  have e' : h.get? b = some o := PySem.W.of_hideAll (trk h H) e
  refine ⟨e', ?_⟩
  cases q : H b with
  | none => rfl
  | some x =>
    have hm : b ∈ trk h H := List.mem_filter.mpr ⟨List.mem_range.mpr (Heap.lt_size e'), by simp [q]⟩
    have z : (hidT h H).get? b = none := PySem.W.hideAll_none (trk h H) hm
    rw [z] at e; cases e

def allNews (g h : Heap) (L : Addr) : List (Addr × Obj) := (List.range h.objs.size).filterMap fun a => if a = L ∨ (g.get? a).isSome = true then none else (h.get? a).map fun o => (a, o)
def rest (g h : Heap) (L d : Addr) : List (Addr × Obj) := (allNews g h L).filter fun p => decide (p.1 ≠ d)
end L2

namespace L2
open PySem PySem.Spec PyProof.Rows

structure Mod (K : PySem.W.Frag) (mg : Str → Option Value) (base : Heap) : Prop where
  kin : K.In base
  glob : base.Ns mainGlobals mg
  blt : ∃ mb, base.Ns builtinsNs mb ∧ ∀ x : Str, x ≠ "__name__" → mb x = bootBuiltins x
  nolimit : base.NoLimit

structure Cx where
  prog : Program
  w : World
  K : PySem.W.Frag
  mg : Str → Option Value
  base : Heap
  A : Around
  N : List Str
  s₀ : Shared
  H₀ : Hp
  env : Env
  outer : List Env
  stack : List Env
  ex : List Addr
  fn : Str → Bool
  calm : Bool
  pn : List (Addr × Obj)
  xe : Value → Shared → Prop
def frs (l : List Env) : List Addr := l.filterMap (·.frame)
abbrev Cx.fs (X : Cx) : List Addr := frs X.outer

def Vis (sc : Scope) (x : Str) : Prop := sc.names.lookup x = some .local ∨ sc.names.lookup x = some .cell ∨ sc.names.lookup x = some .free
def Loc (sc : Scope) (x : Str) : Prop := sc.names.lookup x = some .local ∨ sc.names.lookup x = some .cell
def Look (env : Env) (h : Heap) (m : Str → Option Value) (x : Str) (u : Value) : Prop :=
  (env.kindOf x = some .local ∧ m x = some u) ∨ ((env.kindOf x = some .cell ∨ env.kindOf x = some .free) ∧ ∃ c, env.cells.lookup x = some c ∧ h.IsCell c (some u))

structure Cx.Ok (X : Cx) : Prop where
  mod : Mod X.K X.mg X.base
  kind : X.env.scope.kind = .function
  glob : X.env.globals = mainGlobals
  blt : X.env.builtins = builtinsNs
  above : X.s₀.heap.objs.size ≤ X.env.locals
  inj : ∀ x y c, X.env.cells.lookup x = some c → X.env.cells.lookup y = some c → x = y
  has : ∀ x, (X.env.kindOf x = some .cell ∨ X.env.kindOf x = some .free) → ∃ c, X.env.cells.lookup x = some c
  cab : ∀ x c, X.fn x = true → X.env.cells.lookup x = some c → X.s₀.heap.objs.size ≤ c
  hd : X.calm = true → X.A.handled = none
  frames : X.A.frames = some X.stack
  stk : X.stack = X.outer ∨ (X.stack = X.env :: X.outer ∧ X.env.frame = some X.env.locals)
  exf : ∀ b ∈ X.ex, b ≠ X.env.locals ∧ ∀ x c, X.env.cells.lookup x = some c → c ≠ b
  bs : ∀ b o, X.base.get? b = some o → X.s₀.heap.get? b = some o ∧ X.H₀ b = none
  bsz : X.base.objs.size ≤ X.s₀.heap.objs.size
  noex : ∀ b o, X.base.get? b = some o → b ∉ X.ex
  exfs : ∀ b ∈ X.ex, b ∉ X.fs
  funs : X.s₀.heap.FunFrames X.base X.outer
  frf : ∀ b ∈ X.fs, X.H₀ b = none

structure Inv (X : Cx) (pins : List (Addr × Obj)) (σ : List (Option V)) (H : Hp) (s : Shared) : Prop where
  ok : X.Ok
  os : s.os = X.s₀.os
  bare : AllBare s.gens
  base : Un X.fs X.ex X.H₀ H X.s₀.heap s.heap
  loc : ∃ m, s.heap.Ns X.env.locals m ∧ ∀ (i : Nat) (x : Str) (v : V), X.N[i]? = some x → σ[i]? = some (some v) → Vis X.env.scope x → ∃ u, RelV v u ∧ Look X.env s.heap m x u
  cell : ∀ x c, X.env.cells.lookup x = some c → ∃ v, s.heap.IsCell c v
  free : H X.env.locals = none
  freeC : ∀ x c, X.env.cells.lookup x = some c → H c = none
  pin : ∀ p ∈ X.pn ++ pins, s.heap.get? p.1 = some p.2 ∧ H p.1 = none ∧ p.1 ≠ X.env.locals ∧ p.1 ∉ X.fs ∧ ∀ v, p.2.data ≠ .cell v
  hok : HOk X.prog X.w H s.heap
  len : σ.length = X.N.length

section
variable {X : Cx} {pins : List (Addr × Obj)} {σ : List (Option V)} {H H' : Hp} {s : Shared} {h' : Heap}

theorem Cx.Ok.nofr (ok : X.Ok) {b : Addr} {o : Obj} (e : X.base.get? b = some o) : b ∉ X.fs := fun hb => by
  have := (ok.funs.mem hb).1
  rw [e] at this; cases this
theorem Inv.bs (I : Inv X pins σ H s) : ∀ b o, X.base.get? b = some o → s.heap.get? b = some o ∧ H b = none := fun b o e =>
  ⟨I.base.keep b o (I.ok.bs b o e).1 (I.ok.bs b o e).2 (I.ok.nofr e) (I.ok.noex b o e), I.base.free b o (I.ok.bs b o e).1 (I.ok.bs b o e).2 (I.ok.noex b o e)⟩
theorem Inv.bk (I : Inv X pins σ H s) : ∀ b o, X.base.get? b = some o → s.heap.get? b = some o := fun b o e => (I.bs b o e).1
theorem Inv.mod (I : Inv X pins σ H s) : Mod X.K X.mg X.base := I.ok.mod
theorem Inv.kIn (I : Inv X pins σ H s) : X.K.In s.heap := I.ok.mod.kin.keeps I.bk
theorem Inv.lt (I : Inv X pins σ H s) : X.env.locals < s.heap.objs.size := let ⟨_, hn, _⟩ := I.loc; hn.lt
theorem Inv.sz (I : Inv X pins σ H s) : X.s₀.heap.objs.size ≤ s.heap.objs.size := Nat.le_trans I.ok.above (Nat.le_of_lt I.lt)
theorem Inv.nofs (I : Inv X pins σ H s) {a : Addr} (h : s.heap.objs.size ≤ a) : a ∉ X.fs := fun hb => by
  obtain ⟨_, o, ho, _⟩ := I.ok.funs.mem hb
  exact absurd (Nat.lt_of_lt_of_le (Heap.lt_size ho) (Nat.le_trans I.sz h)) (Nat.lt_irrefl _)
theorem Inv.cne (I : Inv X pins σ H s) : ∀ x c, X.env.cells.lookup x = some c → c ≠ X.env.locals := fun x c e z => by
  obtain ⟨v, o, ho, hd⟩ := I.cell x c e
  obtain ⟨m, ⟨o', es, ep, ho', hd', _⟩, _⟩ := I.loc
  rw [z, ho'] at ho; cases ho; rw [hd'] at hd; cases hd
theorem Inv.funs (I : Inv X pins σ H s) : s.heap.FunFrames X.base X.outer := by
  have all : ∀ (l : List Env), (∀ b ∈ frs l, b ∈ X.fs) → X.s₀.heap.FunFrames X.base l → s.heap.FunFrames X.base l := by
    intro l
    induction l with
    | nil => intro _ _; trivial
    | cons env r ih =>
      intro hs hl
      obtain ⟨hk, ⟨L, o, hf, hn, ho, hd⟩, hr⟩ := hl
      have hL : L ∈ X.fs := hs L (by unfold frs; rw [List.filterMap_cons, hf]; exact List.mem_cons_self)
      obtain ⟨sl, e⟩ := I.base.slot L o ho (I.ok.frf L hL) hL fun z => I.ok.exfs L z hL
      exact ⟨hk, ⟨L, _, hf, hn, e, hd⟩, ih (fun b hb => hs b (by unfold frs; rw [List.filterMap_cons, hf]; exact List.mem_cons_of_mem _ hb)) hr⟩
  exact all X.outer (fun _ hb => hb) I.ok.funs

theorem Inv.stack (I : Inv X pins σ H s) : s.heap.FunFrames X.base X.stack := by
  rcases I.ok.stk with e | ⟨e, hf⟩
  · rw [e]; exact I.funs
  · rw [e]
    obtain ⟨m, hn, _⟩ := I.loc
    refine .cons (by rw [I.ok.kind]; decide) hf hn ?_ I.funs
    exact Heap.get?_none_of_le (Nat.le_trans I.ok.bsz I.ok.above)
theorem Inv.stkSub (I : Inv X pins σ H s) : ∀ b ∈ frs X.stack, b ∈ X.env.locals :: X.fs := fun b hb => by
  rcases I.ok.stk with e | ⟨e, hf⟩
  · rw [e] at hb; exact List.mem_cons_of_mem _ hb
  · rw [e] at hb
    unfold frs at hb
    rw [List.filterMap_cons, hf] at hb
    exact hb
theorem Inv.stkFree (I : Inv X pins σ H s) : ∀ b ∈ frs X.stack, H b = none := fun b hb => by
  rcases List.mem_cons.mp (I.stkSub b hb) with e | hb
  · rw [e]; exact I.free
  · obtain ⟨_, o, ho, _⟩ := I.ok.funs.mem hb
    exact I.base.free b o ho (I.ok.frf b hb) fun z => I.ok.exfs b z hb

theorem Inv.step {g' : Array GenState} {t' : Nat} {d' : Drawn} {ch : List Addr} (I : Inv X pins σ H s)
    (hch : ∀ b ∈ ch, (b ∈ X.ex ∨ X.s₀.heap.objs.size ≤ b) ∧ b ≠ X.env.locals ∧ (∀ x c, X.env.cells.lookup x = some c → c ≠ b) ∧ ∀ p ∈ X.pn ++ pins, p.1 ≠ b)
    (keep : ∀ b o, b ≠ X.env.locals → b ∉ X.fs → b ∉ ch → s.heap.get? b = some o → H b = none → h'.get? b = some o)
    (slot : ∀ b o, b ≠ X.env.locals → b ∈ X.fs → b ∉ ch → s.heap.get? b = some o → H b = none → ∃ sl, h'.get? b = some { o with slots := sl }) (free : ∀ b o, b ∉ ch → s.heap.get? b = some o → H b = none → H' b = none)
    (there : ∀ b o, b ∉ ch → s.heap.get? b = some o → ∃ o', h'.get? b = some o')
    (tups : ∀ b xs, H b = some (.tup xs) → H' b = some (.tup xs)) (frzs : ∀ b o u, H b = some (.frz o u) → H' b = some (.frz o u)) (tbls : ∀ b ps, H b = some (.tbl ps) → ∃ more, H' b = some (.tbl (ps ++ more)))
    (ns : ∀ m, s.heap.Ns X.env.locals m → h'.Ns X.env.locals m) (hok : HOk X.prog X.w H' h') (hg : AllBare g') :
    Inv X pins σ H' { s with heap := h', gens := g', drawn := d', toks := t' } := by
  have neL : ∀ b o, X.s₀.heap.get? b = some o → b ≠ X.env.locals := fun b o e => Nat.ne_of_lt (Nat.lt_of_lt_of_le (Heap.lt_size e) I.ok.above)
  have neC : ∀ b o, X.s₀.heap.get? b = some o → b ∉ X.ex → b ∉ ch := fun b o e hx hb => by
    rcases (hch b hb).1 with z | z
    · exact hx z
    · exact absurd (Nat.lt_of_lt_of_le (Heap.lt_size e) z) (Nat.lt_irrefl _)
  have cellK : ∀ x c, X.env.cells.lookup x = some c → ∀ v, s.heap.IsCell c v → h'.IsCell c v := fun x c e v ⟨o, ho, hd⟩ => by
    have nch : c ∉ ch := fun z => (hch c z).2.2.1 x c e rfl
    by_cases hc : c ∈ X.fs
    · obtain ⟨sl, q⟩ := slot c o (I.cne x c e) hc nch ho (I.freeC x c e)
      exact ⟨_, q, hd⟩
    · exact ⟨o, keep c o (I.cne x c e) hc nch ho (I.freeC x c e), hd⟩
  refine ⟨I.ok, I.os, hg, ⟨fun b o e n hb hx => ?_, fun b o e n hb hx => ?_, fun b o e n hx => ?_, fun b o e hx => ?_, fun b xs e => tups b xs (I.base.tups b xs e), fun b o xs e => frzs b o xs (I.base.frzs b o xs e), fun b ps e => ?_⟩, ?_, fun x c e => ?_, ?_, fun x c e => ?_, fun p hp => ?_, hok, I.len⟩
  · exact keep b o (neL b o e) hb (neC b o e hx) (I.base.keep b o e n hb hx) (I.base.free b o e n hx)
  · obtain ⟨sl, e1⟩ := I.base.slot b o e n hb hx
    obtain ⟨sl', e2⟩ := slot b _ (neL b o e) hb (neC b o e hx) e1 (I.base.free b o e n hx)
    exact ⟨sl', e2⟩
  · obtain ⟨o', e1⟩ := I.base.there b o e hx
    exact free b o' (neC b o e hx) e1 (I.base.free b o e n hx)
  · obtain ⟨o', e1⟩ := I.base.there b o e hx
    exact there b o' (neC b o e hx) e1
  · obtain ⟨m1, e1⟩ := I.base.tbls b ps e
    obtain ⟨m2, e2⟩ := tbls b _ e1
    exact ⟨m1 ++ m2, by rw [e2, Array.append_assoc]⟩
  · obtain ⟨m, hn, hl⟩ := I.loc
    refine ⟨m, ns m hn, fun i x v e1 e2 e3 => ?_⟩
    obtain ⟨u, r, l⟩ := hl i x v e1 e2 e3
    refine ⟨u, r, ?_⟩
    rcases l with l | ⟨k, c, e, z⟩
    · exact .inl l
    · exact .inr ⟨k, c, e, cellK x c e _ z⟩
  · obtain ⟨v, z⟩ := I.cell x c e
    exact ⟨v, cellK x c e v z⟩
  · obtain ⟨m, ⟨o, _, _, ho, _⟩, _⟩ := I.loc
    exact free _ o (fun z => (hch _ z).2.1 rfl) ho I.free
  · obtain ⟨v, o, ho, hd⟩ := I.cell x c e
    exact free c o (fun z => (hch c z).2.2.1 x c e rfl) ho (I.freeC x c e)
  · obtain ⟨e, n, ne, nf, d⟩ := I.pin p hp
    have nch : p.1 ∉ ch := fun z => (hch p.1 z).2.2.2 p hp rfl
    exact ⟨keep p.1 p.2 ne nf nch e n, free p.1 p.2 nch e n, ne, nf, d⟩
theorem Inv.un {t' : Nat} (I : Inv X pins σ H s) (u : Un X.fs [] H H' s.heap h') (hok : HOk X.prog X.w H' h') : Inv X pins σ H' { s with heap := h', toks := t' } := by
  obtain ⟨m, ⟨o, es, ep, ho, r⟩, _⟩ := id I.loc
  obtain ⟨sl, hL⟩ := u.any ho I.free (by simp)
  exact I.step (g' := s.gens) (d' := s.drawn) (ch := []) (fun _ z => nomatch z) (fun b o _ hb _ e n => u.keep b o e n hb (by simp)) (fun b o _ hb _ e n => u.slot b o e n hb (by simp)) (fun b o _ e n => u.free b o e n (by simp)) (fun b o _ e => u.there b o e (by simp)) u.tups u.frzs u.tbls (fun m' hm => by
    obtain ⟨o', es', ep', ho', r'⟩ := hm
    rw [ho] at ho'; cases ho'
    exact ⟨_, es', ep', hL, r'⟩) hok I.bare
theorem Inv.call {g' : Array GenState} {t' : Nat} {d' : Drawn} {ch : List Addr} (I : Inv X pins σ H s) (u : Un (frs X.stack) ch H H' s.heap h') (hok : HOk X.prog X.w H' h') (hg : AllBare g')
    (hch : ∀ b ∈ ch, (b ∈ X.ex ∨ X.s₀.heap.objs.size ≤ b) ∧ b ≠ X.env.locals ∧ (∀ x c, X.env.cells.lookup x = some c → c ≠ b) ∧ ∀ p ∈ X.pn ++ pins, p.1 ≠ b) :
    Inv X pins σ H' { s with heap := h', gens := g', drawn := d', toks := t' } := by
  obtain ⟨m, ⟨o, es, ep, ho, r⟩, _⟩ := id I.loc
  obtain ⟨sl, hL⟩ := u.any ho I.free fun z => (hch _ z).2.1 rfl
  exact I.step (ch := ch) hch (fun b o hL hb hc e n => u.keep b o e n (fun z => (List.mem_cons.mp (I.stkSub b z)).elim hL hb) hc) (fun b o _ _ hc e n => u.any e n hc) (fun b o hc e n => u.free b o e n hc) (fun b o hc e => u.there b o e hc) u.tups u.frzs u.tbls (fun m' hm => by
    obtain ⟨o', es', ep', ho', r'⟩ := hm
    rw [ho] at ho'; cases ho'
    exact ⟨_, es', ep', hL, r'⟩) hok hg
theorem Inv.turned {t' : Nat} {it : Addr} (I : Inv X pins σ H s) (k : ∀ b o, b ≠ it → s.heap.get? b = some o → h'.get? b = some o) (hn : H it = none) (hL : it ≠ X.env.locals)
    (h1 : it ∈ X.ex ∨ X.s₀.heap.objs.size ≤ it) (h2 : ∀ x c, X.env.cells.lookup x = some c → c ≠ it) (h3 : ∀ p ∈ X.pn ++ pins, p.1 ≠ it) : Inv X pins σ H { s with heap := h', toks := t' } := by
  have nit : ∀ b u, H b = some u → b ≠ it := fun b u e z => by rw [z, hn] at e; cases e
  refine I.step (g' := s.gens) (d' := s.drawn) (ch := [it]) (fun b hb => ?_) (fun b o _ _ hc e _ => k b o (fun z => hc (by simp [z])) e) (fun b o _ _ hc e _ => ⟨o.slots, k b o (fun z => hc (by simp [z])) e⟩) (fun _ _ _ _ n => n)
    (fun b o hc e => ⟨o, k b o (fun z => hc (by simp [z])) e⟩) (fun _ _ e => e) (fun _ _ _ e => e) (fun b ps e => ⟨#[], by rw [e]; simp⟩) (fun m hm => ?_) (fun b u e => ?_) I.bare
  · have e : b = it := by simpa using hb
    subst e
    exact ⟨h1, hL, h2, h3⟩
  · obtain ⟨o, es, ep, ho, r⟩ := hm
    exact ⟨o, es, ep, k _ o (Ne.symm hL) ho, r⟩
  · refine (I.hok b u e).stay (fun c v hc q => k c v ?_ q) (fun _ q => q) fun _ _ q => q
    rcases hc with z | z
    · rw [z]; exact nit b u e
    · exact nit c _ z
theorem Inv.tok (I : Inv X pins σ H s) (t : Nat) : Inv X pins σ H { s with toks := t } := I.un (h' := s.heap) (t' := t) Un.refl I.hok
theorem Inv.kept {t' : Nat} (I : Inv X pins σ H s) (k : ∀ b u, s.heap.get? b = some u → h'.get? b = some u) : Inv X pins σ H { s with heap := h', toks := t' } := I.un (Un.kept k) (I.hok.kept k)
theorem Inv.laid {a : Addr} {o : HO} {t' : Nat} (I : Inv X pins σ H s) (k : ∀ b u, s.heap.get? b = some u → h'.get? b = some u) (hp : s.heap.objs.size ≤ a) (new : ObjOk X.prog X.w (upd H a o) h' a o) :
    Inv X pins σ (upd H a o) { s with heap := h', toks := t' } := I.un (Un.laid k hp (I.hok.fresh hp)) (I.hok.laid k hp new)
theorem Inv.write {x e : Addr} {o : HO} {t' : Nat} (I : Inv X pins σ H s) (mu : Mut (H x)) (he : e = x ∨ H e = some (.own x)) (k : ∀ b u, b ≠ e → s.heap.get? b = some u → h'.get? b = some u) (heo : ∃ u, h'.get? e = some u)
    (new : ObjOk X.prog X.w (upd H x o) h' x o) : Inv X pins σ (upd H x o) { s with heap := h', toks := t' } := I.un (Un.write mu he k heo) (I.hok.write mu he k heo new)
theorem Inv.pins_of {pins' : List (Addr × Obj)} (I : Inv X pins σ H s) (h : ∀ p ∈ pins', s.heap.get? p.1 = some p.2 ∧ H p.1 = none ∧ p.1 ≠ X.env.locals ∧ p.1 ∉ X.fs ∧ ∀ v, p.2.data ≠ .cell v) : Inv X pins' σ H s :=
  ⟨I.ok, I.os, I.bare, I.base, I.loc, I.cell, I.free, I.freeC, fun p hp => (List.mem_append.mp hp).elim (fun z => I.pin p (List.mem_append_left _ z)) (h p), I.hok, I.len⟩

theorem nodup_ix {N : List Str} (hN : N.Nodup) {i j : Nat} {x : Str} (a : N[i]? = some x) (b : N[j]? = some x) : i = j := by
  obtain ⟨h1, e1⟩ := List.getElem?_eq_some_iff.mp a
  obtain ⟨h2, e2⟩ := List.getElem?_eq_some_iff.mp b
  exact (List.getElem_inj hN).mp (e1.trans e2.symm)

theorem store_ok2 {M : Model} {A : Around} {E : Value → Shared → Prop} {i : Nat} {x : Str} {v : V} {u : Value} {Q : Unit → Shared → Prop} (I : Inv X pins σ H s) (hN : X.N.Nodup) (hi : X.N[i]? = some x) (hx : Loc X.env.scope x) (r : RelV v u)
    (h : ∀ s', Inv X pins (σ.set i (some v)) H s' → (∃ a, Heap.SameBut a s.heap s'.heap ∧ (a = X.env.locals ∨ X.env.cells.lookup x = some a)) → Q () s') (hf : X.fn x = true ∨ X.env.scope.names.lookup x = some .local := by first | exact .inl rfl | exact .inr rfl | assumption) : wpAny M A (storeName X.env x u) Q E s := by
  obtain ⟨m, hn, hl⟩ := id I.loc
  have hcls : (X.env.scope.kind == .class || (X.env.scope.kind == .module && X.env.locals != X.env.globals)) = false := by rw [I.ok.kind]; rfl
  have hiσ : i < σ.length := by rw [I.len]; exact (List.getElem?_eq_some_iff.mp hi).1
  have cne := I.cne
  have tracked : ∀ {a : Addr} {h' : Heap}, (∃ o, s.heap.get? a = some o ∧ H a = none) → Heap.SameBut a s.heap h' → HOk X.prog X.w H h' := fun {a h'} ha hs b ob e => by
    obtain ⟨_, _, hfree⟩ := ha
    refine (I.hok b ob e).stay (fun c w' hc q => (hs.2 c ?_).trans q) (fun _ q => q) fun _ _ q => q
    rintro rfl
    rcases hc with rfl | hc
    · rw [hfree] at e; cases e
    · rw [hfree] at hc; cases hc
  rcases hx with hk | hk
  · refine wpAny_storeName_local hk hn (fun h' hn' hs => ?_) hcls
    obtain ⟨oL, _, _, hoL, _⟩ := id hn
    refine h _ ⟨I.ok, I.os, I.bare, ⟨fun b o e n hb hx => ?_, fun b o e n hb hx => ?_, I.base.free, fun b o e hx => ?_, I.base.tups, I.base.frzs, I.base.tbls⟩, ⟨_, hn', fun j y v' e1 e2 e3 => ?_⟩, fun y c e => ?_, I.free, I.freeC, fun p hp => ?_, tracked ⟨oL, hoL, I.free⟩ hs, by simpa using I.len⟩ ⟨_, hs, .inl rfl⟩
    · exact (hs.2 b (Nat.ne_of_lt (Nat.lt_of_lt_of_le (Heap.lt_size e) I.ok.above))).trans (I.base.keep b o e n hb hx)
    · obtain ⟨sl, e1⟩ := I.base.slot b o e n hb hx
      exact ⟨sl, (hs.2 b (Nat.ne_of_lt (Nat.lt_of_lt_of_le (Heap.lt_size e) I.ok.above))).trans e1⟩
    · obtain ⟨o', e1⟩ := I.base.there b o e hx
      exact ⟨o', (hs.2 b (Nat.ne_of_lt (Nat.lt_of_lt_of_le (Heap.lt_size e) I.ok.above))).trans e1⟩
    · by_cases hj : j = i
      · subst hj
        rw [hi] at e1; cases e1
        rw [List.getElem?_set_self hiσ] at e2
        cases e2
        exact ⟨u, r, .inl ⟨hk, by simp⟩⟩
      · rw [List.getElem?_set_ne (Ne.symm hj)] at e2
        obtain ⟨u', r', q⟩ := hl j y v' e1 e2 e3
        refine ⟨u', r', ?_⟩
        rcases q with ⟨k, e⟩ | ⟨k, c, e, z⟩
        · refine .inl ⟨k, ?_⟩
          have : y ≠ x := fun e => hj (nodup_ix hN e1 (e ▸ hi))
          simp [this, e]
        · exact .inr ⟨k, c, e, z.sameBut hs (cne y c e)⟩
    · obtain ⟨w', z⟩ := I.cell y c e
      exact ⟨w', z.sameBut hs (cne y c e)⟩
    · obtain ⟨e, n, ne, nf, d⟩ := I.pin p hp
      exact ⟨(hs.2 p.1 ne).trans e, n, ne, nf, d⟩
  · have hfn : X.fn x = true := by
      rcases hf with z | z
      · exact z
      · rw [z] at hk; cases hk
    obtain ⟨c, hc⟩ := I.ok.has x (.inl hk)
    obtain ⟨w', z⟩ := I.cell x c hc
    refine wpAny_storeName_cell I.ok.kind hk hc z (fun h' hc' hs => ?_)
    obtain ⟨oc, hoc, hocd⟩ := id z
    refine h { s with heap := h' } ⟨I.ok, I.os, I.bare, ⟨fun b o e n hb hx => ?_, fun b o e n hb hx => ?_, I.base.free, fun b o e hx => ?_, I.base.tups, I.base.frzs, I.base.tbls⟩, ⟨m, hn.sameBut hs (Ne.symm (cne x c hc)), fun j y v' e1 e2 e3 => ?_⟩, fun y c' e => ?_, I.free, I.freeC, fun p hp => ?_, tracked ⟨oc, hoc, I.freeC x c hc⟩ hs, by simpa using I.len⟩ ⟨c, hs, .inr hc⟩
    · exact (hs.2 b (Nat.ne_of_lt (Nat.lt_of_lt_of_le (Heap.lt_size e) (I.ok.cab x c hfn hc)))).trans (I.base.keep b o e n hb hx)
    · obtain ⟨sl, e1⟩ := I.base.slot b o e n hb hx
      exact ⟨sl, (hs.2 b (Nat.ne_of_lt (Nat.lt_of_lt_of_le (Heap.lt_size e) (I.ok.cab x c hfn hc)))).trans e1⟩
    · obtain ⟨o', e1⟩ := I.base.there b o e hx
      exact ⟨o', (hs.2 b (Nat.ne_of_lt (Nat.lt_of_lt_of_le (Heap.lt_size e) (I.ok.cab x c hfn hc)))).trans e1⟩
    · by_cases hj : j = i
      · subst hj
        rw [hi] at e1; cases e1
        rw [List.getElem?_set_self hiσ] at e2
        cases e2
        exact ⟨u, r, .inr ⟨.inl hk, c, hc, hc'⟩⟩
      · rw [List.getElem?_set_ne (Ne.symm hj)] at e2
        obtain ⟨u', r', q⟩ := hl j y v' e1 e2 e3
        refine ⟨u', r', ?_⟩
        rcases q with q | ⟨k, c', e, z'⟩
        · exact .inl q
        · refine .inr ⟨k, c', e, z'.sameBut hs ?_⟩
          rintro rfl
          exact hj (nodup_ix hN e1 (I.ok.inj _ _ _ e hc ▸ hi))
    · by_cases hcc : c' = c
      · subst hcc; exact ⟨_, hc'⟩
      · obtain ⟨w2, z2⟩ := I.cell y c' e
        exact ⟨w2, z2.sameBut hs hcc⟩
    · obtain ⟨e, n, ne, nf, d⟩ := I.pin p hp
      refine ⟨(hs.2 p.1 ?_).trans e, n, ne, nf, d⟩
      intro q
      rw [q, hoc] at e
      have q' : oc = p.2 := Option.some.inj e
      exact d w' (by rw [← q']; exact hocd)
theorem store_ok {M : Model} {A : Around} {E : Value → Shared → Prop} {i : Nat} {x : Str} {v : V} {u : Value} {Q : Unit → Shared → Prop} (I : Inv X pins σ H s) (hN : X.N.Nodup) (hi : X.N[i]? = some x) (hx : Loc X.env.scope x) (r : RelV v u)
    (h : ∀ s', Inv X pins (σ.set i (some v)) H s' → Q () s') (hf : X.fn x = true ∨ X.env.scope.names.lookup x = some .local := by first | exact .inl rfl | exact .inr rfl | assumption) : wpAny M A (storeName X.env x u) Q E s :=
  store_ok2 I hN hi hx r (fun s' I' _ => h s' I') hf
theorem Inv.call' {s' : Shared} {ch : List Addr} (I : Inv X pins σ H s) (ho : s'.os = s.os) (u : Un (frs X.stack) ch H H' s.heap s'.heap) (hok : HOk X.prog X.w H' s'.heap) (hg : AllBare s'.gens)
    (hch : ∀ b ∈ ch, (b ∈ X.ex ∨ X.s₀.heap.objs.size ≤ b) ∧ b ≠ X.env.locals ∧ (∀ x c, X.env.cells.lookup x = some c → c ≠ b) ∧ ∀ p ∈ X.pn ++ pins, p.1 ≠ b) : Inv X pins σ H' s' := by
  obtain ⟨h', g', d', t', o'⟩ := s'
  have e : o' = s.os := ho
  subst e
  exact I.call (g' := g') (t' := t') (d' := d') u hok hg hch
end

abbrev XK := Value → Option Addr → Hp → Prop
abbrev St := List (Option V)
abbrev VK := V → Hp → Prop
abbrev TE := St → Hp → VK → Prop
abbrev TT := St → Hp → (Bool → Hp → Prop) → Prop
abbrev TA := St → Hp → (List V → Hp → Prop) → Prop
structure Ends where
  nx : St → Hp → Prop
  rt : VK
  bk : St → Hp → Prop := fun _ _ => False
  ct : St → Hp → Prop := fun _ _ => False
abbrev TS := Ends → St → Hp → Prop

def EP (X : Cx) (pins : List (Addr × Obj)) (σ : St) (Q : VK) (u : Value) (s' : Shared) : Prop := ∃ v H', Inv X pins σ H' s' ∧ RelV v u ∧ Q v H'
def TP (X : Cx) (pins : List (Addr × Obj)) (σ : St) (Q : Bool → Hp → Prop) (b : Bool) (s' : Shared) : Prop := ∃ H', Inv X pins σ H' s' ∧ Q b H'
def AP (X : Cx) (pins : List (Addr × Obj)) (σ : St) (Q : List V → Hp → Prop) (us : List Value) (s' : Shared) : Prop := ∃ vs H', Inv X pins σ H' s' ∧ Vals vs us ∧ Q vs H'
def SP (X : Cx) (pins : List (Addr × Obj)) (D : Ends) (f : Flow) (s' : Shared) : Prop :=
  match f with
  | .next => ∃ σ' H', Inv X pins σ' H' s' ∧ D.nx σ' H'
  | .brk => ∃ σ' H', Inv X pins σ' H' s' ∧ D.bk σ' H'
  | .cont => ∃ σ' H', Inv X pins σ' H' s' ∧ D.ct σ' H'
  | .ret u => ∃ v σ' H', Inv X pins σ' H' s' ∧ RelV v u ∧ D.rt v H'

def PE (X : Cx) (e : Expr) (t : TE) : Prop :=
  ∀ (pins : List (Addr × Obj)) (s : Shared) (σ : St) (H : Hp) (Q : VK), Inv X pins σ H s → t σ H Q → wpAny (model X.prog X.w) X.A (eval e X.env) (EP X pins σ Q) X.xe s
def PT (X : Cx) (e : Expr) (t : TT) : Prop :=
  ∀ (pins : List (Addr × Obj)) (s : Shared) (σ : St) (H : Hp) (Q : Bool → Hp → Prop), Inv X pins σ H s → t σ H Q → wpAny (model X.prog X.w) X.A (isTrue e X.env (eval e X.env)) (TP X pins σ Q) X.xe s
def PW (X : Cx) (e : Expr) (t : TT) : Prop :=
  ∀ (whole : Sem Value) (pins : List (Addr × Obj)) (s : Shared) (σ : St) (H : Hp) (Q : Bool → Hp → Prop), Inv X pins σ H s → t σ H Q → wpAny (model X.prog X.w) X.A (isTrue e X.env whole) (TP X pins σ Q) X.xe s
theorem PW.pt {X : Cx} {e : Expr} {t : TT} (h : PW X e t) : PT X e t := h _
def PA (X : Cx) (es : List Expr) (t : TA) : Prop :=
  ∀ (pos : Pos) (pins : List (Addr × Obj)) (s : Shared) (σ : St) (H : Hp) (Q : List V → Hp → Prop), Inv X pins σ H s → t σ H Q → wpAny (model X.prog X.w) X.A (spliced (backTo pos (starEach es X.env))) (AP X pins σ Q) X.xe s
def PS (X : Cx) (st : Stmt) (t : TS) : Prop :=
  ∀ (pins : List (Addr × Obj)) (s : Shared) (σ : St) (H : Hp) (D : Ends), Inv X pins σ H s → t D σ H → wpAny (model X.prog X.w) X.A (exec st X.env) (SP X pins D) X.xe s
def PSs (X : Cx) (st : List Stmt) (t : TS) : Prop :=
  ∀ (pins : List (Addr × Obj)) (s : Shared) (σ : St) (H : Hp) (D : Ends), Inv X pins σ H s → t D σ H → wpAny (model X.prog X.w) X.A (execs st X.env) (SP X pins D) X.xe s
theorem thn {α : Type} {t : Sem α} {Q Q' : α → Shared → Prop} {M : Model} {A : Around} {E : Value → Shared → Prop} {s : Shared} (h : wpAny M A t Q E s) (hQ : ∀ a s, Q a s → Q' a s) : wpAny M A t Q' E s := wpAny_mono h hQ fun _ _ x => x
end L2

namespace L2
open PySem PySem.Spec PyProof.Rows
section
variable {X : Cx}

def tVar (i : Nat) : TE := fun σ H Q => ∃ v, σ[i]? = some (some v) ∧ Q v H
def tC (v : V) : TE := fun _ H Q => Q v H
theorem pe_var {i : Nat} {x : Str} {pos : Pos} (hN : X.N[i]? = some x) (hv : Vis X.env.scope x) (hd : (x == ("__debug__" : Str)) = false := by decide) (hcd : (x == ("__classdict__" : Str)) = false := by decide) : PE X (.Name x pos) (tVar i) := by
  intro pins s σ H Q I h
  obtain ⟨v, e, h⟩ := h
  obtain ⟨m, hn, hl⟩ := I.loc
  obtain ⟨u, r, l⟩ := hl i x v hN e hv
  have fin : EP X pins σ Q u s := ⟨v, H, I, r, h⟩
  rcases l with ⟨hk, hm⟩ | ⟨hk, c, hc, hcell⟩
  · exact wpAny_Name (wpAny_loadName_local I.ok.kind hk hn hm fin) hd
  · rcases hk with hk | hk
    · exact wpAny_Name (wpAny_loadName_cell I.ok.kind hk hc hcell fin) hd
    · exact wpAny_Name (wpAny_loadName_free I.ok.kind hk hc hcell fin hcd) hd
theorem pe_int {i j pos} : PE X (.Constant (.int i) j pos) (tC (.int i)) := fun _ _ _ H _ I h => wpAny_Constant_int ⟨.int i, H, I.tok _, ⟨_, rfl⟩, h⟩
theorem pe_bl {b j pos} : PE X (.Constant (.bool b) j pos) (tC (.bl b)) := fun _ _ _ H _ I h => Constant_bool ⟨.bl b, H, I, rfl, h⟩
theorem pe_non {j pos} : PE X (.Constant .none j pos) (tC .non) := fun _ _ _ H _ I h => Constant_none ⟨.non, H, I, rfl, h⟩
theorem pe_str {x j pos} : PE X (.Constant (.str x) j pos) (tC (.str x)) := fun _ _ _ H _ I h => Calls.Constant_str ⟨.str x, H, I.tok _, ⟨_, rfl⟩, h⟩

def Gl (X : Cx) (x : Str) : Prop := X.env.kindOf x = some .globalImplicit
theorem ld_glob {E : Value → Shared → Prop} {pins : List (Addr × Obj)} {s : Shared} {σ : St} {H : Hp} {x : Str} {u : Value} {pos : Pos} {Q : Value → Shared → Prop} (I : Inv X pins σ H s) (hg : Gl X x) (hm : X.mg x = some u) (h : Q u s)
    (hd : (x == ("__debug__" : Str)) = false := by decide) : wpAny (model X.prog X.w) X.A (eval (.Name x pos) X.env) Q E s :=
  Calls.Name_function_global I.ok.kind hg (Calls.loadGlobal_global (by rw [I.ok.glob]; exact I.mod.glob.keeps I.bk) hm h) hd
theorem ld_blt {E : Value → Shared → Prop} {pins : List (Addr × Obj)} {s : Shared} {σ : St} {H : Hp} {x : Str} {u : Value} {pos : Pos} {Q : Value → Shared → Prop} (I : Inv X pins σ H s) (hg : Gl X x) (hm : X.mg x = none) (hv : bootBuiltins x = some u) (h : Q u s)
    (hn : x ≠ "__name__" := by decide) (hd : (x == ("__debug__" : Str)) = false := by decide) : wpAny (model X.prog X.w) X.A (eval (.Name x pos) X.env) Q E s := by
  obtain ⟨mb, h1, h2⟩ := I.mod.blt
  exact Calls.Name_function_global I.ok.kind hg (Calls.loadGlobal_builtin (by rw [I.ok.glob]; exact I.mod.glob.keeps I.bk) hm (by rw [I.ok.blt]; exact h1.keeps I.bk) ((h2 x hn).trans hv) h) hd
theorem pe_glob {x : Str} {v : V} {u : Value} {pos : Pos} (hg : Gl X x) (hm : X.mg x = some u) (r : RelV v u) (hd : (x == ("__debug__" : Str)) = false := by decide) : PE X (.Name x pos) (tC v) :=
  fun _ _ _ H _ I h => ld_glob I hg hm ⟨v, H, I, r, h⟩ hd
theorem pe_bltn {x : Str} {v : V} {u : Value} {pos : Pos} (hg : Gl X x) (hm : X.mg x = none) (hv : bootBuiltins x = some u) (r : RelV v u) (hn : x ≠ "__name__" := by decide) (hd : (x == ("__debug__" : Str)) = false := by decide) : PE X (.Name x pos) (tC v) :=
  fun _ _ _ H _ I h => ld_blt I hg hm hv ⟨v, H, I, r, h⟩ hn hd

variable {a b : Expr} {ta tb : TE} {pos : Pos}
def PC (X : Cx) (op : CmpOp) (a b : Expr) (t : TE) : Prop :=
  ∀ (pins : List (Addr × Obj)) (s : Shared) (σ : St) (H : Hp) (Q : VK), Inv X pins σ H s → t σ H Q →
    wpAny (model X.prog X.w) X.A (eval a X.env) (fun v s₁ => wpAny (model X.prog X.w) X.A (eval b X.env) (fun u s₂ => wpAny (model X.prog X.w) X.A (compareOp op v u) (EP X pins σ Q) X.xe s₂) X.xe s₁) X.xe s
theorem nobehind (b : Expr) {op : CmpOp} (h : op ≠ .In) (h2 : op ≠ .NotIn) : behindInMarks op b = false := by
  have e1 : (op == CmpOp.In) = false := by cases op <;> first | rfl | exact absurd rfl h
  have e2 : (op == CmpOp.NotIn) = false := by cases op <;> first | rfl | exact absurd rfl h2
  cases b <;> simp [behindInMarks, e1, e2]
def tB (t : TE) : TT := fun σ H Q => t σ H fun x H1 => ∃ c, x = .bl c ∧ Q c H1
theorem pt_cmp {op : CmpOp} {t : TE} (h : PC X op a b t) (h1 : behindInMarks op b = false := by first | exact nobehind _ (by decide) (by decide) | rfl) : PT X (.Compare a [op] [b] pos) (tB t) := by
  intro pins s σ H Q I hw
  refine wpAny_isTrue_Compare1 (thn (h pins s σ H _ I hw) fun v s1 h1 => thn h1 fun u s2 h2 => thn h2 fun c s3 ⟨x, H1, I1, r1, q1⟩ => ?_) h1
  obtain ⟨d, rfl, q⟩ := q1
  cases r1
  exact wpAny_truthy_bool ⟨H1, I1, q⟩
theorem pt_val {e : Expr} {t : TE} (h : PE X e t) (he : ∀ whole, isTrue e X.env whole = (do let v ← whole; standAt e.pos; holding [v] (truthy v)) := by intro _; rfl) : PT X e (tB t) := by
  intro pins s σ H Q I hw
  refine isTrue_plain (thn (h pins s σ H _ I hw) fun v s1 ⟨x, H1, I1, r1, q1⟩ => ?_) (he _)
  obtain ⟨d, rfl, q⟩ := q1
  cases r1
  exact wpAny_truthy_bool ⟨H1, I1, q⟩

variable {tA tB' : TT} {rest : List Expr}
def tAnd (t u : TT) : TT := fun σ H Q => t σ H fun c H1 => if c = true then u σ H1 Q else Q false H1
def tOr (t u : TT) : TT := fun σ H Q => t σ H fun c H1 => if c = true then Q true H1 else u σ H1 Q
def tNot (t : TT) : TT := fun σ H Q => t σ H fun c H1 => Q (!c) H1
theorem pw_and1 (ha : PT X a tA) : PW X (.BoolOp .And [a] pos) tA := by
  intro wh pins s σ H Q I h
  refine isTrue_and (thn (ha pins s σ H Q I h) fun c s1 e => ?_)
  cases c with
  | true => exact isTrue_and_nil e
  | false => exact e
theorem pw_or1 (ha : PT X a tA) : PW X (.BoolOp .Or [a] pos) tA := by
  intro wh pins s σ H Q I h
  refine isTrue_or (thn (ha pins s σ H Q I h) fun c s1 e => ?_)
  cases c with
  | false => exact isTrue_or_nil e
  | true => exact e
theorem pw_and (ha : PT X a tA) (hb : PW X (.BoolOp .And (b :: rest) pos) tB') : PW X (.BoolOp .And (a :: b :: rest) pos) (tAnd tA tB') := by
  intro wh pins s σ H Q I h
  refine isTrue_and (thn (ha pins s σ H _ I h) fun c s1 ⟨H1, I1, q1⟩ => ?_)
  cases c with
  | true => exact hb wh pins s1 σ H1 Q I1 q1
  | false => exact ⟨H1, I1, q1⟩
theorem pw_or (ha : PT X a tA) (hb : PW X (.BoolOp .Or (b :: rest) pos) tB') : PW X (.BoolOp .Or (a :: b :: rest) pos) (tOr tA tB') := by
  intro wh pins s σ H Q I h
  refine isTrue_or (thn (ha pins s σ H _ I h) fun c s1 ⟨H1, I1, q1⟩ => ?_)
  cases c with
  | true => exact ⟨H1, I1, q1⟩
  | false => exact hb wh pins s1 σ H1 Q I1 q1
theorem pt_not (ha : PT X a tA) : PT X (.UnaryOp .Not a pos) (tNot tA) := by
  intro pins s σ H Q I h
  exact isTrue_not (ha pins s σ H (fun c H1 => Q (!c) H1) I h)
def tAndV (ta tb : TE) : TE := fun σ H Q => ta σ H fun x H1 => ∃ c, x = .bl c ∧ if c = true then tb σ H1 Q else Q (.bl false) H1
def tNotV (ta : TE) : TE := fun σ H Q => ta σ H fun x H1 => ∃ c, x = .bl c ∧ Q (.bl (!c)) H1
theorem pe_one {op} {t : TE} (h : PE X a t) : PE X (.BoolOp op [a] pos) t := fun pins s σ H Q I hw => BoolOp_one (h pins s σ H Q I hw)
theorem pe_and (ha : PE X a ta) (hb : PE X (.BoolOp .And (b :: rest) pos) tb) : PE X (.BoolOp .And (a :: b :: rest) pos) (tAndV ta tb) := by
  intro pins s σ H Q I h
  refine BoolOp_and (thn (ha pins s σ H _ I h) fun v s1 ⟨x, H1, I1, r1, q1⟩ => ?_)
  obtain ⟨c, rfl, q1⟩ := q1
  cases r1
  refine wpAny_truthy_bool ?_
  cases c with
  | true => exact hb pins s1 σ H1 Q I1 q1
  | false => exact ⟨.bl false, H1, I1, rfl, q1⟩
theorem pe_not (ha : PE X a ta) : PE X (.UnaryOp .Not a pos) (tNotV ta) := by
  intro pins s σ H Q I h
  refine UnaryOp_ (thn (ha pins s σ H _ I h) fun v s1 ⟨x, H1, I1, r1, q1⟩ => ?_)
  obtain ⟨c, rfl, q1⟩ := q1
  cases r1
  exact not_of (wpAny_truthy_bool ⟨.bl (!c), H1, I1, rfl, q1⟩)
def tIf (t : TT) (ta tb : TE) : TE := fun σ H Q => t σ H fun c H1 => if c = true then ta σ H1 Q else tb σ H1 Q
theorem pe_ifExp {c : Expr} (hc : PT X c tA) (ha : PE X a ta) (hb : PE X b tb) : PE X (.IfExp c a b pos) (tIf tA ta tb) := by
  intro pins s σ H Q I h
  refine wpAny_IfExp (thn (hc pins s σ H _ I h) fun d s1 ⟨H1, I1, q1⟩ => ?_)
  cases d with
  | true => exact ha pins s1 σ H1 Q I1 q1
  | false => exact hb pins s1 σ H1 Q I1 q1
end
end L2

namespace L2
open PySem PySem.Spec PyProof.Rows

def SqL (K : PySem.W.Frag) (H : Hp) (a : Addr) (xs : List V) : Prop :=
  Rd H a (.lst xs) ∨
    ∃ (o : Obj) (its : Array Value) (n : Nat), K.lookup a = some o ∧ o.cls = .type "list" ∧ o.dict = none ∧ o.data = .seq its n ∧ its.size ≤ sizeLine ∧ Vals xs its.toList
def SqT (K : PySem.W.Frag) (H : Hp) (a : Addr) (xs : List V) : Prop :=
  Rd H a (.tup xs) ∨
    ∃ (o : Obj) (its : Array Value) (n : Nat), K.lookup a = some o ∧ o.cls = .type "tuple" ∧ o.data = .seq its n ∧ its.size ≤ sizeLine ∧ Vals xs its.toList
def absV : Value → Option V
  | .none => some .non
  | .bool b => some (.bl b)
  | .int i _ => some (.int i)
  | .str x _ => some (.str x)
  | .bytes b _ => some (.byt b)
  | .float b _ => some (.flt b)
  | .ref a => some (.ref a)
  | .type n => some (.ty n)
  | _ => none
theorem RelV.abs {x : V} {u : Value} (r : RelV x u) : absV u = some x := by
  cases x with
  | non => cases r; rfl
  | bl _ => cases r; rfl
  | int _ => obtain ⟨t, rfl⟩ := r; rfl
  | str _ => obtain ⟨t, rfl⟩ := r; rfl
  | byt _ => obtain ⟨t, rfl⟩ := r; rfl
  | flt _ => obtain ⟨t, rfl⟩ := r; rfl
  | ref _ => cases r; rfl
  | ty _ => cases r; rfl
theorem RelV.inj {x y : V} {u : Value} (r : RelV x u) (q : RelV y u) : x = y := Option.some.inj (r.abs.symm.trans q.abs)
theorem Vals.inj : ∀ {xs ys : List V} {us : List Value}, Vals xs us → Vals ys us → xs = ys
  | _, _, _, .nil, .nil => rfl
  | _, _, _, .cons r t, .cons r' t' => by rw [r.inj r', Vals.inj t t']
section
variable {X : Cx} {pins : List (Addr × Obj)} {σ : St} {H : Hp} {s : Shared} {a : Addr} {xs ys : List V}
theorem SqL.of {K : PySem.W.Frag} (h : H a = some (.lst xs)) : SqL K H a xs := .inl (.inl h)
theorem SqT.of {K : PySem.W.Frag} (h : H a = some (.tup xs)) : SqT K H a xs := .inl (.inl h)
theorem Inv.list (I : Inv X pins σ H s) (h : SqL X.K H a xs) : ∃ its : List Value, Vals xs its ∧ PlainL s.heap a its.toArray ∧ xs.length ≤ sizeLine := by
  rcases h with h | ⟨o, its, n, hk, hc, hd, hs, hz, r⟩
  · obtain ⟨z, its, n, r, e⟩ := h.ok I.hok
    exact ⟨its, r, ⟨_, n, e, rfl, rfl, rfl⟩, z⟩
  · refine ⟨its.toList, r, ⟨o, n, I.kIn a o hk, hc, hd, by simpa using hs⟩, ?_⟩
    have e := r.length
    simp only [Array.length_toList] at e
    omega
theorem Inv.tuple (I : Inv X pins σ H s) (h : SqT X.K H a xs) : ∃ its : List Value, Vals xs its ∧ IsTup s.heap a its.toArray ∧ xs.length ≤ sizeLine := by
  rcases h with h | ⟨o, its, n, hk, hc, hs, hz, r⟩
  · obtain ⟨z, its, r, p⟩ := h.ok I.hok
    exact ⟨its, r, p, z⟩
  · refine ⟨its.toList, r, ⟨o, I.kIn a o hk, hc, n, by simpa using hs⟩, ?_⟩
    have e := r.length
    simp only [Array.length_toList] at e
    omega
theorem Inv.list_inj (I : Inv X pins σ H s) (h : SqL X.K H a xs) (h' : SqL X.K H a ys) : xs = ys := by
  obtain ⟨its, r, ⟨o, n, e, _, _, d⟩, _⟩ := I.list h
  obtain ⟨its', r', ⟨o', n', e', _, _, d'⟩, _⟩ := I.list h'
  rw [e] at e'; cases e'
  rw [d] at d'
  injection d' with d1 _
  have : its = its' := by simpa using congrArg Array.toList d1
  subst this
  exact r.inj r'
theorem Inv.tuple_inj (I : Inv X pins σ H s) (h : SqT X.K H a xs) (h' : SqT X.K H a ys) : xs = ys := by
  obtain ⟨its, r, ⟨o, e, _, n, d⟩, _⟩ := I.tuple h
  obtain ⟨its', r', ⟨o', e', _, n', d'⟩, _⟩ := I.tuple h'
  rw [e] at e'; cases e'
  rw [d] at d'
  injection d' with d1 _
  have : its = its' := by simpa using congrArg Array.toList d1
  subst this
  exact r.inj r'
end

abbrev Cx.wish (X : Cx) (E : Value → Shared → Prop) : Cx := { X with xe := E }
abbrev Cx.nox (X : Cx) : Cx := X.wish fun _ _ => False
theorem Cx.Ok.wish {X : Cx} (ok : X.Ok) (E : Value → Shared → Prop) : (X.wish E).Ok :=
  ⟨ok.mod, ok.kind, ok.glob, ok.blt, ok.above, ok.inj, ok.has, ok.cab, ok.hd, ok.frames, ok.stk, ok.exf, ok.bs, ok.bsz, ok.noex, ok.exfs, ok.funs, ok.frf⟩
theorem Cx.Ok.unwish {X : Cx} {E : Value → Shared → Prop} (ok : (X.wish E).Ok) : X.Ok :=
  ⟨ok.mod, ok.kind, ok.glob, ok.blt, ok.above, ok.inj, ok.has, ok.cab, ok.hd, ok.frames, ok.stk, ok.exf, ok.bs, ok.bsz, ok.noex, ok.exfs, ok.funs, ok.frf⟩
section
variable {X : Cx} {pins : List (Addr × Obj)} {σ : St} {H : Hp} {s : Shared} {E : Value → Shared → Prop}
theorem Inv.wish (I : Inv X pins σ H s) (E : Value → Shared → Prop) : Inv (X.wish E) pins σ H s := ⟨I.ok.wish E, I.os, I.bare, I.base, I.loc, I.cell, I.free, I.freeC, I.pin, I.hok, I.len⟩
theorem Inv.unwish (I : Inv (X.wish E) pins σ H s) : Inv X pins σ H s := ⟨I.ok.unwish, I.os, I.bare, I.base, I.loc, I.cell, I.free, I.freeC, I.pin, I.hok, I.len⟩
theorem SP.unwish {D : Ends} {f : Flow} {s' : Shared} (h : SP (X.wish E) pins D f s') : SP X pins D f s' := by
  cases f with
  | next => obtain ⟨σ', H', I, q⟩ := h; exact ⟨σ', H', I.unwish, q⟩
  | brk => obtain ⟨σ', H', I, q⟩ := h; exact ⟨σ', H', I.unwish, q⟩
  | cont => obtain ⟨σ', H', I, q⟩ := h; exact ⟨σ', H', I.unwish, q⟩
  | ret u => obtain ⟨v, σ', H', I, r, q⟩ := h; exact ⟨v, σ', H', I.unwish, r, q⟩
theorem PSs.nox {st : List Stmt} {t : TS} (h : PSs X.nox st t) : PSs X st t := fun pins s σ H D I hw =>
  wpAny_mono (h pins s σ H D (I.wish _) hw) (fun _ _ q => q.unwish) fun _ _ z => False.elim z
end

section
variable {X : Cx} {st : Stmt} {rest : List Stmt} {t u : TS} {e : Expr} {te : TE} {pos : Pos}
def tNext : TS := fun D σ H => D.nx σ H
def tSeq (t u : TS) : TS := fun D σ H => t { D with nx := u D } σ H
theorem pss_nil : PSs X [] tNext := fun _ _ σ H _ I h => wpAny_execs_nil ⟨σ, H, I, h⟩
theorem pss_cons (h1 : PS X st t) (h2 : PSs X rest u) : PSs X (st :: rest) (tSeq t u) := by
  intro pins s σ H D I h
  refine wpAny_execs_cons (thn (h1 pins s σ H { D with nx := u D } I h) fun f s1 q => ?_)
  cases f with
  | next =>
    obtain ⟨σ', H', I', q⟩ := q
    exact h2 pins s1 σ' H' D I' q
  | ret v => exact q
  | brk => exact q
  | cont => exact q
theorem pss_one (h1 : PS X st t) : PSs X [st] t := by
  intro pins s σ H D I h
  refine wpAny_execs_cons (thn (h1 pins s σ H D I h) fun f s1 q => ?_)
  cases f with
  | next => exact wpAny_execs_nil q
  | ret v => exact q
  | brk => exact q
  | cont => exact q
theorem Inv.quiet {pins : List (Addr × Obj)} {σ : St} {H : Hp} {s : Shared} (I : Inv X pins σ H s) : interactive X.env = false := by simp [interactive, I.ok.kind]
def tDrop (te : TE) : TS := fun D σ H => te σ H fun _ H1 => D.nx σ H1
theorem ps_expr (he : PE X e te) (hs : swapsWith e none pos.line X.env = pure false := by rfl) : PS X (.Expr e pos) (tDrop te) := by
  intro pins s σ H D I h
  exact wpAny_Expr_any (thn (he pins s σ H _ I h) fun v s1 ⟨x, H1, I1, r1, q1⟩ => ⟨σ, H1, I1, q1⟩) I.quiet hs
def tRet (te : TE) : TS := fun D σ H => te σ H D.rt
theorem ps_ret (he : PE X e te) : PS X (.Return (some e) pos) (tRet te) := by
  intro pins s σ H D I h
  exact wpAny_Return_some (thn (he pins s σ H _ I h) fun v s1 ⟨x, H1, I1, r1, q1⟩ => ⟨x, σ, H1, I1, r1, q1⟩)
def tIfS (c : TT) (t u : TS) : TS := fun D σ H => c σ H fun b H1 => if b = true then t D σ H1 else u D σ H1
theorem ps_if {c : Expr} {a b : List Stmt} {tc : TT} (hc : PT X c tc) (ha : PSs X a t) (hb : PSs X b u) : PS X (.If c a b pos) (tIfS tc t u) := by
  intro pins s σ H D I h
  refine wpAny_If (thn (hc pins s σ H _ I h) fun d s1 ⟨H1, I1, q1⟩ => ?_)
  cases d with
  | true => exact ha pins s1 σ H1 D I1 q1
  | false => exact hb pins s1 σ H1 D I1 q1
def tNever : TS := fun _ _ _ => False
theorem ps_never : PS X st tNever := fun _ _ _ _ _ _ h => h.elim
end

abbrev TG := V → St → Hp → (St → Hp → Prop) → Prop
abbrev TGs := List V → St → Hp → (St → Hp → Prop) → Prop
def PG (X : Cx) (target : Expr) (t : TG) : Prop :=
  ∀ (pins : List (Addr × Obj)) (s : Shared) (σ : St) (H : Hp) (v : V) (u : Value) (Q : St → Hp → Prop), Inv X pins σ H s → RelV v u → t v σ H Q →
    wpAny (model X.prog X.w) X.A (assign target X.env u) (fun _ s' => ∃ σ' H', Inv X pins σ' H' s' ∧ Q σ' H') X.xe s
def PGs (X : Cx) (ts : List Expr) (t : TGs) : Prop :=
  ∀ (pins : List (Addr × Obj)) (s : Shared) (σ : St) (H : Hp) (vs : List V) (us : List Value) (Q : St → Hp → Prop), Inv X pins σ H s → Vals vs us → t vs σ H Q →
    wpAny (model X.prog X.w) X.A (assignInOrder ((assignEach ts X.env).map (·.2)) us) (fun _ s' => ∃ σ' H', Inv X pins σ' H' s' ∧ Q σ' H') X.xe s
abbrev TSet := V → V → V → Hp → (Hp → Prop) → Prop
def PSet (X : Cx) (t : TSet) : Prop :=
  ∀ (pins : List (Addr × Obj)) (s : Shared) (σ : St) (H : Hp) (o i v : V) (ov iv u : Value) (Q : Hp → Prop), Inv X pins σ H s → RelV o ov → RelV i iv → RelV v u → t o i v H Q →
    wpAny (model X.prog X.w) X.A (setItem ov iv u) (fun _ s' => ∃ H', Inv X pins σ H' s' ∧ Q H') X.xe s
section
variable {X : Cx} {pos : Pos}
def gName (i : Nat) : TG := fun v σ H Q => Q (σ.set i (some v)) H
theorem pg_name {i : Nat} {x : Str} (hN : X.N.Nodup) (hi : X.N[i]? = some x) (hx : Loc X.env.scope x) (hf : X.fn x = true ∨ X.env.scope.names.lookup x = some .local := by first | exact .inl rfl | exact .inr rfl | assumption) : PG X (.Name x pos) (gName i) := by
  intro pins s σ H v u Q I r h
  exact wpAny_assign_Name (store_ok I hN hi hx r (fun s' I' => ⟨_, H, I', h⟩) hf)
def gNil : TGs := fun vs σ H Q => vs = [] ∧ Q σ H
def gCons (t : TG) (u : TGs) : TGs := fun vs σ H Q => ∃ v r, vs = v :: r ∧ t v σ H fun σ' H' => u r σ' H' Q
theorem pgs_nil : PGs X [] gNil := by
  intro pins s σ H vs us Q I r h
  obtain ⟨e, h⟩ := h
  subst e
  cases r
  exact assignInOrder_nil ⟨σ, H, I, h⟩
theorem pgs_cons {e : Expr} {es : List Expr} {t : TG} {u : TGs} (h1 : PG X e t) (h2 : PGs X es u)
    (hs : (assignEach (e :: es) X.env).map (·.2) = assign e X.env :: (assignEach es X.env).map (·.2) := by rfl) : PGs X (e :: es) (gCons t u) := by
  intro pins s σ H vs us Q I r h
  obtain ⟨v, vr, e1, h⟩ := h
  subst e1
  cases r with
  | cons r rr =>
    rw [hs]
    refine assignInOrder_cons (thn (h1 pins s σ H _ _ _ I r h) fun _ s1 ⟨σ1, H1, I1, q1⟩ => ?_)
    exact h2 pins s1 σ1 H1 _ _ Q I1 rr q1
def gTup (K : PySem.W.Frag) (n : Nat) (t : TGs) : TG := fun v σ H Q => ∃ a xs, v = .ref a ∧ SqT K H a xs ∧ xs.length = n ∧ t xs σ H Q
theorem pg_tup {es : List Expr} {k : Nat} {t : TGs} {n : Nat} (hc : X.calm = true) (h : PGs X es t)
    (hn : (assignEach es X.env).length = n := by rfl) (hst : (assignEach es X.env).findIdx? (·.1) = none := by rfl) : PG X (.Tuple es k pos) (gTup X.K n t) := by
  intro pins s σ H v u Q I r hw
  obtain ⟨a, xs, e1, hq, hl, hw⟩ := hw
  subst e1
  cases r
  obtain ⟨its, rv, ht, hz⟩ := I.tuple hq
  refine assign_Tuple_tuple (I.ok.hd hc) ht (by simp [hn, ← hl, rv.length]) hst fun h' hx => ?_
  have I1 : Inv X pins σ H { s with heap := h' } := I.kept (t' := s.toks) fun b o e => hx b o (Nat.ne_of_lt (Heap.lt_size e)) e
  exact h pins _ σ H xs _ Q I1 (by simpa using rv) hw
def gSub (to ti : TE) (t : TSet) : TG := fun v σ H Q => to σ H fun o H1 => ti σ H1 fun i H2 => t o i v H2 fun H3 => Q σ H3
theorem pg_sub {o i : Expr} {to ti : TE} {t : TSet} (ho : PE X o to) (hi : PE X i ti) (hs : PSet X t)
    (ha : ∀ v, assign (.Subscript o i pos) X.env v = (do
      let ov ← holding [v] (eval o X.env)
      let iv ← holding [v, ov] (eval i X.env)
      standAt pos
      holding [v, ov, iv] (setItem ov iv v)
      release [v, ov, iv] []) := by intro _; rfl) : PG X (.Subscript o i pos) (gSub to ti t) := by
  intro pins s σ H v u Q I r h
  rw [ha]
  refine wpAny_bind (wpAny_holding (thn (ho pins s σ H _ I h) fun ov s1 ⟨x, H1, I1, r1, q1⟩ => ?_))
  refine wpAny_bind (wpAny_holding (thn (hi pins s1 σ H1 _ I1 q1) fun iv s2 ⟨y, H2, I2, r2, q2⟩ => ?_))
  refine wpAny_bind (wpAny_standAt (wpAny_bind (wpAny_holding (thn (hs pins s2 σ H2 x y v ov iv u _ I2 r1 r2 r q2) fun _ s3 ⟨H3, I3, q3⟩ => ?_))))
  exact wpAny_release ⟨σ, H3, I3, q3⟩
def tAsg (te : TE) (g : TG) : TS := fun D σ H => te σ H fun x H1 => g x σ H1 D.nx
theorem ps_asg {tg e : Expr} {te : TE} {g : TG} (he : PE X e te) (hg : PG X tg g) (hs : swapsWithSole [tg] e pos.line X.env = pure false := by rfl) (hw : swappedStores [tg] e X.env = pure none := by rfl)
    (h1 : (assignEach [tg] X.env).map (·.2) = [assign tg X.env] := by rfl) : PS X (.Assign [tg] e pos) (tAsg te g) := by
  intro pins s σ H D I h
  refine wpAny_Assign_stores (thn (he pins s σ H _ I h) fun v s1 ⟨x, H1, I1, r1, q1⟩ => ?_) hs hw
  rw [h1]
  exact thn (hg pins s1 σ H1 x v _ I1 r1 q1) fun _ s2 q => q
theorem ps_set {i : Nat} {x : Str} {e : Expr} {te : TE} {pos' : Pos} (hN : X.N.Nodup) (hi : X.N[i]? = some x) (hx : Loc X.env.scope x) (he : PE X e te) (hs : swapsWith e (some (.Name x pos')) pos.line X.env = pure false := by rfl) (hf : X.fn x = true ∨ X.env.scope.names.lookup x = some .local := by first | exact .inl rfl | exact .inr rfl | assumption) :
    PS X (.Assign [.Name x pos'] e pos) (tAsg te (gName i)) := by
  intro pins s σ H D I h
  refine wpAny_Assign_Name (thn (he pins s σ H _ I h) fun v s1 ⟨y, H1, I1, r1, q1⟩ => ?_) hs
  exact store_ok I1 hN hi hx r1 (fun s2 I2 => ⟨_, H1, I2, q1⟩) hf
end

section
variable {X : Cx} {pos : Pos}
def tWhile (c : TT) (tb : TS) : TS := fun D σ H => ∃ W : Nat → St → Hp → Prop, (∃ m, W m σ H) ∧ ∀ m σ H, W m σ H →
  c σ H fun b H1 => if b = true then ∃ N : St → Hp → Prop, (∀ σ' H', N σ' H' → ∃ m', m' < m ∧ W m' σ' H') ∧ tb { D with nx := N, ct := N, bk := D.nx } σ H1 else D.nx σ H1
theorem ps_while {c : Expr} {body : List Stmt} {tc : TT} {tb : TS} (hp : PassesOwn (model X.prog X.w) X.A X.env X.xe) (hc : PT X c tc) (hb : PSs X body tb) : PS X (.While c body [] pos) (tWhile tc tb) := by
  intro pins s σ H D I h
  obtain ⟨W, ⟨m0, w0⟩, turn⟩ := h
  refine wpAny_While (codeAny_whileLoop (fun n s' => ∃ σ' H', Inv X pins σ' H' s' ∧ W n σ' H') ?_ m0 ⟨σ, H, I, w0⟩)
  rintro n s1 ⟨σ1, H1, I1, w1⟩
  refine wpAny_passesOwn hp (thn (hc pins s1 σ1 H1 _ I1 (turn n σ1 H1 w1)) fun b s2 ⟨H2, I2, q2⟩ => ?_)
  cases b with
  | true =>
    obtain ⟨N, hN, q2⟩ := q2
    rw [if_pos rfl]
    refine wpAny_passesOwn hp (thn (hb pins s2 σ1 H2 _ I2 q2) fun f s3 q3 => ?_)
    cases f with
    | next =>
      obtain ⟨σ3, H3, I3, n3⟩ := q3
      obtain ⟨m', hm, w3⟩ := hN σ3 H3 n3
      exact ⟨m', hm, σ3, H3, I3, w3⟩
    | cont =>
      obtain ⟨σ3, H3, I3, n3⟩ := q3
      obtain ⟨m', hm, w3⟩ := hN σ3 H3 n3
      exact ⟨m', hm, σ3, H3, I3, w3⟩
    | brk => exact q3
    | ret v => exact q3
  | false =>
    rw [if_neg Bool.false_ne_true]
    exact wpAny_execs_nil ⟨σ1, H2, I2, q2⟩
end

structure It where
  go : Nat → Hp → Prop
  yld : Nat → Hp → V → Hp → Prop
  stop : Nat → Hp → Prop
def FpOk (X : Cx) (pins : List (Addr × Obj)) (H : Hp) (b : Addr) : Prop :=
  H b = none ∧ b ≠ X.env.locals ∧ b ∉ X.fs ∧ (b ∈ X.ex ∨ X.s₀.heap.objs.size ≤ b) ∧ (∀ x c, X.env.cells.lookup x = some c → c ≠ b) ∧ ∀ p ∈ X.pn ++ pins, p.1 ≠ b
theorem Inv.fpOk {X : Cx} {pins : List (Addr × Obj)} {σ : St} {H H' : Hp} {s : Shared} {b : Addr} (I : Inv X pins σ H s) (hb : s.heap.objs.size ≤ b) (hn : H' b = none) : FpOk X pins H' b := by
  refine ⟨hn, Nat.ne_of_gt (Nat.lt_of_lt_of_le I.lt hb), I.nofs hb, .inr (Nat.le_trans I.sz hb), fun x c e z => ?_, fun p hp z => ?_⟩
  · obtain ⟨v, q⟩ := I.cell x c e
    exact absurd (Nat.lt_of_lt_of_le q.lt (by rw [z]; exact hb)) (Nat.lt_irrefl _)
  · exact absurd (Nat.lt_of_lt_of_le (Heap.lt_size (I.pin p hp).1) (by rw [z]; exact hb)) (Nat.lt_irrefl _)
structure Turn (P : Program) (w : World) (K : PySem.W.Frag) (tg : Expr) (J : It) (fp : List Addr) (it : Addr) (tn : Nat → Heap → Prop) : Prop where
  mem : it ∈ fp
  obj : ∀ i h, tn i h → ∀ b ∈ fp, ∃ o, h.get? b = some o ∧ ∀ v, o.data ≠ .cell v
  keep : ∀ i h h', tn i h → (∀ b ∈ fp, ∀ o, h.get? b = some o → h'.get? b = some o) → tn i h'
  item : ∀ (X : Cx), X.prog = P → X.w = w → X.K = K → X.calm = true → ∀ (i : Nat) (pins : List (Addr × Obj)) (s : Shared) (σ : St) (H : Hp) (E : Value → Shared → Prop), Inv X pins σ H s → (∀ b ∈ fp, FpOk X pins H b) → tn i s.heap → J.go i H →
    wpAny (model P w) X.A (pyNext (.ref it)) (fun r s1 => ∃ u, r = some u ∧
      wpAny (model P w) X.A (letOwnedTupleGo tg (.ref it) u) (fun _ s2 => ∃ x H', Inv X pins σ H' s2 ∧ RelV x u ∧ J.yld i H x H' ∧ tn (i + 1) s2.heap ∧ ∀ b ∈ fp, H' b = none) E s1) E s
  done : ∀ (X : Cx), X.prog = P → X.w = w → X.K = K → X.calm = true → ∀ (i : Nat) (pins : List (Addr × Obj)) (s : Shared) (σ : St) (H : Hp) (E : Value → Shared → Prop), Inv X pins σ H s → (∀ b ∈ fp, FpOk X pins H b) → tn i s.heap → J.stop i H →
    wpAny (model P w) X.A (pyNext (.ref it)) (fun r s1 => r = none ∧ Inv X pins σ H s1) E s
  self : ∀ (A : Around) (i : Nat) (s : Shared) (Q : Value → Shared → Prop) (E : Value → Shared → Prop), tn i s.heap → Q (.ref it) s → wpAny (model P w) A (pyIter (.ref it)) Q E s
abbrev TI := St → Hp → (It → Hp → Prop) → Prop
def PIE (X : Cx) (pins : List (Addr × Obj)) (σ : St) (tg : Expr) (R : It → Hp → Prop) (itv : Value) (s2 : Shared) : Prop :=
  ∃ (it : Addr) (fp : List Addr) (tn : Nat → Heap → Prop) (J : It) (H' : Hp), itv = .ref it ∧ Inv X pins σ H' s2 ∧ Turn X.prog X.w X.K tg J fp it tn ∧ tn 0 s2.heap ∧ (∀ b ∈ fp, FpOk X pins H' b) ∧ R J H'
def PI (X : Cx) (tg iter : Expr) (wi : TI) : Prop :=
  ∀ (pins : List (Addr × Obj)) (s : Shared) (σ : St) (H : Hp) (R : It → Hp → Prop), Inv X pins σ H s → wi σ H R →
    wpAny (model X.prog X.w) X.A (eval iter X.env) (fun v s1 => wpAny (model X.prog X.w) X.A (pyIter v) (PIE X pins σ tg R) X.xe s1) X.xe s

theorem go_of {M : Model} {A : Around} {E : Value → Shared → Prop} {s : Shared} {tg : Expr} {it : Addr} {u : Value} {o : Obj} {n : String} {vs : Array Value} {Q : Unit → Shared → Prop} (ho : s.heap.get? it = some o) (hc : o.cls = .type n) (hd : o.data = .fields vs)
    (hn : ["enumerate", "zip", "dict_itemiterator", "dict_reverseitemiterator", "odict_iterator", "itertools.zip_longest", "itertools.pairwise"].contains n = false) (hQ : Q () s) : wpAny M A (letOwnedTupleGo tg (.ref it) u) Q E s := by
  unfold letOwnedTupleGo
  cases tg <;> first
    | exact wpAny_pure hQ
    | (cases u <;> first
        | exact wpAny_pure hQ
        | (refine wpAny_bind (wpAny_load ho ?_)
           rw [hc, hd]
           show wpAny M A (if (["enumerate", "zip", "dict_itemiterator", "dict_reverseitemiterator", "odict_iterator", "itertools.zip_longest", "itertools.pairwise"].contains n && vs[0]? == some (rawInt _)) = true then _ else _) Q E s
           rw [if_neg (by intro h; rw [hn, Bool.false_and] at h; cases h)]
           exact wpAny_pure hQ))

def Itl (K : PySem.W.Frag) (a : Addr) : It :=
  ⟨fun i H => ∃ xs x, SqL K H a xs ∧ xs[i]? = some x, fun i H x H' => H' = H ∧ ∀ xs, SqL K H a xs → xs[i]? = some x, fun i H => ∃ xs, SqL K H a xs ∧ xs.length ≤ i⟩
def Itr (lo : Int) (n : Nat) : It := ⟨fun i _ => i < n, fun i H x H' => H' = H ∧ x = .int (lo + i), fun i _ => n ≤ i⟩
theorem turn_list {P : Program} {w : World} {K : PySem.W.Frag} {tg : Expr} (a it : Addr) : Turn P w K tg (Itl K a) [it] it (fun i h => h.IsListIter it a i) where
  mem := by simp
  obj := fun i h st b hb => by
    have e : b = it := by simpa using hb
    subst e
    obtain ⟨o, e, c, d⟩ := st
    exact ⟨o, e, fun v z => by rw [d] at z; cases z⟩
  keep := fun i h h' st k => st.at fun o e => k it (by simp) o e
  item := by
    intro X hP hw hK hc i pins s σ H E I hf st hg
    subst hP hw hK
    obtain ⟨xs, x, hq, hx⟩ := hg
    obtain ⟨its, rv, p, hz⟩ := I.list hq
    obtain ⟨u, hu, ru⟩ := rv.get hx
    obtain ⟨f0, f1, f2, f3, f4, f5⟩ := hf it (by simp)
    refine wpAny_pyNext_list_item st p.isList (x := u) (by simpa using hu) fun h' st' sb => ?_
    have I1 : Inv X pins σ H { s with heap := h' } := I.turned (t' := s.toks) (fun b o hb e => (sb.2 b hb).trans e) f0 f1 f3 f4 f5
    obtain ⟨o, e, c, d⟩ := id st'
    exact ⟨u, rfl, go_of (s := { s with heap := h' }) e c d (by decide) ⟨x, H, I1, ru, ⟨rfl, fun ys hy => by rw [I.list_inj hy hq]; exact hx⟩, st', fun b hb => (hf b hb).1⟩⟩
  done := by
    intro X hP hw hK hc i pins s σ H E I hf st hg
    subst hP hw hK
    obtain ⟨xs, hq, hx⟩ := hg
    obtain ⟨its, rv, p, hz⟩ := I.list hq
    obtain ⟨f0, f1, f2, f3, f4, f5⟩ := hf it (by simp)
    have hl := rv.length
    exact wpAny_pyNext_list_end (I.ok.hd hc) st p.isList (by simp; omega) fun h' eb => ⟨rfl, I.turned (t' := s.toks) (fun b o hb e => eb b o hb e) f0 f1 f3 f4 f5⟩
  self := fun _ _ _ _ _ st h => wpAny_pyIter_listiter st h
theorem turn_range {P : Program} {w : World} {K : PySem.W.Frag} {tg : Expr} (it : Addr) (lo : Int) (n : Nat) : Turn P w K tg (Itr lo n) [it] it (fun i h => IsRangeIter h it (lo + (i : Nat) * 1) ((n : Int) - (i : Nat)) 1) where
  mem := by simp
  obj := fun i h st b hb => by
    have e : b = it := by simpa using hb
    subst e
    exact ⟨_, st, fun v z => by
      have z' : Data.fields _ = Data.cell v := z
      cases z'⟩
  keep := fun i h h' st k => k it (by simp) _ st
  item := by
    intro X hP hw hK hc i pins s σ H E I hf st hg
    subst hP hw hK
    obtain ⟨f0, f1, f2, f3, f4, f5⟩ := hf it (by simp)
    have W := Walks.range (prog := X.prog) (w := X.w) (I.ok.hd hc) it lo 1 n
    refine W.item i s _ _ hg st fun v h' tk hv st' kk => ?_
    obtain ⟨t, rfl⟩ := hv
    have I1 : Inv X pins σ H { s with heap := h', toks := tk } := I.turned (fun b o hb e => kk b o (by simpa using hb) e) f0 f1 f3 f4 f5
    refine ⟨_, rfl, go_of (s := { s with heap := h', toks := tk }) (n := "range_iterator") st' rfl rfl (by decide) ⟨.int (lo + i), H, I1, ⟨t, ?_⟩, ⟨rfl, rfl⟩, st', fun b hb => (hf b hb).1⟩⟩
    rw [Int.mul_one]
  done := by
    intro X hP hw hK hc i pins s σ H E I hf st hg
    subst hP hw hK
    obtain ⟨f0, f1, f2, f3, f4, f5⟩ := hf it (by simp)
    exact wpAny_pyNext_range_end (I.ok.hd hc) st (by have : n ≤ i := hg; omega) fun h' eb => ⟨rfl, I.turned (t' := s.toks) (fun b o hb e => eb b o hb e) f0 f1 f3 f4 f5⟩
  self := fun _ _ _ _ _ st h => wpAny_pyIter_rangeiter st h
end L2

namespace L2
open PySem PySem.Spec PyProof.Rows
section
variable {X : Cx} {tg : Expr}
def iList (K : PySem.W.Frag) (tl : TE) : TI := fun σ H R => tl σ H fun x H1 => ∃ a, x = .ref a ∧ (∃ xs, SqL K H1 a xs) ∧ R (Itl K a) H1
theorem pi_list {l : Expr} {tl : TE} (hl : PE X l tl) : PI X tg l (iList X.K tl) := by
  intro pins s σ H R I h
  refine thn (hl pins s σ H _ I h) fun v s1 ⟨x, H1, I1, r1, q1⟩ => ?_
  obtain ⟨a, e, ⟨xs, hq⟩, q⟩ := q1
  subst e
  cases r1
  obtain ⟨its, rv, p, hz⟩ := I1.list hq
  refine wpAny_pyIter_list p.isList ?_
  refine ⟨s1.heap.objs.size, [s1.heap.objs.size], _, _, H1, rfl, I1.kept (t' := s1.toks) fun b o e => Heap.get?_push_of_some _ e, turn_list a _, ⟨_, Heap.get?_push_size _ rfl, rfl, rfl⟩, fun b hb => ?_, q⟩
  have e : b = s1.heap.objs.size := by simpa using hb
  subst e
  exact I1.fpOk (Nat.le_refl _) (I1.hok.fresh (Nat.le_refl _))
theorem range_it {pins : List (Addr × Obj)} {σ : St} {H : Hp} {s : Shared} {R : It → Hp → Prop} {E : Value → Shared → Prop} {lo hi : Int} {t u v : Tok} {tk : Nat} (I : Inv X pins σ H s) (h1 : -(2 ^ 62) ≤ lo) (h2 : lo < 2 ^ 62) (h3 : -(2 ^ 62) ≤ hi) (h4 : hi < 2 ^ 62)
    (q : R (Itr lo (hi - lo).toNat) H) : wpAny (model X.prog X.w) X.A (pyIter (.ref s.heap.objs.size)) (PIE X pins σ tg R) E { s with heap := s.heap.push { cls := .type "range", data := .fields #[.int lo t, .int hi u, .int 1 v] }, toks := tk } := by
  refine wpAny_pyIter_range (IsRange.new ..) (small_one h1 h2 h3 h4) ?_
  have I1 : Inv X pins σ H { s with heap := s.heap.push { cls := .type "range", data := .fields #[.int lo t, .int hi u, .int 1 v] }, toks := tk } := I.kept fun b o e => Heap.get?_push_of_some _ e
  refine ⟨(s.heap.push { cls := .type "range", data := .fields #[.int lo t, .int hi u, .int 1 v] }).objs.size, [(s.heap.push { cls := .type "range", data := .fields #[.int lo t, .int hi u, .int 1 v] }).objs.size], _, _, H, rfl,
    I1.kept (t' := tk) fun b o e => Heap.get?_push_of_some _ e, turn_range _ lo (hi - lo).toNat, ?_, fun b hb => ?_, q⟩
  · have e1 : lo + ((0 : Nat) : Int) * 1 = lo := by simp
    have e2 : (((hi - lo).toNat : Nat) : Int) - ((0 : Nat) : Int) = Builtin.Range.rangeSize lo hi 1 := by rw [rangeSize_one]; split <;> omega
    show IsRangeIter _ _ (lo + ((0 : Nat) : Int) * 1) ((((hi - lo).toNat : Nat) : Int) - ((0 : Nat) : Int)) 1
    rw [e1, e2]
    exact Heap.get?_push_size _ rfl
  · have e : b = (s.heap.push { cls := .type "range", data := .fields #[.int lo t, .int hi u, .int 1 v] }).objs.size := by simpa using hb
    subst e
    exact I1.fpOk (Nat.le_refl _) (I1.hok.fresh (Nat.le_refl _))
def iRng1 (ta : TA) : TI := fun σ H R => ta σ H fun vs H1 => ∃ j : Int, vs = [.int j] ∧ -(2 ^ 62) ≤ j ∧ j < 2 ^ 62 ∧ R (Itr 0 j.toNat) H1
def iRng2 (ta : TA) : TI := fun σ H R => ta σ H fun vs H1 => ∃ i j : Int, vs = [.int i, .int j] ∧ (-(2 ^ 62) ≤ i ∧ i < 2 ^ 62 ∧ -(2 ^ 62) ≤ j ∧ j < 2 ^ 62) ∧ R (Itr i (j - i).toNat) H1
theorem pi_range1 {a : Expr} {ta : TA} {p pos : Pos} (hg : Gl X "range") (hm : X.mg "range" = none) (ha : PA X [a] ta) (hs : starEach [a] X.env = [(false, eval a X.env)] := by rfl) : PI X tg (.Call (.Name "range" p) [a] [] pos) (iRng1 ta) := by
  intro pins s σ H R I h
  refine Call_ (ld_blt I hg hm boot_range (PyProof.Rows.callWith_type1 (thn (ha pos pins s σ H _ I h) fun us s1 ⟨vs, H1, I1, r1, q1⟩ => ?_) hs rfl))
  obtain ⟨j, e, q1, q2, q⟩ := q1
  subst e
  cases r1 with
  | cons r rr =>
    cases rr
    obtain ⟨t, rfl⟩ := r
    exact call_range_1 (range_it I1 (by omega) (by omega) q1 q2 (by simpa using q))
theorem pi_range2 {a b : Expr} {ta : TA} {p pos : Pos} (hg : Gl X "range") (hm : X.mg "range" = none) (ha : PA X [a, b] ta) (hs : starEach [a, b] X.env = [(false, eval a X.env), (false, eval b X.env)] := by rfl) (hs2 : starEach [b] X.env = [(false, eval b X.env)] := by rfl) :
    PI X tg (.Call (.Name "range" p) [a, b] [] pos) (iRng2 ta) := by
  intro pins s σ H R I h
  refine Call_ (ld_blt I hg hm boot_range (PyProof.Rows.callWith_type1 (thn (ha pos pins s σ H _ I h) fun us s1 ⟨vs, H1, I1, r1, q1⟩ => ?_) (by rw [hs, hs2]) (by rw [hs2]; rfl)))
  obtain ⟨i, j, e, ⟨q1, q2, q3, q4⟩, q⟩ := q1
  subst e
  cases r1 with
  | cons r rr =>
    cases rr with
    | cons r' rr =>
      cases rr
      obtain ⟨t, rfl⟩ := r
      obtain ⟨t', rfl⟩ := r'
      exact call_range_2 (range_it I1 q1 q2 q3 q4 q)

def tFor (wi : TI) (g : TG) (tb : TS) : TS := fun D σ H => wi σ H fun J H1 => ∃ W : Nat → Nat → St → Hp → Prop, (∃ m, W 0 m σ H1) ∧ ∀ i m σ H, W i m σ H →
  (J.stop i H ∧ D.nx σ H) ∨ (J.go i H ∧ ∃ N : St → Hp → Prop, (∀ σ' H', N σ' H' → ∃ m', m' < m ∧ W (i + 1) m' σ' H') ∧ ∀ x H', J.yld i H x H' → g x σ H' fun σ2 H2 => tb { D with nx := N, ct := N, bk := D.nx } σ2 H2)
def pinsAt (fp : List Addr) (h : Heap) : List (Addr × Obj) := fp.filterMap fun b => (h.get? b).map fun o => (b, o)
theorem mem_pinsAt {fp : List Addr} {h : Heap} {b : Addr} {o : Obj} (hb : b ∈ fp) (e : h.get? b = some o) : (b, o) ∈ pinsAt fp h := List.mem_filterMap.mpr ⟨b, hb, by rw [e]; rfl⟩
theorem of_pinsAt {fp : List Addr} {h : Heap} {p : Addr × Obj} (hp : p ∈ pinsAt fp h) : p.1 ∈ fp ∧ h.get? p.1 = some p.2 := by
  obtain ⟨b, hb, e⟩ := List.mem_filterMap.mp hp
  cases q : h.get? b with
  | none => rw [q] at e; cases e
  | some o =>
    rw [q] at e
    have e' : (b, o) = p := Option.some.inj e
    subst e'
    exact ⟨hb, q⟩
theorem Inv.pinned {pins : List (Addr × Obj)} {σ : St} {H : Hp} {s : Shared} {fp : List Addr} (I : Inv X pins σ H s) (hf : ∀ b ∈ fp, FpOk X pins H b) (ho : ∀ b ∈ fp, ∃ o, s.heap.get? b = some o ∧ ∀ v, o.data ≠ .cell v) : Inv X (pins ++ pinsAt fp s.heap) σ H s :=
  I.pins_of fun p hp => (List.mem_append.mp hp).elim (fun z => I.pin p (List.mem_append_right _ z)) fun z => by
    obtain ⟨hb, e⟩ := of_pinsAt z
    obtain ⟨f0, f1, f2, _⟩ := hf p.1 hb
    obtain ⟨o, e', d⟩ := ho p.1 hb
    rw [e] at e'; cases e'
    exact ⟨e, f0, f1, f2, d⟩
theorem Inv.unpinned {pins pl : List (Addr × Obj)} {σ : St} {H : Hp} {s : Shared} (I : Inv X (pins ++ pl) σ H s) : Inv X pins σ H s := I.pins_of fun p hp => I.pin p (List.mem_append_right _ (List.mem_append_left _ hp))
theorem ps_for {iter : Expr} {body : List Stmt} {wi : TI} {g : TG} {tb : TS} {pos : Pos} (hp : PassesOwn (model X.prog X.w) X.A X.env X.xe) (hc : X.calm = true) (hi : PI X tg iter wi) (hg : PG X tg g) (hb : PSs X body tb)
    (hs : ∀ x, foldedSetIterable iter X.env x = pure x := by intro _; rfl) : PS X (.For tg iter body [] pos) (tFor wi g tb) := by
  intro pins s σ H D I h
  refine wpAny_For (thn (hi pins s σ H _ I h) fun v s1 h1 => thn h1 fun itv s2 h2 => ?_) hs
  obtain ⟨it, fp, tn, J, H2, e, I2, T, st2, f2, W, ⟨m0, w0⟩, turn⟩ := h2
  subst e
  have stat : ∀ {H' : Hp}, (∀ b ∈ fp, H' b = none) → ∀ b ∈ fp, FpOk X pins H' b := fun hn b hb => ⟨hn b hb, (f2 b hb).2⟩
  refine codeAny_forLoop_any (fun n s' => ∃ i σ' H', Inv X pins σ' H' s' ∧ tn i s'.heap ∧ (∀ b ∈ fp, H' b = none) ∧ W i n σ' H') ?_ m0 ⟨0, σ, H2, I2, st2, fun b hb => (f2 b hb).1, w0⟩
  rintro n s3 ⟨i, σ3, H3, I3, st3, fr3, w3⟩
  rcases turn i n σ3 H3 w3 with ⟨stop, qn⟩ | ⟨go, N, hN, step⟩
  · refine wpAny_passesOwn hp (thn (T.done X rfl rfl rfl hc i pins s3 σ3 H3 X.xe I3 (stat fr3) st3 stop) fun r s4 ⟨hr, I4⟩ => ?_)
    subst hr
    exact wpAny_execs_nil ⟨σ3, H3, I4, qn⟩
  · refine wpAny_passesOwn hp (thn (T.item X rfl rfl rfl hc i pins s3 σ3 H3 X.xe I3 (stat fr3) st3 go) fun r s4 ⟨u, hr, h4⟩ => ?_)
    subst hr
    refine wpAny_passesOwn hp (thn h4 fun _ s5 ⟨x, H5, I5, r5, y5, st5, fr5⟩ => ?_)
    have I5' := I5.pinned (stat fr5) (T.obj _ _ st5)
    refine wpAny_passesOwn hp (thn (hg _ s5 σ3 H5 x u _ I5' r5 (step x H5 y5)) fun _ s6 ⟨σ6, H6, I6, q6⟩ => ?_)
    refine wpAny_passesOwn hp (thn (hb _ s6 σ6 H6 _ I6 q6) fun f s7 q7 => ?_)
    have again : ∀ {σ7 : St} {H7 : Hp}, Inv X (pins ++ pinsAt fp s5.heap) σ7 H7 s7 → N σ7 H7 → ∃ m, m < n ∧ ∃ i σ' H', Inv X pins σ' H' s7 ∧ tn i s7.heap ∧ (∀ b ∈ fp, H' b = none) ∧ W i m σ' H' := fun {σ7 H7} I7 n7 => by
      obtain ⟨m', hm, w7⟩ := hN σ7 H7 n7
      refine ⟨m', hm, i + 1, σ7, H7, I7.unpinned, T.keep _ _ _ st5 fun b hb o e => (I7.pin (b, o) (List.mem_append_right _ (List.mem_append_right _ (mem_pinsAt hb e)))).1, fun b hb => ?_, w7⟩
      obtain ⟨o, e, d⟩ := T.obj _ _ st5 b hb
      exact (I7.pin (b, o) (List.mem_append_right _ (List.mem_append_right _ (mem_pinsAt hb e)))).2.1
    cases f with
    | next => obtain ⟨σ7, H7, I7, n7⟩ := q7; exact again I7 n7
    | cont => obtain ⟨σ7, H7, I7, n7⟩ := q7; exact again I7 n7
    | brk => obtain ⟨σ7, H7, I7, q7⟩ := q7; exact ⟨σ7, H7, I7.unpinned, q7⟩
    | ret v => obtain ⟨x7, σ7, H7, I7, r7, q7⟩ := q7; exact ⟨x7, σ7, H7, I7.unpinned, r7, q7⟩
end

theorem for_list {K : PySem.W.Frag} {a : Addr} {xs : List V} {g : TG} {tb : TS} {D : Ends} {σ : St} {H : Hp} (Pv : Nat → St → Hp → Prop) (h0 : Pv 0 σ H) (hl : ∀ i σ H, i ≤ xs.length → Pv i σ H → SqL K H a xs)
    (hs : ∀ i x σ H, xs[i]? = some x → Pv i σ H → g x σ H fun σ2 H2 => tb { D with nx := Pv (i + 1), ct := Pv (i + 1), bk := D.nx } σ2 H2) (hd : ∀ σ H, Pv xs.length σ H → D.nx σ H) :
    ∃ W : Nat → Nat → St → Hp → Prop, (∃ m, W 0 m σ H) ∧ ∀ i m σ H, W i m σ H →
      ((Itl K a).stop i H ∧ D.nx σ H) ∨ ((Itl K a).go i H ∧ ∃ N : St → Hp → Prop, (∀ σ' H', N σ' H' → ∃ m', m' < m ∧ W (i + 1) m' σ' H') ∧ ∀ x H', (Itl K a).yld i H x H' → g x σ H' fun σ2 H2 => tb { D with nx := N, ct := N, bk := D.nx } σ2 H2) := by
  refine ⟨fun i m σ H => m = xs.length - i ∧ i ≤ xs.length ∧ Pv i σ H, ⟨xs.length, by simp, Nat.zero_le _, h0⟩, ?_⟩
  rintro i m σ H ⟨rfl, hi, p⟩
  have q := hl i σ H hi p
  by_cases hlt : i < xs.length
  · refine .inr ⟨⟨xs, xs[i], q, by simp [hlt]⟩, Pv (i + 1), fun σ' H' p' => ⟨xs.length - (i + 1), by omega, rfl, hlt, p'⟩, fun x H' y => ?_⟩
    obtain ⟨e, y⟩ := y
    subst e
    exact hs i x σ _ (y xs q) p
  · have e : i = xs.length := by omega
    subst e
    exact .inl ⟨⟨xs, q, Nat.le_refl _⟩, hd σ H p⟩
theorem for_range {lo : Int} {n : Nat} {g : TG} {tb : TS} {D : Ends} {σ : St} {H : Hp} (Pv : Nat → St → Hp → Prop) (h0 : Pv 0 σ H)
    (hs : ∀ i σ H, i < n → Pv i σ H → g (.int (lo + i)) σ H fun σ2 H2 => tb { D with nx := Pv (i + 1), ct := Pv (i + 1), bk := D.nx } σ2 H2) (hd : ∀ σ H, Pv n σ H → D.nx σ H) :
    ∃ W : Nat → Nat → St → Hp → Prop, (∃ m, W 0 m σ H) ∧ ∀ i m σ H, W i m σ H →
      ((Itr lo n).stop i H ∧ D.nx σ H) ∨ ((Itr lo n).go i H ∧ ∃ N : St → Hp → Prop, (∀ σ' H', N σ' H' → ∃ m', m' < m ∧ W (i + 1) m' σ' H') ∧ ∀ x H', (Itr lo n).yld i H x H' → g x σ H' fun σ2 H2 => tb { D with nx := N, ct := N, bk := D.nx } σ2 H2) := by
  refine ⟨fun i m σ H => m = n - i ∧ i ≤ n ∧ Pv i σ H, ⟨n, by simp, Nat.zero_le _, h0⟩, ?_⟩
  rintro i m σ H ⟨rfl, hi, p⟩
  by_cases hlt : i < n
  · refine .inr ⟨hlt, Pv (i + 1), fun σ' H' p' => ⟨n - (i + 1), by omega, rfl, hlt, p'⟩, fun x H' y => ?_⟩
    obtain ⟨e, y⟩ := y
    subst e y
    exact hs i σ _ hlt p
  · have e : i = n := by omega
    subst e
    exact .inl ⟨Nat.le_refl _, hd σ H p⟩
end L2

namespace L2
open PySem PySem.Spec PyProof.Rows

abbrev R2 := V → V → Hp → VK → Prop
def OpR (X : Cx) (f : Value → Value → Sem Value) (r : R2) : Prop :=
  ∀ (pins : List (Addr × Obj)) (s : Shared) (σ : St) (H : Hp) (x y : V) (v u : Value) (Q : VK), Inv X pins σ H s → RelV x v → RelV y u → r x y H Q →
    wpAny (model X.prog X.w) X.A (f v u) (EP X pins σ Q) X.xe s
def UnR (X : Cx) (f : Value → Sem Value) (r : V → Hp → VK → Prop) : Prop :=
  ∀ (pins : List (Addr × Obj)) (s : Shared) (σ : St) (H : Hp) (x : V) (v : Value) (Q : VK), Inv X pins σ H s → RelV x v → r x H Q →
    wpAny (model X.prog X.w) X.A (f v) (EP X pins σ Q) X.xe s
def CallR (X : Cx) (f : Value) (r : List V → Hp → VK → Prop) : Prop :=
  ∀ (pins : List (Addr × Obj)) (s : Shared) (σ : St) (H : Hp) (xs : List V) (us : List Value) (Q : VK), Inv X pins σ H s → Vals xs us → r xs H Q →
    wpAny (model X.prog X.w) X.A (call f us) (EP X pins σ Q) X.xe s
def tOp (r : R2) (ta tb : TE) : TE := fun σ H Q => ta σ H fun x H1 => tb σ H1 fun y H2 => r x y H2 Q
def tUn (r : V → Hp → VK → Prop) (ta : TE) : TE := fun σ H Q => ta σ H fun x H1 => r x H1 Q
def rI (C : Int → Int → Prop) (g : Int → Int → V) : R2 := fun x y H Q => ∃ i j, x = .int i ∧ y = .int j ∧ C i j ∧ Q (g i j) H
def rI0 (g : Int → Int → V) : R2 := fun x y H Q => ∃ i j, x = .int i ∧ y = .int j ∧ Q (g i j) H
def rU (g : Int → V) : V → Hp → VK → Prop := fun x H Q => ∃ i, x = .int i ∧ Q (g i) H

section
variable {X : Cx} {a b c : Expr} {ta tb tc : TE} {pos : Pos}

theorem binT (ha : PE X a ta) (hb : PE X b tb) {pins : List (Addr × Obj)} {s : Shared} {σ : St} {H : Hp} {R : V → V → Hp → Prop} (I : Inv X pins σ H s)
    (h : ta σ H fun x H1 => tb σ H1 fun y H2 => R x y H2) {Q : Value → Shared → Prop} {f : Value → Value → Sem Value}
    (hf : ∀ v u s2 x y H2, Inv X pins σ H2 s2 → RelV x v → RelV y u → R x y H2 → wpAny (model X.prog X.w) X.A (f v u) Q X.xe s2) :
    wpAny (model X.prog X.w) X.A (eval a X.env) (fun v s₁ => wpAny (model X.prog X.w) X.A (eval b X.env) (fun u s₂ => wpAny (model X.prog X.w) X.A (f v u) Q X.xe s₂) X.xe s₁) X.xe s := by
  refine thn (ha pins s σ H _ I h) fun v s1 ⟨x, H1, I1, r1, q1⟩ => ?_
  refine thn (hb pins s1 σ H1 _ I1 q1) fun u s2 ⟨y, H2, I2, r2, q2⟩ => ?_
  exact hf v u s2 x y H2 I2 r1 r2 q2

theorem pe_op {op : Operator} {r : R2} (ho : OpR X (binaryOp op) r) (ha : PE X a ta) (hb : PE X b tb) : PE X (.BinOp a op b pos) (tOp r ta tb) := by
  intro pins s σ H Q I h
  exact wpAny_BinOp (binT ha hb I h fun v u s2 x y H2 I2 rx ry q => ho pins s2 σ H2 x y v u Q I2 rx ry q)
theorem pe_un {op : UnaryOp} {r : V → Hp → VK → Prop} (ho : UnR X (unaryOp op) r) (ha : PE X a ta) : PE X (.UnaryOp op a pos) (tUn r ta) := by
  intro pins s σ H Q I h
  exact UnaryOp_ (thn (ha pins s σ H _ I h) fun v s1 ⟨x, H1, I1, r1, q1⟩ => ho pins s1 σ H1 x v Q I1 r1 q1)
theorem opI {f : Value → Value → Sem Value} {C : Int → Int → Prop} {g : Int → Int → Int}
    (rule : ∀ (i j : Int) (t u : Tok) (s : Shared) (Q : Value → Shared → Prop) (E : Value → Shared → Prop), C i j → Q (.int (g i j) s.toks) { s with toks := s.toks + 1 } → wpAny (model X.prog X.w) X.A (f (.int i t) (.int j u)) Q E s) :
    OpR X f (rI C fun i j => .int (g i j)) := by
  intro pins s σ H x y v u Q I rx ry h
  obtain ⟨i, j, rfl, rfl, hc, q⟩ := h
  obtain ⟨t, rfl⟩ := rx
  obtain ⟨t', rfl⟩ := ry
  exact rule i j t t' s _ _ hc ⟨.int (g i j), H, I.tok _, ⟨_, rfl⟩, q⟩
theorem opI0 {f : Value → Value → Sem Value} {g : Int → Int → Int}
    (rule : ∀ (i j : Int) (t u : Tok) (s : Shared) (Q : Value → Shared → Prop) (E : Value → Shared → Prop), Q (.int (g i j) s.toks) { s with toks := s.toks + 1 } → wpAny (model X.prog X.w) X.A (f (.int i t) (.int j u)) Q E s) :
    OpR X f (rI0 fun i j => .int (g i j)) := by
  intro pins s σ H x y v u Q I rx ry h
  obtain ⟨i, j, rfl, rfl, q⟩ := h
  obtain ⟨t, rfl⟩ := rx
  obtain ⟨t', rfl⟩ := ry
  exact rule i j t t' s _ _ ⟨.int (g i j), H, I.tok _, ⟨_, rfl⟩, q⟩
theorem opB0 {f : Value → Value → Sem Value} {g : Int → Int → Bool}
    (rule : ∀ (i j : Int) (t u : Tok) (s : Shared) (Q : Value → Shared → Prop) (E : Value → Shared → Prop), Q (.bool (g i j)) s → wpAny (model X.prog X.w) X.A (f (.int i t) (.int j u)) Q E s) :
    OpR X f (rI0 fun i j => .bl (g i j)) := by
  intro pins s σ H x y v u Q I rx ry h
  obtain ⟨i, j, rfl, rfl, q⟩ := h
  obtain ⟨t, rfl⟩ := rx
  obtain ⟨t', rfl⟩ := ry
  exact rule i j t t' s _ _ ⟨.bl (g i j), H, I, rfl, q⟩

def CDiv (i j : Int) : Prop := 0 < j ∧ j < 1073741824
def CPow (i j : Int) : Prop := 0 ≤ j ∧ j ≤ 1000000 ∧ i.natAbs < 2 ^ 64
def CMul (i j : Int) : Prop := (-(2 ^ 64) < i ∧ i < 2 ^ 64) ∨ (-(2 ^ 64) < j ∧ j < 2 ^ 64)
theorem CMul.ok {i j : Int} (h : CMul i j) : IntMulOk i j := by
  rcases h with ⟨h1, h2⟩ | ⟨h1, h2⟩
  · exact .of_left (intBits_le_64 h1 h2)
  · exact .of_right (intBits_le_64 h1 h2)
theorem op_add : OpR X (binaryOp .Add) (rI0 fun i j => .int (i + j)) := opI0 fun _ _ _ _ _ _ _ q => add_int q
theorem op_sub : OpR X (binaryOp .Sub) (rI0 fun i j => .int (i - j)) := opI0 fun _ _ _ _ _ _ _ q => sub_int q
theorem op_fdiv : OpR X (binaryOp .FloorDiv) (rI CDiv fun i j => .int (i / j)) := opI fun i j _ _ _ _ _ hc q => by
  have h1 : (0 : Int) < j := hc.1
  have h2 : j < 1073741824 := hc.2
  exact floordiv_int (by omega) (by rw [Int.fdiv_eq_ediv_of_nonneg i (by omega)]; exact q) (.inl (PyProof.noPylong_small (by omega)))
theorem op_mod : OpR X (binaryOp .Mod) (rI (fun _ j => 0 < j) fun i j => .int (i % j)) := opI fun i j _ _ _ _ _ hc q => by
  have h1 : (0 : Int) < j := hc
  exact mod_int' (by omega) (by rw [Int.fmod_eq_emod_of_nonneg i (by omega)]; exact q)
theorem op_pow : OpR X (binaryOp .Pow) (rI CPow fun i j => .int (i ^ j.toNat)) := opI fun _ _ _ _ _ _ _ hc q => pow_int_small hc.1 hc.2.1 hc.2.2 q
theorem op_and : OpR X (binaryOp .BitAnd) (rI0 fun i j => .int (Builtin.bitAnd i j)) := opI0 fun _ _ _ _ _ _ _ q => and_int q
theorem unI {f : Value → Sem Value} {g : Int → Int}
    (rule : ∀ (i : Int) (t : Tok) (s : Shared) (Q : Value → Shared → Prop) (E : Value → Shared → Prop), Q (.int (g i) s.toks) { s with toks := s.toks + 1 } → wpAny (model X.prog X.w) X.A (f (.int i t)) Q E s) :
    UnR X f (rU fun i => .int (g i)) := by
  intro pins s σ H x v Q I rx h
  obtain ⟨i, rfl, q⟩ := h
  obtain ⟨t, rfl⟩ := rx
  exact rule i t s _ _ ⟨.int (g i), H, I.tok _, ⟨_, rfl⟩, q⟩
theorem un_neg : UnR X (unaryOp .USub) (rU fun i => .int (-i)) := unI fun _ _ _ _ _ q => neg_int q
end

def scal : V → V → Bool
  | .non, .non => true | .non, .int _ => true | .int _, .non => true | .non, .bl _ => true | .bl _, .non => true | .non, .str _ => true | .str _, .non => true
  | .int _, .int _ => true | .bl _, .bl _ => true | .str _, .str _ => true | .byt _, .byt _ => true
  | .int _, .str _ => true | .str _, .int _ => true | .bl _, .str _ => true | .str _, .bl _ => true
  | _, _ => false
def rEq : R2 := fun x y H Q => scal x y = true ∧ Q (.bl (decide (x = y))) H
def rNe : R2 := fun x y H Q => scal x y = true ∧ Q (.bl (!decide (x = y))) H

theorem dec_int {i j : Int} : decide (V.int i = V.int j) = (i == j) := by
  rw [Bool.eq_iff_iff]
  simp
theorem dec_bl {i j : Bool} : decide (V.bl i = V.bl j) = (i == j) := by
  rw [Bool.eq_iff_iff]
  simp
theorem dec_str {i j : Str} : decide (V.str i = V.str j) = (i == j) := by
  rw [Bool.eq_iff_iff]
  simp
theorem dec_byt {i j : Array UInt8} : decide (V.byt i = V.byt j) = (i.toList == j.toList) := by
  rw [Bool.eq_iff_iff]
  cases i
  cases j
  simp

section
variable {X : Cx} {a b c : Expr} {ta tb tc : TE} {pos : Pos}
theorem fin_bl {pins : List (Addr × Obj)} {σ : St} {H : Hp} {s : Shared} {Q : VK} {k k' : Bool} (I : Inv X pins σ H s) (q : Q (.bl k) H) (e : k = k') : EP X pins σ Q (.bool k') s := by
  subst e
  exact ⟨.bl k, H, I, rfl, q⟩
theorem op_eq : OpR X (compareOp .Eq) rEq := by
  intro pins s σ H x y v u Q I rx ry h
  obtain ⟨hs, q⟩ := h
  cases x with
  | non =>
    cases rx
    cases y with
    | non => cases ry; exact PySem.EqNone.eq_none_none (fin_bl I q (by simp))
    | bl j => cases ry; exact PySem.EqNone.eq_none_bool (fin_bl I q (by simp))
    | int j => obtain ⟨t', rfl⟩ := ry; exact PySem.EqNone.eq_none_int (fin_bl I q (by simp))
    | str j => obtain ⟨t', rfl⟩ := ry; exact PySem.EqNone.eq_none_str (fin_bl I q (by simp))
    | _ => exact absurd (show false = true from hs) Bool.false_ne_true
  | bl i =>
    cases rx
    cases y with
    | non => cases ry; exact PySem.EqNone.eq_bool_none (fin_bl I q (by simp))
    | bl j => cases ry; exact eq_bool (fin_bl I q dec_bl)
    | str j => obtain ⟨t', rfl⟩ := ry; exact PySem.EqMixed.eq_bool_str (fin_bl I q (by simp))
    | _ => exact absurd (show false = true from hs) Bool.false_ne_true
  | int i =>
    obtain ⟨t, rfl⟩ := rx
    cases y with
    | non => cases ry; exact PySem.EqNone.eq_int_none (fin_bl I q (by simp))
    | int j => obtain ⟨t', rfl⟩ := ry; exact eq_int (fin_bl I q dec_int)
    | str j => obtain ⟨t', rfl⟩ := ry; exact PySem.EqMixed.eq_int_str (fin_bl I q (by simp))
    | _ => exact absurd (show false = true from hs) Bool.false_ne_true
  | str i =>
    obtain ⟨t, rfl⟩ := rx
    cases y with
    | non => cases ry; exact PySem.EqNone.eq_str_none (fin_bl I q (by simp))
    | bl j => cases ry; exact PySem.EqMixed.eq_str_bool (fin_bl I q (by simp))
    | int j => obtain ⟨t', rfl⟩ := ry; exact PySem.EqMixed.eq_str_int (fin_bl I q (by simp))
    | str j => obtain ⟨t', rfl⟩ := ry; exact eq_str (fin_bl I q dec_str)
    | _ => exact absurd (show false = true from hs) Bool.false_ne_true
  | byt i =>
    obtain ⟨t, rfl⟩ := rx
    cases y with
    | byt j => obtain ⟨t', rfl⟩ := ry; exact PySem.W.eq_bytes (fin_bl I q dec_byt)
    | _ => exact absurd (show false = true from hs) Bool.false_ne_true
  | _ => cases y <;> exact absurd (show false = true from hs) Bool.false_ne_true
theorem op_ne : OpR X (compareOp .NotEq) rNe := by
  intro pins s σ H x y v u Q I rx ry h
  obtain ⟨hs, q⟩ := h
  cases x with
  | non =>
    cases rx
    cases y with
    | non => cases ry; exact PySem.EqNone.ne_none_none (fin_bl I q (by simp))
    | bl j => cases ry; exact PySem.EqNone.ne_none_bool (fin_bl I q (by simp))
    | int j => obtain ⟨t', rfl⟩ := ry; exact PySem.EqNone.ne_none_int (fin_bl I q (by simp))
    | str j => obtain ⟨t', rfl⟩ := ry; exact PySem.EqNone.ne_none_str (fin_bl I q (by simp))
    | _ => exact absurd (show false = true from hs) Bool.false_ne_true
  | bl i =>
    cases rx
    cases y with
    | non => cases ry; exact PySem.EqNone.ne_bool_none (fin_bl I q (by simp))
    | bl j => cases ry; exact ne_bool (fin_bl I q (congrArg not dec_bl))
    | str j => obtain ⟨t', rfl⟩ := ry; exact PySem.EqMixed.ne_bool_str (fin_bl I q (by simp))
    | _ => exact absurd (show false = true from hs) Bool.false_ne_true
  | int i =>
    obtain ⟨t, rfl⟩ := rx
    cases y with
    | non => cases ry; exact PySem.EqNone.ne_int_none (fin_bl I q (by simp))
    | int j => obtain ⟨t', rfl⟩ := ry; exact ne_int (fin_bl I q (congrArg not dec_int))
    | str j => obtain ⟨t', rfl⟩ := ry; exact PySem.EqMixed.ne_int_str (fin_bl I q (by simp))
    | _ => exact absurd (show false = true from hs) Bool.false_ne_true
  | str i =>
    obtain ⟨t, rfl⟩ := rx
    cases y with
    | non => cases ry; exact PySem.EqNone.ne_str_none (fin_bl I q (by simp))
    | bl j => cases ry; exact PySem.EqMixed.ne_str_bool (fin_bl I q (by simp))
    | int j => obtain ⟨t', rfl⟩ := ry; exact PySem.EqMixed.ne_str_int (fin_bl I q (by simp))
    | str j => obtain ⟨t', rfl⟩ := ry; exact ne_str (fin_bl I q (congrArg not dec_str))
    | _ => exact absurd (show false = true from hs) Bool.false_ne_true
  | byt i =>
    obtain ⟨t, rfl⟩ := rx
    cases y with
    | byt j => obtain ⟨t', rfl⟩ := ry; exact PySem.W.ne_bytes (fin_bl I q (congrArg not dec_byt))
    | _ => exact absurd (show false = true from hs) Bool.false_ne_true
  | _ => cases y <;> exact absurd (show false = true from hs) Bool.false_ne_true

theorem op_lt : OpR X (compareOp .Lt) (rI0 fun i j => .bl (decide (i < j))) := opB0 fun _ _ _ _ _ _ _ q => lt_int q
theorem op_le : OpR X (compareOp .LtE) (rI0 fun i j => .bl (decide (i ≤ j))) := opB0 fun _ _ _ _ _ _ _ q => le_int q
theorem op_gt : OpR X (compareOp .Gt) (rI0 fun i j => .bl (decide (j < i))) := opB0 fun _ _ _ _ _ _ _ q => gt_int q
theorem op_ge : OpR X (compareOp .GtE) (rI0 fun i j => .bl (decide (j ≤ i))) := opB0 fun _ _ _ _ _ _ _ q => ge_int q
theorem op_in_str : OpR X (compareOp .In) (fun x y H Q => ∃ i j, x = .str i ∧ y = .str j ∧ Q (.bl (!(Builtin.Str.occurrences j i 0 j.length 1).isEmpty)) H) := by
  intro pins s σ H x y v u Q I rx ry h
  obtain ⟨i, j, rfl, rfl, q⟩ := h
  obtain ⟨t, rfl⟩ := rx
  obtain ⟨t', rfl⟩ := ry
  exact in_str (fin_bl I q rfl)

theorem op_isN : OpR X (compareOp .Is) (fun x y H Q => y = .non ∧ Q (.bl (decide (x = .non))) H) := by
  intro pins s σ H x y v u Q I rx ry h
  obtain ⟨rfl, q⟩ := h
  cases ry
  refine is_none_gen (fin_bl I q ?_)
  cases x <;> first
    | (cases rx; rfl)
    | (obtain ⟨t, rfl⟩ := rx; rfl)
theorem op_notN : OpR X (compareOp .IsNot) (fun x y H Q => y = .non ∧ Q (.bl (!decide (x = .non))) H) := by
  intro pins s σ H x y v u Q I rx ry h
  obtain ⟨rfl, q⟩ := h
  cases ry
  refine isnot_none_gen (fin_bl I q ?_)
  cases x <;> first
    | (cases rx; rfl)
    | (obtain ⟨t, rfl⟩ := rx; rfl)

theorem nomark (b : Expr) {op : CmpOp} (h : op ≠ .In := by decide) (h2 : op ≠ .NotIn := by decide) : behindInMarks op b = false := by
  have e1 : (op == CmpOp.In) = false := by cases op <;> first | rfl | exact absurd rfl h
  have e2 : (op == CmpOp.NotIn) = false := by cases op <;> first | rfl | exact absurd rfl h2
  cases b <;> simp [behindInMarks, e1, e2]
theorem pe_cmpR {op : CmpOp} {r : R2} (ho : OpR X (compareOp op) r) (ha : PE X a ta) (hb : PE X b tb) (hm : behindInMarks op b = false) : PE X (.Compare a [op] [b] pos) (tOp r ta tb) := by
  intro pins s σ H Q I h
  exact wpAny_Compare1 (binT ha hb I h fun v u s2 x y H2 I2 rx ry q => ho pins s2 σ H2 x y v u Q I2 rx ry q) hm
def tTest (t : TE) : TT := fun σ H Q => t σ H fun x H' => ∃ k, x = .bl k ∧ Q k H'
theorem pt_cmpR {op : CmpOp} {r : R2} (ho : OpR X (compareOp op) r) (ha : PE X a ta) (hb : PE X b tb) (hm : behindInMarks op b = false) : PT X (.Compare a [op] [b] pos) (tTest (tOp r ta tb)) := by
  intro pins s σ H Q I h
  refine wpAny_isTrue_Compare1 (thn (ha pins s σ H _ I h) fun v s1 ⟨x, H1, I1, r1, q1⟩ => thn (hb pins s1 σ H1 _ I1 q1) fun u s2 ⟨y, H2, I2, r2, q2⟩ =>
    thn (ho pins s2 σ H2 x y v u _ I2 r1 r2 q2) fun c s3 ⟨z, H3, I3, r3, k, e, q3⟩ => ?_) hm
  subst e
  cases r3
  exact wpAny_truthy_bool ⟨H3, I3, q3⟩
def tChain (r r' : R2) (ta tb tc : TE) : TE := fun σ H Q => ta σ H fun x H1 => tb σ H1 fun y H2 => r x y H2 fun z H3 => ∃ k, z = .bl k ∧
  (if k = true then tc σ H3 fun w' H4 => r' y w' H4 Q else Q (.bl false) H3)
theorem pe_chain {op op' : CmpOp} {r r' : R2} (ho : OpR X (compareOp op) r) (ho' : OpR X (compareOp op') r') (ha : PE X a ta) (hb : PE X b tb) (hc : PE X c tc)
    (hm : lastMarks [op, op'] [b, c] = false := by with_unfolding_all rfl) : PE X (.Compare a [op, op'] [b, c] pos) (tChain r r' ta tb tc) := by
  intro pins s σ H Q I h
  refine Compare_chain (thn (ha pins s σ H _ I h) fun v s1 ⟨x, H1, I1, r1, q1⟩ => chain_link (thn (hb pins s1 σ H1 _ I1 q1) fun u s2 ⟨y, H2, I2, r2, q2⟩ =>
    thn (ho pins s2 σ H2 x y v u _ I2 r1 r2 q2) fun d s3 ⟨z, H3, I3, r3, k, e, q3⟩ => ?_)) hm
  subst e
  cases r3
  refine wpAny_truthy_bool ?_
  cases k with
  | false => exact ite_ff ⟨.bl false, H3, I3, rfl, q3⟩
  | true => exact ite_tt (chain_last (thn (hc pins s3 σ H3 _ I3 q3) fun w' s4 ⟨z', H4, I4, r4, q4⟩ => ho' pins s4 σ H4 y z' u w' Q I4 r2 r4 q4))
theorem line63 : (sizeLine : Nat) < 2 ^ 63 := by rw [sizeLine_eq]; decide
theorem op_add_str : OpR X (binaryOp .Add) (fun x y H Q => ∃ i j, x = .str i ∧ y = .str j ∧ i.length + j.length ≤ sizeLine ∧ Q (.str (i ++ j)) H) := by
  intro pins s σ H x y v u Q I rx ry h
  obtain ⟨i, j, rfl, rfl, hz, q⟩ := h
  obtain ⟨t, rfl⟩ := rx
  obtain ⟨t', rfl⟩ := ry
  exact add_str (fun t' tk => ⟨.str (i ++ j), H, I.tok _, ⟨_, rfl⟩, q⟩) hz
theorem vals1 {x : V} {us : List Value} (r : Vals [x] us) : ∃ u, us = [u] ∧ RelV x u := by
  cases r with
  | cons r1 r2 => cases r2; exact ⟨_, rfl, r1⟩
theorem vals2 {x y : V} {us : List Value} (r : Vals [x, y] us) : ∃ u w', us = [u, w'] ∧ RelV x u ∧ RelV y w' := by
  cases r with
  | cons r1 r2 =>
    cases r2 with
    | cons r3 r4 => cases r4; exact ⟨_, _, rfl, r1, r3⟩
theorem call_str_int : CallR X (.type "str") (fun xs H Q => ∃ i, xs = [.int i] ∧ i.natAbs.log2 < 1920 ∧ Q (.str (toString i)) H) := by
  intro pins s σ H xs us Q I r h
  obtain ⟨i, rfl, hz, q⟩ := h
  obtain ⟨u, rfl, t, rfl⟩ := vals1 r
  exact PySem.P.str_of_int hz ⟨.str _, H, I.tok _, ⟨_, rfl⟩, q⟩
end
end L2

namespace L2
open PySem PySem.Spec PyProof.Rows

structure ObjM (h : Heap) (x dx C : Addr) (mA : Str → Option Value) : Prop where
  obj : h.get? x = some (PySem.W.instObj C dx)
  ns : h.Ns1 dx mA
  ne : dx ≠ x

theorem lookIn_ns {h : Heap} {dx : Addr} {mA : Str → Option Value} (n : h.Ns1 dx mA) : ∃ od, h.get? dx = some od ∧ ∀ name, PySem.W.lookIn name od = some (mA name) := by
  obtain ⟨o, es, ep, ho, hd, hk, _, hm⟩ := n
  refine ⟨o, ho, fun name => ?_⟩
  have e := hm name
  unfold nsFind findBy at e
  rw [← Array.find?_toList] at e
  unfold PySem.W.lookIn
  rw [hd]
  dsimp only
  split
  · rename_i y q
    rw [q] at e
    exact congrArg some e
  · rename_i q
    rw [q] at e
    have a : es.toList.any (·.refKey) = false := by
      rw [List.any_eq_false]
      intro y hy
      obtain ⟨z, t, hkey⟩ := hk y (Array.mem_toList_iff.mp hy)
      simp [DictEntry.refKey, hkey]
    have a' : ¬ es.toList.any (·.refKey) = true := by rw [a]; exact Bool.false_ne_true
    rw [if_neg a']
    exact congrArg some e

theorem ObjM.look {h : Heap} {x dx C : Addr} {mA : Str → Option Value} (I : ObjM h x dx C mA) : ∃ od, PySem.W.InstAt h x (PySem.W.instObj C dx) C (some od) ∧ ∀ name, PySem.W.lookIn name od = some (mA name) :=
  let ⟨od, ho, hl⟩ := lookIn_ns I.ns
  ⟨od, ⟨I.obj, rfl, rfl, ho⟩, hl⟩

section
variable {prog : Program} {w : World} {A : Around} {E : Value → Shared → Prop} {s : Shared} {K : PySem.W.Frag} {x dx C f : Addr} {mA : Str → Option Value} {name : Str} {v : Value}

theorem get_map {expr : Bool} {Q : Value → Shared → Prop} (X : K.In s.heap) (I : ObjM s.heap x dx C mA) (hg : PySem.W.plainGet K C name = true) (hh : PySem.W.hasDictIn K C = true)
    (ha : PySem.W.findIn K (.ref C) name = some none) (hv : mA name = some v) (hv' : PySem.W.handedIn v = true) (h : Q v { s with toks := s.toks + 1 }) :
    wpAny (model prog w) A (getAttr (.ref x) name expr) Q E s := by
  obtain ⟨od, J, hl⟩ := I.look
  exact PySem.W.get_value X J (PySem.W.plainGet_of hg).1 (PySem.W.findObj_own hh ha rfl (by rw [hl, hv])) hv' h

theorem get_meth {pl : Sem Bool} {Q : Value × List Value → Shared → Prop} (X : K.In s.heap) (I : ObjM s.heap x dx C mA) (hg : PySem.W.plainGet K C name = true)
    (hf : PySem.W.findIn K (.ref C) name = some (some (.ref f))) (ht : PySem.W.isFn K (.ref f) = true) (hv : mA name = none) (h : Q (.ref f, [.ref x]) s) :
    wpAny (model prog w) A (getMethod (.ref x) name pl) Q E s := by
  obtain ⟨od, J, hl⟩ := I.look
  exact PySem.W.method_fn X J (PySem.W.plainGet_of hg).1 (PySem.W.plainGet_of hg).2 hf (beq_iff_eq.mp ht) (by show (PySem.W.lookIn name od).map (·.isSome) = some false; rw [hl, hv]; rfl) h

theorem set_map {ns : List Str} {Q : Unit → Shared → Prop} (X : K.In s.heap) (I : ObjM s.heap x dx C mA)
    (hs : PySem.W.findIn K (.ref C) "__setattr__" = some (some (.builtin "object.__setattr__"))) (hp : PySem.W.plainOver K C = true) (ht : PySem.W.takerIn K C name = some none) (hh : PySem.W.hasDictIn K C = true)
    (hw : PySem.Within mA ns) (hsz : ns.length ≤ sizeLine)
    (h : ∀ h', ObjM h' x dx C (fun y => if y = name then some v else mA y) → Heap.SameBut dx s.heap h' → Q () { s with heap := h', toks := s.toks + 2 }) :
    wpAny (model prog w) A (setAttr (.ref x) name v) Q E s := by
  obtain ⟨od, J, hl⟩ := I.look
  refine PySem.W.set_plain X J hs (PySem.W.osa_open (s := { s with toks := s.toks + 1 }) (r := none) X J hp ht fun b => ?_)
  obtain ⟨cd, hc, hd'⟩ := PySem.W.any_some hh
  have hx : s.heap.get? x = some ⟨.ref C, some dx, .plain, #[]⟩ := I.obj
  refine wpAny_bind (wpAny_pure (wpAny_bind (wpAny_bind (wpAny_loadPart hx (wpAny_bind (PySem.W.Looks.here (s := { s with toks := s.toks + 1 }) (PySem.W.looks_clsIn X hc) ?_))))))
  rw [hd']
  refine wpAny_pure (a := some dx) (wpAny_bind (wpAny_pure (wpAny_bind ?_)))
  refine wpAny_nsSet1 (s := { s with toks := s.toks + 1 }) I.ns fun h' hn2 hs2 => ?_
  obtain ⟨oD, esD, epD, hoD, hdD, hcD⟩ := hn2.count (PySem.Within.cons name v hw)
  refine wpAny_bind (wpAny_lookBehind hoD (by rw [hdD]; exact pastItsLine_dict (Nat.le_trans hcD (by rw [List.length_cons]; omega))) ?_)
  exact wpAny_pure (h _ ⟨(hs2.2 _ (Ne.symm I.ne)).trans I.obj, hn2, I.ne⟩ hs2)

theorem make_map {R : Result → Shared → Prop} {vs : List Value} {kw : List (Str × Value)} (X : K.In s.heap) (hm : PySem.W.makesIn K C = true)
    (hi : PySem.W.findIn K (.ref C) "__init__" = some (some (.ref f))) (hf : PySem.W.typeIn K (.ref f) = some (.type "function"))
    (h : codeAny (model prog w) (A.under (.builtin "type.__call__" ⟨.ref C :: vs, kw⟩)) (.call (.ref f) ⟨.ref (s.heap.objs.size + 1) :: vs, kw⟩) (PySem.W.InitBack (s.heap.objs.size + 1) R)
      { s with heap := (s.heap.push PySem.W.emptyDict).push (PySem.W.instObj C s.heap.objs.size) }) :
    codeAny (model prog w) A (.call (.ref C) ⟨vs, kw⟩) R s := by
  obtain ⟨hh, g, d, t, os⟩ := s
  exact PySem.W.make_core (PySem.W.makes_of X hm) (PySem.W.looks_findIn X hi) (fun self => PySem.W.bind_fn X self hf) (.inl rfl) h
theorem make_map0 {R : Result → Shared → Prop} (X : K.In s.heap) (hm : PySem.W.makesIn K C = true)
    (hi : PySem.W.findIn K (.ref C) "__init__" = some (some (.builtin "object.__init__")))
    (hb : ∀ self, PySem.W.Looks (model prog w) s.heap (bindSpecial (.builtin "object.__init__") self) (.builtin "object.__init__", [self]))
    (h : codeAny (model prog w) (A.under (.builtin "type.__call__" ⟨[.ref C], []⟩)) (.call (.builtin "object.__init__") ⟨[.ref (s.heap.objs.size + 1)], []⟩) (PySem.W.InitBack (s.heap.objs.size + 1) R)
      { s with heap := (s.heap.push PySem.W.emptyDict).push (PySem.W.instObj C s.heap.objs.size) }) :
    codeAny (model prog w) A (.call (.ref C) ⟨[], []⟩) R s := by
  obtain ⟨hh, g, d, t, os⟩ := s
  exact PySem.W.make_core (PySem.W.makes_of X hm) (PySem.W.looks_findIn X hi) hb (.inr ⟨rfl, rfl⟩) h
end

def putF (f : Str) (v : V) : List (Str × V) → List (Str × V)
  | [] => [(f, v)]
  | (g, x) :: r => if g = f then (g, v) :: r else (g, x) :: putF f v r
theorem lookup_putF (f g : Str) (v : V) : ∀ fs : List (Str × V), (putF f v fs).lookup g = if g = f then some v else fs.lookup g
  | [] => by
    show List.lookup g [(f, v)] = _
    by_cases h : g = f
    · have hb : (g == f) = true := beq_iff_eq.mpr h
      simp only [List.lookup, hb, if_pos h]
    · have hb : (g == f) = false := beq_eq_false_iff_ne.mpr h
      simp only [List.lookup, hb, if_neg h]
  | (k, x) :: r => by
    have ih := lookup_putF f g v r
    rw [show putF f v ((k, x) :: r) = (if k = f then (k, v) :: r else (k, x) :: putF f v r) from rfl]
    by_cases hk : k = f
    · rw [if_pos hk]
      by_cases h : g = k
      · have hb : (g == k) = true := beq_iff_eq.mpr h
        simp only [List.lookup, hb, if_pos (h.trans hk)]
      · have hb : (g == k) = false := beq_eq_false_iff_ne.mpr h
        simp only [List.lookup, hb, if_neg (fun e : g = f => h (e.trans hk.symm))]
    · rw [if_neg hk]
      by_cases h : g = k
      · have hb : (g == k) = true := beq_iff_eq.mpr h
        simp only [List.lookup, hb, if_neg (fun e : g = f => hk (h.symm.trans e))]
      · have hb : (g == k) = false := beq_eq_false_iff_ne.mpr h
        simp only [List.lookup, hb]
        exact ih
theorem keys_putF (f : Str) (v : V) : ∀ fs : List (Str × V), f ∈ (putF f v fs).map (·.1) ∧ ∀ g, g ∈ fs.map (·.1) → g ∈ (putF f v fs).map (·.1)
  | [] => ⟨by simp [putF], fun g h => by simp at h⟩
  | (k, x) :: r => by
    obtain ⟨i1, i2⟩ := keys_putF f v r
    rw [show putF f v ((k, x) :: r) = (if k = f then (k, v) :: r else (k, x) :: putF f v r) from rfl]
    by_cases hk : k = f
    · rw [if_pos hk]
      subst hk
      exact ⟨by simp, fun g h => by simpa using h⟩
    · rw [if_neg hk]
      refine ⟨?_, fun g h => ?_⟩
      · rw [List.map_cons]
        exact List.mem_cons_of_mem _ i1
      · rw [List.map_cons] at h ⊢
        rcases List.mem_cons.mp h with e | e
        · exact List.mem_cons.mpr (.inl e)
        · exact List.mem_cons_of_mem _ (i2 g e)
theorem length_putF (f : Str) (v : V) : ∀ fs : List (Str × V), (putF f v fs).length ≤ fs.length + 1
  | [] => by simp [putF]
  | (k, x) :: r => by
    have ih := length_putF f v r
    rw [show putF f v ((k, x) :: r) = (if k = f then (k, v) :: r else (k, x) :: putF f v r) from rfl]
    by_cases hk : k = f
    · rw [if_pos hk, List.length_cons, List.length_cons]; omega
    · rw [if_neg hk, List.length_cons, List.length_cons]; omega

theorem RelO.some_of {v : V} {o : Option Value} (r : RelO (some v) o) : ∃ u, o = some u ∧ RelV v u := by
  cases o with
  | none => exact (show False from r).elim
  | some u => exact ⟨u, rfl, r⟩
theorem RelO.none_of {o : Option Value} (r : RelO none o) : o = none := by
  cases o with
  | none => rfl
  | some u => exact (show False from r).elim
theorem handed_of {v : V} {u : Value} (r : RelV v u) : PySem.W.handedIn u = true := by
  cases v with
  | non => cases (show u = Value.none from r); rfl
  | bl b => cases (show u = Value.bool b from r); rfl
  | int i => obtain ⟨t, e⟩ := (show ∃ t, u = Value.int i t from r); cases e; rfl
  | str x => obtain ⟨t, e⟩ := (show ∃ t, u = Value.str x t from r); cases e; rfl
  | byt b => obtain ⟨t, e⟩ := (show ∃ t, u = Value.bytes b t from r); cases e; rfl
  | flt b => obtain ⟨t, e⟩ := (show ∃ t, u = Value.float b t from r); cases e; rfl
  | ref a => cases (show u = Value.ref a from r); rfl
  | ty n => cases (show u = Value.type n from r); rfl

section
variable {P : Program} {w : World} {H H' : Hp} {h h' : Heap} {a C dx : Addr} {fs fs' : List (Str × V)}
theorem ins_get (hok : HOk P w H h) (e : H a = some (.ins C dx fs)) : ∃ mA, ObjM h a dx C mA ∧ (∀ f, RelO (fs.lookup f) (mA f)) ∧ PySem.Within mA (fs.map (·.1)) ∧ fs.length ≤ 1000 ∧ H dx = some (.own a) := by
  obtain ⟨d, z, ne, ob, mA, n, r, q⟩ := (show ObjOk P w H h a (.ins C dx fs) from hok a _ e)
  exact ⟨mA, ⟨ob, n, ne⟩, r, q, z, d⟩
end

structure Cls (K : PySem.W.Frag) (C : Addr) : Prop where
  pg : PySem.W.plainGet K C Str.empty = true
  hd : PySem.W.hasDictIn K C = true
  po : PySem.W.plainOver K C = true
  sa : PySem.W.findIn K (.ref C) "__setattr__" = some (some (.builtin "object.__setattr__"))
theorem Cls.get {K : PySem.W.Frag} {C : Addr} (c : Cls K C) (f : Str) : PySem.W.plainGet K C f = true := c.pg
def NoAttr (K : PySem.W.Frag) (C : Addr) (f : Str) : Prop := PySem.W.findIn K (.ref C) f = some none
theorem NoAttr.taker {K : PySem.W.Frag} {C : Addr} {f : Str} (n : NoAttr K C f) : PySem.W.takerIn K C f = some none := by
  unfold PySem.W.takerIn
  rw [show PySem.W.findIn K (.ref C) f = some none from n]
  rfl
structure Con (K : PySem.W.Frag) (C : Addr) (f : Str) (v : V) (u : Value) : Prop where
  at_ : PySem.W.findIn K (.ref C) f = some (some u)
  rel : RelV v u
  get : PySem.W.specialIn K u "__get__" = some none
  cp : PySem.W.copiedNames.contains f = false
structure Meth (K : PySem.W.Frag) (C : Addr) (m : Str) (f : Addr) : Prop where
  at_ : PySem.W.findIn K (.ref C) m = some (some (.ref f))
  fn : PySem.W.isFn K (.ref f) = true
  kp : PySem.W.keepIn K (.ref f) = true

section
variable {X : Cx} {pins : List (Addr × Obj)} {σ : St} {H : Hp} {s : Shared} {a C dx : Addr} {fs : List (Str × V)} {f : Str} {v : V} {A : Around} {E : Value → Shared → Prop}

theorem getattr_ok {b : Bool} {Q : Value → Shared → Prop} (I : Inv X pins σ H s) (e : H a = some (.ins C dx fs)) (c : Cls X.K C) (n : NoAttr X.K C f) (l : fs.lookup f = some v)
    (h : ∀ u s', Inv X pins σ H s' → RelV v u → Q u s') : wpAny (model X.prog X.w) A (getAttr (.ref a) f b) Q E s := by
  obtain ⟨mA, O, r, _, _, _⟩ := ins_get I.hok e
  obtain ⟨u, hu, ru⟩ := RelO.some_of (v := v) (o := mA f) (by rw [← l]; exact r f)
  exact get_map I.kIn O (c.get f) c.hd n hu (handed_of ru) (h u _ (I.tok _) ru)

theorem getmeth_ok {m : Str} {g : Addr} {pl : Sem Bool} {Q : Value × List Value → Shared → Prop} (I : Inv X pins σ H s) (e : H a = some (.ins C dx fs)) (c : Cls X.K C) (k : Meth X.K C m g) (l : fs.lookup m = none)
    (h : Q (.ref g, [.ref a]) s) : wpAny (model X.prog X.w) A (getMethod (.ref a) m pl) Q E s := by
  obtain ⟨mA, O, r, _, _, _⟩ := ins_get I.hok e
  have hn : mA m = none := RelO.none_of (by rw [← l]; exact r m)
  exact get_meth I.kIn O (c.get m) k.at_ k.fn hn h

theorem setattr_ok {y : V} {u : Value} {Q : Unit → Shared → Prop} (I : Inv X pins σ H s) (e : H a = some (.ins C dx fs)) (c : Cls X.K C) (n : NoAttr X.K C f) (hl : fs.length < 1000) (ry : RelV y u)
    (h : ∀ s', Inv X pins σ (upd H a (.ins C dx (putF f y fs))) s' → Q () s') : wpAny (model X.prog X.w) A (setAttr (.ref a) f u) Q E s := by
  obtain ⟨mA, O, r, wi, _, ho⟩ := ins_get I.hok e
  have hz : (fs.map (·.1)).length ≤ sizeLine := by rw [List.length_map, sizeLine_eq]; omega
  refine set_map I.kIn O c.sa c.po n.taker c.hd wi hz fun h' O' sb => h _ ?_
  have hd : ∃ o, h'.get? dx = some o := let ⟨o, _, _, e', _⟩ := O'.ns; ⟨o, e'⟩
  refine I.write (x := a) (e := dx) (by rw [e]; exact True.intro) (.inr ho) (fun b q hb z => (sb.2 b hb).trans z) hd ?_
  refine ⟨by rw [upd_ne O.ne]; exact ho, ?_, O.ne, O'.obj, _, O'.ns, fun g => ?_, fun g hg => ?_⟩
  · have := length_putF f y fs; omega
  · show RelO ((putF f y fs).lookup g) (if g = f then some u else mA g)
    rw [lookup_putF]
    by_cases q : g = f
    · rw [if_pos q, if_pos q]; exact ry
    · rw [if_neg q, if_neg q]; exact r g
  · by_cases q : g = f
    · rw [q]; exact (keys_putF f y fs).1
    · refine (keys_putF f y fs).2 g (wi g fun z => hg ?_)
      show (if g = f then some u else mA g) = none
      rw [if_neg q]; exact z

theorem Inv.made (I : Inv X pins σ H s) : Inv X pins σ (upd (upd H s.heap.objs.size (.own (s.heap.objs.size + 1))) (s.heap.objs.size + 1) (.ins C s.heap.objs.size []))
    { s with heap := (s.heap.push PySem.W.emptyDict).push (PySem.W.instObj C s.heap.objs.size) } := by
  have e1 : (s.heap.push PySem.W.emptyDict).get? s.heap.objs.size = some PySem.W.emptyDict := Heap.get?_push_size s.heap rfl
  have e2 : ((s.heap.push PySem.W.emptyDict).push (PySem.W.instObj C s.heap.objs.size)).get? (s.heap.objs.size + 1) = some (PySem.W.instObj C s.heap.objs.size) := by
    have := Heap.get?_push_size (s.heap.push PySem.W.emptyDict) (o := PySem.W.instObj C s.heap.objs.size) rfl
    rwa [Heap.size_push] at this
  have e3 : (s.heap.push PySem.W.emptyDict).Ns s.heap.objs.size (fun _ => none) := ⟨PySem.W.emptyDict, #[], _, e1, rfl, (fun e he => absurd he (by simp)), fun _ => rfl⟩
  have I1 := I.laid (a := s.heap.objs.size) (o := .own (s.heap.objs.size + 1)) (h' := s.heap.push PySem.W.emptyDict) (t' := s.toks) (fun b u q => Heap.get?_push_of_some _ q) (Nat.le_refl _) ⟨_, e1⟩
  refine I1.laid (a := s.heap.objs.size + 1) (o := .ins C s.heap.objs.size []) (t' := s.toks) (fun b u q => Heap.get?_push_of_some _ q) (Nat.le_of_eq (Heap.size_push _ _)) ?_
  have ne : s.heap.objs.size ≠ s.heap.objs.size + 1 := Nat.ne_of_lt (Nat.lt_succ_self _)
  refine ⟨by rw [upd_ne ne, upd_same], Nat.zero_le _, ne, e2, fun _ => none, (Heap.Ns1.of_empty e3).at fun o q => Heap.get?_push_of_some _ q, fun _ => True.intro, fun y hy => absurd rfl hy⟩

theorem attr_of {prog : Program} {w : World} {env : Env} {e : Expr} {f : Str} {pos : Pos} {s : Shared} {Q : Value → Shared → Prop} (hb : attributeBase e f env (eval e env) = eval e env)
    (h : wpAny (model prog w) A (eval e env) (fun o s₁ => wpAny (model prog w) A (getAttr o f true) Q E s₁) E s) : wpAny (model prog w) A (eval (.Attribute e f pos) env) Q E s :=
  Attribute_any_ h (by rw [arm_eval_Attribute, hb])
end

def tFld (K : PySem.W.Frag) (ta : TE) (f : Str) : TE := fun σ H Q => ta σ H fun x H1 => ∃ a C dx fs v, x = .ref a ∧ H1 a = some (.ins C dx fs) ∧ Cls K C ∧ NoAttr K C f ∧ fs.lookup f = some v ∧ Q v H1
def sFld (K : PySem.W.Frag) (ta tv : TE) (f : Str) : TS := fun D σ H => tv σ H fun y H1 => ta σ H1 fun x H2 => ∃ a C dx fs, x = .ref a ∧ H2 a = some (.ins C dx fs) ∧ Cls K C ∧ NoAttr K C f ∧ fs.length < 1000 ∧
  D.nx σ (upd H2 a (.ins C dx (putF f y fs)))
section
variable {X : Cx} {o e value : Expr} {f : Str} {pos pos' tpos : Pos} {ta tv : TE}
theorem pe_fld (he : PE X e ta) (hb : attributeBase e f X.env (eval e X.env) = eval e X.env) : PE X (.Attribute e f pos) (tFld X.K ta f) := by
  intro pins s σ H Q I h
  refine attr_of hb (thn (he pins s σ H _ I h) fun u s1 ⟨x, H1, I1, rx, a, C, dx, fs, v, ex, ea, c, n, l, q⟩ => ?_)
  subst ex
  obtain rfl : u = Value.ref a := rx
  exact getattr_ok I1 ea c n l fun u' s2 I2 ru => ⟨v, H1, I2, ru, q⟩
theorem ps_fld (ha : PE X o ta) (hv : PE X value tv) (hs : swapsWith value (some (.Attribute o f pos')) pos.line X.env = pure false) : PS X (.Assign [.Attribute o f pos'] value pos) (sFld X.K ta tv f) := by
  intro pins s σ H D I h
  refine plainObj_wpAny_Assign_Attribute (thn (hv pins s σ H _ I h) fun u s1 ⟨y, H1, I1, ry, q⟩ => thn (ha pins s1 σ H1 _ I1 q) fun ov s2 ⟨x, H2, I2, rx, a, C, dx, fs, ex, ea, c, n, l, q2⟩ => ?_) hs
  subst ex
  obtain rfl : ov = Value.ref a := rx
  exact setattr_ok I2 ea c n l ry fun s3 I3 => ⟨σ, _, I3, q2⟩
end

section
variable {X : Cx} {pins : List (Addr × Obj)} {σ : St} {H : Hp} {s : Shared} {A : Around} {E : Value → Shared → Prop} {Q : Value → Shared → Prop} {c : Value} {b : Bool}
inductive TyOf (K : PySem.W.Frag) (H : Hp) : V → Value → Prop where
  | non : TyOf K H .non (.type "NoneType")
  | bl (x : Bool) : TyOf K H (.bl x) (.type "bool")
  | int (i : Int) : TyOf K H (.int i) (.type "int")
  | str (x : Str) : TyOf K H (.str x) (.type "str")
  | flt (x : UInt64) : TyOf K H (.flt x) (.type "float")
  | lst {a : Addr} {xs : List V} (e : H a = some (.lst xs)) : TyOf K H (.ref a) (.type "list")
  | frz {a : Addr} {o : Obj} {xs : List V} (e : H a = some (.frz o (.lst xs))) : TyOf K H (.ref a) (.type "list")
  | tup {a : Addr} {xs : List V} (e : H a = some (.tup xs)) : TyOf K H (.ref a) (.type "tuple")
  | dK {a : Addr} {kvs : List (Key × V)} (e : H a = some (.dK kvs)) : TyOf K H (.ref a) (.type "dict")
  | dT {a : Addr} {kvs : List (List Key × V)} (e : H a = some (.dT kvs)) : TyOf K H (.ref a) (.type "dict")
  | ins {a C dx : Addr} {fs : List (Str × V)} (e : H a = some (.ins C dx fs)) (cl : Cls K C) (ha : PySem.W.findIn K (.ref C) "__class__" = some (some (.builtin "object.__class__")))
      (hn : PySem.W.specialIn K (.builtin "object.__class__") "__get__" = some (some (.builtin "getset_descriptor.__get__"))) (htk : PySem.W.takesIn K (.builtin "object.__class__") = some true)
      (hm : PySem.W.mroIn K C (.type "object") = some true) : TyOf K H (.ref a) (.ref C)
theorem isinst_ok {x : V} {u t : Value} (I : Inv X pins σ H s) (rx : RelV x u) (ty : TyOf X.K H x t) (e : PySem.W.kitOne X.K t c = some b) (h : ∀ tk, Q (.bool b) { s with toks := tk }) :
    wpAny (model X.prog X.w) A (call (.builtin "isinstance") [u, c]) Q E s := by
  cases ty with
  | non => cases (show u = Value.none from rx); exact PySem.W.kia_one PySem.W.kitx_none I.kIn True.intro e (fun z => nomatch z) h
  | bl y => cases (show u = Value.bool y from rx); exact PySem.W.kia_one PySem.W.kitx_bool I.kIn True.intro e (fun z => nomatch z) h
  | int i => obtain ⟨t, q⟩ := (show ∃ t, u = Value.int i t from rx); cases q; exact PySem.W.kia_one PySem.W.kitx_int I.kIn True.intro e (fun z => nomatch z) h
  | str y => obtain ⟨t, q⟩ := (show ∃ t, u = Value.str y t from rx); cases q; exact PySem.W.kia_one PySem.W.kitx_str I.kIn True.intro e (fun z => nomatch z) h
  | flt y => obtain ⟨t, q⟩ := (show ∃ t, u = Value.float y t from rx); cases q; exact PySem.W.kia_one PySem.W.kitx_float I.kIn True.intro e (fun z => nomatch z) h
  | @lst a xs ea =>
    cases (show u = Value.ref a from rx)
    obtain ⟨_, _, n, _, h1⟩ := (show ObjOk X.prog X.w H s.heap a (.lst xs) from I.hok a _ ea)
    exact PySem.W.kia_one PySem.W.kitx_list I.kIn ⟨_, h1, rfl⟩ e (fun z => nomatch z) h
  | @frz a ob xs ea =>
    cases (show u = Value.ref a from rx)
    obtain ⟨_, _, _, n, _, h1⟩ := (show ObjOk X.prog X.w H s.heap a (.frz ob (.lst xs)) from I.hok a _ ea)
    exact PySem.W.kia_one PySem.W.kitx_list I.kIn ⟨_, h1, rfl⟩ e (fun z => nomatch z) h
  | @tup a xs ea =>
    cases (show u = Value.ref a from rx)
    obtain ⟨_, _, _, p⟩ := (show ObjOk X.prog X.w H s.heap a (.tup xs) from I.hok a _ ea)
    obtain ⟨o, h1, h2, _⟩ := p
    exact PySem.W.kia_one PySem.W.kitx_tuple I.kIn ⟨o, h1, h2⟩ e (fun z => nomatch z) h
  | @dK a kvs ea =>
    cases (show u = Value.ref a from rx)
    obtain ⟨_, _, vs, _, p⟩ := (show ObjOk X.prog X.w H s.heap a (.dK kvs) from I.hok a _ ea)
    obtain ⟨o, es, ep, h1, h2, _⟩ := p
    exact PySem.W.kia_one PySem.W.kitx_dict I.kIn ⟨o, h1, h2.1⟩ e (fun z => nomatch z) h
  | @dT a kvs ea =>
    cases (show u = Value.ref a from rx)
    obtain ⟨_, _, xs, _, o, es, ep, h1, h2, _⟩ := (show ObjOk X.prog X.w H s.heap a (.dT kvs) from I.hok a _ ea)
    exact PySem.W.kia_one PySem.W.kitx_dict I.kIn ⟨o, h1, h2.1⟩ e (fun z => nomatch z) h
  | @ins a C dx fs ea cl ha hn htk hm =>
    cases (show u = Value.ref a from rx)
    obtain ⟨mA, O, _⟩ := ins_get I.hok ea
    obtain ⟨od, J, _⟩ := O.look
    exact PySem.W.kia_one (PySem.W.kitx_own (cl.get _) cl.hd ha hn htk hm) I.kIn J e (fun z => nomatch z) h
end
end L2

namespace L2
open PySem PySem.Spec PyProof.Rows

structure Room (k : Nat) (A : Around) : Prop where
  hd : A.handled = none
  dp : A.depth + 3 * k + 5 < recursionLimit
  un : A.units + 16 * k + 200 < cLine
theorem Room.mono {j k : Nat} {A : Around} (r : Room k A) (h : j ≤ k) : Room j A := ⟨r.hd, by have := r.dp; omega, by have := r.un; omega⟩
theorem Room.deeper {k : Nat} {A : Around} (r : Room (k + 1) A) (env : Env) : Room k (A.deeper env) :=
  ⟨r.hd, by have := r.dp; show A.depth + 1 + 3 * k + 5 < _; omega, by have := r.un; show A.units + 3 + 16 * k + 200 < _; omega⟩
theorem make_depth {A : Around} {C : Addr} {us : List Value} {kw : List (Str × Value)} : (A.under (.builtin "type.__call__" ⟨.ref C :: us, kw⟩)).depth = A.depth + 1 := by
  first | rfl | simp [Around.under, Code.weight, Code.isCreation, Code.isGuard, Code.isCaller, Code.frames, Code.isFrame, guardIds]
theorem make_units {A : Around} {C : Addr} {us : List Value} {kw : List (Str × Value)} : (A.under (.builtin "type.__call__" ⟨.ref C :: us, kw⟩)).units = A.units + 1 := by
  first | rfl | simp [Around.under, Code.cUnits, Code.frames, Code.isFrame]
theorem Room.make {k : Nat} {A : Around} (r : Room (k + 1) A) (C : Addr) (us : List Value) (kw : List (Str × Value)) : Room k (A.under (.builtin "type.__call__" ⟨.ref C :: us, kw⟩)) :=
  ⟨r.hd, by have := r.dp; rw [make_depth]; omega, by have := r.un; rw [make_units]; omega⟩
theorem Room.depth {k : Nat} {A : Around} (r : Room k A) : A.depth < recursionLimit := by have := r.dp; omega
def tNil : TA := fun _ H Q => Q [] H
def tCons (ta : TE) (tr : TA) : TA := fun σ H Q => ta σ H fun x H1 => tr σ H1 fun xs H2 => Q (x :: xs) H2
section
variable {X : Cx} {e : Expr} {es : List Expr} {te : TE} {t : TA} {pos : Pos}
theorem pa_nil : PA X [] tNil := fun _ _ _ _ H Q I h => Calls.spliced_nil ⟨[], H, I, .nil, h⟩
theorem pa_cons (ha : PE X e te) (hr : PA X es t) (hs : starEach (e :: es) X.env = (false, eval e X.env) :: starEach es X.env := by rfl) : PA X (e :: es) (tCons te t) := by
  intro pos pins s σ H Q I h
  rw [hs]
  show wpAny _ _ (spliced ((false, eval e X.env) :: backTo pos (starEach es X.env))) _ _ s
  refine Calls.spliced_cons (thn (ha pins s σ H _ I h) fun u s1 ⟨x, H1, I1, r1, q1⟩ => ?_)
  exact thn (hr pos pins s1 σ H1 _ I1 q1) fun us s2 ⟨xs, H2, I2, r2, q2⟩ => ⟨x :: xs, H2, I2, .cons r1 r2, q2⟩

def tTup (t : TA) : TE := fun σ H Q => t σ H fun xs H1 => xs.length ≤ sizeLine ∧ ∀ p, H1 p = none → Q (.ref p) (upd H1 p (.tup xs))
def tLst (t : TA) : TE := fun σ H Q => t σ H fun xs H1 => xs.length ≤ sizeLine ∧ ∀ p, H1 p = none → Q (.ref p) (upd H1 p (.lst xs))
theorem pe_tup {x1} (h : PA X es t) : PE X (.Tuple es x1 pos) (tTup t) := by
  intro pins s σ H Q I hq
  refine wpAny_Tuple_spliced (thn (h pos pins s σ H _ I hq) fun us s1 ⟨xs, H1, I1, r, z, q⟩ => ⟨by rw [← r.length]; exact z, ?_⟩)
  have hf : H1 s1.heap.objs.size = none := I1.hok.fresh (Nat.le_refl _)
  refine ⟨.ref s1.heap.objs.size, upd H1 s1.heap.objs.size (.tup xs), I1.laid (t' := s1.toks) (fun b u e => Heap.get?_push_of_some _ e) (Nat.le_refl _) ?_, rfl, q _ hf⟩
  exact ⟨z, us, r, ⟨_, Heap.get?_push_size _ rfl, rfl, _, rfl⟩⟩
theorem pe_lst (h : PA X es t) : PE X (.List es pos) (tLst t) := by
  intro pins s σ H Q I hq
  refine wpAny_List_spliced (thn (h pos pins s σ H _ I hq) fun us s1 ⟨xs, H1, I1, r, z, q⟩ => ⟨by rw [← r.length]; exact z, ?_⟩)
  have hf : H1 s1.heap.objs.size = none := I1.hok.fresh (Nat.le_refl _)
  refine ⟨.ref s1.heap.objs.size, upd H1 s1.heap.objs.size (.lst xs), I1.laid (t' := s1.toks) (fun b u e => Heap.get?_push_of_some _ e) (Nat.le_refl _) ?_, rfl, q _ hf⟩
  exact ⟨z, us, 0, r, Heap.get?_push_size _ rfl⟩
end

abbrev Sp := List V → Hp → VK → XK → Prop
abbrev CXT := List Env → Hp → Shared → XK → Value → Shared → Prop

structure Env0 (P : Program) (w : World) (K : PySem.W.Frag) (mg : Str → Option Value) (base : Heap) (A : Around) (outer : List Env) (s : Shared) (H : Hp) : Prop where
  frames : A.frames = some outer
  mod : Mod K mg base
  bs : ∀ b o, base.get? b = some o → s.heap.get? b = some o ∧ H b = none
  bsz : base.objs.size ≤ s.heap.objs.size
  funs : s.heap.FunFrames base outer
  frf : ∀ b ∈ frs outer, H b = none
  hok : HOk P w H s.heap
  bare : AllBare s.gens
def CE (outer : List Env) (P : Program) (w : World) (H : Hp) (s : Shared) (Q : VK) (u : Value) (s' : Shared) : Prop :=
  ∃ v H', s'.os = s.os ∧ AllBare s'.gens ∧ Un (frs outer) [] H H' s.heap s'.heap ∧ HOk P w H' s'.heap ∧ RelV v u ∧ Q v H'
def CR (CX : CXT) (outer : List Env) (P : Program) (w : World) (H : Hp) (s : Shared) (Q : VK) (E : XK) (r : Result) (s' : Shared) : Prop :=
  match r with
  | .ok (.ret u) => CE outer P w H s Q u s'
  | .ok _ => False
  | .error e => CX outer H s E e s'
structure FnOk (P : Program) (w : World) (K : PySem.W.Frag) (mg : Str → Option Value) (base : Heap) (CX : CXT) (k : Nat) (f : Addr) (fd : FuncData) (ps : List Str) (sp : Sp) : Prop where
  len : ∀ vs H Q E, sp vs H Q E → vs.length = ps.length
  run : ∀ (A : Around) (outer : List Env) (s : Shared) (H : Hp) (args : Args) (us : List Value) (vs : List V) (Q : VK) (E : XK), Room k A → Env0 P w K mg base A outer s H → BindsTo s fd args (ps.zip us) → Vals vs us → sp vs H Q E →
    codeAny (model P w) A (.call (.ref f) args) (CR CX outer P w H s Q E) s
theorem Env0.make {P : Program} {w : World} {K : PySem.W.Frag} {mg : Str → Option Value} {base : Heap} {A : Around} {outer : List Env} {s : Shared} {H : Hp} (e : Env0 P w K mg base A outer s H) (C : Addr) (us : List Value) (kw : List (Str × Value)) :
    Env0 P w K mg base (A.under (.builtin "type.__call__" ⟨.ref C :: us, kw⟩)) outer s H := ⟨by first | exact e.frames | (simpa [Around.under, Code.envs, Code.isFrame, pushEnvs] using e.frames), e.mod, e.bs, e.bsz, e.funs, e.frf, e.hok, e.bare⟩
section
variable {X : Cx} {pins : List (Addr × Obj)} {σ : St} {H : Hp} {s s' : Shared}
theorem Inv.env0 (I : Inv X pins σ H s) : Env0 X.prog X.w X.K X.mg X.base X.A X.stack s H :=
  ⟨I.ok.frames, I.ok.mod, I.bs, Nat.le_trans I.ok.bsz I.sz, I.stack, I.stkFree, I.hok, I.bare⟩
theorem Inv.after {Q : VK} {u : Value} (I : Inv X pins σ H s) (h : CE X.stack X.prog X.w H s Q u s') : EP X pins σ Q u s' := by
  obtain ⟨v, H', os, bare, un, hok, r, q⟩ := h
  obtain ⟨hh, g, d, t, os'⟩ := s'
  obtain rfl : os' = s.os := os
  exact ⟨v, H', I.call (h' := hh) (g' := g) (d' := d) (t' := t) (ch := []) un hok bare (fun b z => absurd z (by simp)), r, q⟩
end

def tCall (sp : Sp) (dvs : List V) (E : XK) (t : TA) : TE := fun σ H Q => t σ H fun vs H1 => sp (vs ++ dvs) H1 Q E
def tMeth (C : Addr) (m : Str) (sp : Sp) (dvs : List V) (E : XK) (ta : TE) (t : TA) : TE := fun σ H Q => ta σ H fun x H1 => ∃ a dx fs, x = .ref a ∧ H1 a = some (.ins C dx fs) ∧ fs.lookup m = none ∧
  t σ H1 fun vs H2 => sp (x :: (vs ++ dvs)) H2 Q E
def tMake (C : Addr) (sp : Sp) (dvs : List V) (E : XK) (t : TA) : TE := fun σ H Q => t σ H fun vs H1 => ∀ x dx, H1 x = none → H1 dx = none → dx ≠ x →
  sp (.ref x :: (vs ++ dvs)) (upd (upd H1 dx (.own x)) x (.ins C dx [])) (fun v H2 => v = .non ∧ Q (.ref x) H2) E

def Binds (K : PySem.W.Frag) (fd : FuncData) (ps : List Str) (ds : List Value) : Prop :=
  ∀ (s : Shared) (us : List Value), K.In s.heap → (us ++ ds).length = ps.length → BindsTo s fd ⟨us, []⟩ (ps.zip (us ++ ds))
theorem Binds.all {K : PySem.W.Frag} {fd : FuncData} {ps : List Str} (h : ∀ us : List Value, us.length = ps.length → bindArgs fd ⟨us, []⟩ = pure (ps.zip us)) : Binds K fd ps [] := fun s us _ hl => by
  rw [List.append_nil] at hl ⊢
  exact .of_eq (h us hl)

def Passes (CX : CXT) (X : Cx) (E : XK) : Prop := ∀ (pins : List (Addr × Obj)) (σ : St) (H : Hp) (s : Shared) (e : Value) (s' : Shared), Inv X pins σ H s → CX X.stack H s E e s' → X.xe e s'

section
variable {X : Cx} {CX : CXT} {k : Nat} {f C : Addr} {fd : FuncData} {ps : List Str} {sp : Sp} {dvs : List V} {ds : List Value} {E : XK} {x m : Str} {p pos apos : Pos} {e o : Expr} {es : List Expr} {ta : TE} {t : TA}

theorem run_fn {pins : List (Addr × Obj)} {σ : St} {H : Hp} {s : Shared} {Q : VK} {us : List Value} {vs : List V} (F : FnOk X.prog X.w X.K X.mg X.base CX k f fd ps sp) (hr : Room k X.A) (hb : Binds X.K fd ps ds) (hd : Vals dvs ds) (hx : Passes CX X E)
    (I : Inv X pins σ H s) (r : Vals vs us) (h : sp (vs ++ dvs) H Q E) : wpAny (model X.prog X.w) X.A (call (.ref f) us) (EP X pins σ Q) X.xe s := by
  have r2 : Vals (vs ++ dvs) (us ++ ds) := r.append hd
  have hl : (us ++ ds).length = ps.length := by rw [← r2.length]; exact F.len _ _ _ _ h
  refine wpAny_call (codeAny_mono (F.run X.A X.stack s H ⟨us, []⟩ (us ++ ds) (vs ++ dvs) Q E hr I.env0 (hb s us I.kIn hl) r2 h) fun r s' hq => ?_)
  cases r with
  | error e => exact hx pins σ H s e s' I hq
  | ok fl =>
    cases fl with
    | ret u => exact I.after hq
    | next => exact False.elim hq
    | brk => exact False.elim hq
    | cont => exact False.elim hq

theorem pe_call (F : FnOk X.prog X.w X.K X.mg X.base CX k f fd ps sp) (hr : Room k X.A) (hg : Gl X x) (hm : X.mg x = some (.ref f)) (hk : PySem.W.keepIn X.K (.ref f) = true) (hb : Binds X.K fd ps ds) (hd : Vals dvs ds) (hx : Passes CX X E)
    (ha : PA X (e :: es) t) (hdb : (x == ("__debug__" : Str)) = false := by decide) (he : starEach (e :: es) X.env = (false, eval e X.env) :: starEach es X.env := by rfl) (hpl : (backTo pos (starEach es X.env)).any (·.1) = false := by rfl) :
    PE X (.Call (.Name x p) (e :: es) [] pos) (tCall sp dvs E t) := by
  intro pins s σ H Q I h
  refine wpAny_Call_Name_kw (ld_glob I hg hm ?_ hdb)
  refine PySem.W.callWith_K (h₀ := X.base) I.ok.mod.kin hk (thn (ha pos pins s σ H _ I h) fun us s1 ⟨vs, H1, I1, r, q⟩ => ⟨I1.kIn, ?_⟩) he hpl
  exact run_fn F hr hb hd hx I1 r q
theorem pe_meth0 {pl : Sem Bool} (he : PE X o ta) (c : Cls X.K C) (hm : Meth X.K C m f) (F : FnOk X.prog X.w X.K X.mg X.base CX k f fd ps sp) (hr : Room k X.A) (hb : Binds X.K fd ps ds) (hd : Vals dvs ds) (hx : Passes CX X E)
    (ht : eval (.Call (.Attribute o m apos) [] [] pos) X.env = (do
      let ov ← eval o X.env
      standAt apos.atName
      let (f, first) ← holding [ov] (getMethod ov m pl)
      callWith pos f first (backTo pos (starEach [] X.env)) (backToKw pos (keywordEach [] X.env))) := by rfl) :
    PE X (.Call (.Attribute o m apos) [] [] pos) (tMeth C m sp dvs E ta tNil) := by
  intro pins s σ H Q I h
  refine PySem.W.methodCall_KW (pl := pl) (thn (he pins s σ H _ I h) fun u s1 ⟨x, H1, I1, rx, a, dx, fs, ex, ea, l, q⟩ => ?_) ht
  subst ex
  obtain rfl : u = Value.ref a := rx
  refine getmeth_ok I1 ea c hm l ?_
  exact PySem.W.callWith_K0 (first := [.ref a]) I1.kIn hm.kp (run_fn (us := [.ref a]) (vs := [.ref a]) F hr hb hd hx I1 (.cons rfl .nil) q)

structure Mk (K : PySem.W.Frag) (C f : Addr) : Prop where
  makes : PySem.W.makesIn K C = true
  init : PySem.W.findIn K (.ref C) "__init__" = some (some (.ref f))
  fn : PySem.W.isFn K (.ref f) = true
  kp : PySem.W.keepIn K (.ref C) = true

theorem run_make {pins : List (Addr × Obj)} {σ : St} {H : Hp} {s : Shared} {Q : VK} {us : List Value} {vs : List V} (M : Mk X.K C f) (F : FnOk X.prog X.w X.K X.mg X.base CX k f fd ps sp) (hr : Room (k + 1) X.A) (hb : Binds X.K fd ps ds) (hd : Vals dvs ds)
    (hx : Passes CX X E) (I : Inv X pins σ H s) (r : Vals vs us)
    (h : ∀ x dx, H x = none → H dx = none → dx ≠ x → sp (.ref x :: (vs ++ dvs)) (upd (upd H dx (.own x)) x (.ins C dx [])) (fun v H2 => v = .non ∧ Q (.ref x) H2) E) :
    wpAny (model X.prog X.w) X.A (call (.ref C) us) (EP X pins σ Q) X.xe s := by
  have hq := h (s.heap.objs.size + 1) s.heap.objs.size (I.hok.fresh (Nat.le_succ _)) (I.hok.fresh (Nat.le_refl _)) (Nat.ne_of_lt (Nat.lt_succ_self _))
  have I2 := Inv.made (C := C) I
  have r2 : Vals (V.ref (s.heap.objs.size + 1) :: (vs ++ dvs)) (Value.ref (s.heap.objs.size + 1) :: (us ++ ds)) := .cons rfl (r.append hd)
  have hl : (Value.ref (s.heap.objs.size + 1) :: us ++ ds).length = ps.length := by
    have e := r2.length
    rw [F.len _ _ _ _ hq] at e
    exact e.symm
  refine wpAny_call (make_map (f := f) I.kIn M.makes M.init (beq_iff_eq.mp M.fn) (codeAny_mono (F.run _ X.stack _ _ ⟨Value.ref (s.heap.objs.size + 1) :: us, []⟩ (Value.ref (s.heap.objs.size + 1) :: (us ++ ds)) _ _ E (hr.make C us [])
    (I2.env0.make C us []) (hb _ (Value.ref (s.heap.objs.size + 1) :: us) I2.kIn hl) r2 hq) fun r s' hq' => ?_))
  cases r with
  | error e => exact hx pins σ _ _ e s' I2 hq'
  | ok fl =>
    cases fl with
    | ret u =>
      obtain ⟨v, H', I3, rv, ev, q3⟩ := I2.after hq'
      subst ev
      exact ⟨rv, ⟨V.ref (s.heap.objs.size + 1), H', I3, rfl, q3⟩⟩
    | next => exact False.elim hq'
    | brk => exact False.elim hq'
    | cont => exact False.elim hq'
theorem pe_make (M : Mk X.K C f) (F : FnOk X.prog X.w X.K X.mg X.base CX k f fd ps sp) (hr : Room (k + 1) X.A) (hg : Gl X x) (hm : X.mg x = some (.ref C)) (hb : Binds X.K fd ps ds) (hd : Vals dvs ds) (hx : Passes CX X E)
    (ha : PA X (e :: es) t) (hdb : (x == ("__debug__" : Str)) = false := by decide) (he : starEach (e :: es) X.env = (false, eval e X.env) :: starEach es X.env := by rfl) (hpl : (backTo pos (starEach es X.env)).any (·.1) = false := by rfl) :
    PE X (.Call (.Name x p) (e :: es) [] pos) (tMake C sp dvs E t) := by
  intro pins s σ H Q I h
  refine wpAny_Call_Name_kw (ld_glob I hg hm ?_ hdb)
  refine PySem.W.callWith_K (h₀ := X.base) I.ok.mod.kin M.kp (thn (ha pos pins s σ H _ I h) fun us s1 ⟨vs, H1, I1, r, q⟩ => ⟨I1.kIn, ?_⟩) he hpl
  exact run_make M F hr hb hd hx I1 r q
end

section
variable {X : Cx} {CX : CXT} {k : Nat} {f C : Addr} {fd : FuncData} {ps ks : List Str} {sp : Sp} {E : XK} {x m : Str} {p pos apos kpos : Pos} {e o : Expr} {es : List Expr} {kws : List Keyword} {te ta : TE} {t tk : TA} {nm : Option Str}
structure KBinds (K : PySem.W.Frag) (fd : FuncData) (ps ks : List Str) (g : List Value → List Value → List Value) (gV : List V → List V → List V) : Prop where
  to : ∀ (s : Shared) (us ws : List Value), K.In s.heap → (g us ws).length = ps.length → BindsTo s fd ⟨us, ks.zip ws⟩ (ps.zip (g us ws))
  rel : ∀ {vs : List V} {us : List Value} {zs : List V} {ws : List Value}, Vals vs us → Vals zs ws → Vals (gV vs zs) (g us ws)
variable {g : List Value → List Value → List Value} {gV : List V → List V → List V}
end

structure FnScope (N P : List Str) (sc : Scope) : Prop where
  kind : sc.kind = .function
  co : sc.isCoroutine = false
  gen : sc.isGenerator = false
  nd : N.Nodup
  pre : N.take P.length = P
  par : ∀ x ∈ P, sc.names.lookup x = some .local ∨ sc.names.lookup x = some .cell
  nofree : ∀ y ∈ sc.names, y.2 ≠ .free

theorem bindL_out {kindOf : Str → Option NameKind} {x : Str} : ∀ {binds : List (Str × Value)} {m : Str → Option Value}, (∀ v, (x, v) ∉ binds) → bindL kindOf binds m x = m x
  | [], _, _ => rfl
  | (n, v) :: r, m, h => by
    unfold bindL
    rw [bindL_out fun w hw => h w (List.mem_cons_of_mem _ hw)]
    split
    · have : x ≠ n := by rintro rfl; exact h v List.mem_cons_self
      simp [this]
    · rfl
theorem bindC_out {kindOf : Str → Option NameKind} {x : Str} : ∀ {binds : List (Str × Value)} {m : Str → Option Value}, (∀ v, (x, v) ∉ binds) → bindC kindOf binds m x = m x
  | [], _, _ => rfl
  | (n, v) :: r, m, h => by
    unfold bindC
    rw [bindC_out fun w hw => h w (List.mem_cons_of_mem _ hw)]
    split
    · rfl
    · have : x ≠ n := by rintro rfl; exact h v List.mem_cons_self
      simp [this]
theorem bindL_get {kindOf : Str → Option NameKind} {x : Str} {v : Value} : ∀ {P : List Str} {vs : List Value} {i : Nat} {m : Str → Option Value}, P.Nodup → P[i]? = some x → vs[i]? = some v → kindOf x = some .local →
    bindL kindOf (P.zip vs) m x = some v
  | [], _, _, _, _, h, _, _ => by simp at h
  | _ :: _, [], _, _, _, _, h, _ => by simp at h
  | p :: P, w :: vs, 0, m, nd, h1, h2, hk => by
    simp at h1 h2; subst h1; subst h2
    show bindL kindOf ((p, w) :: P.zip vs) m p = _
    unfold bindL
    rw [bindL_out fun v hv => (List.nodup_cons.mp nd).1 (List.of_mem_zip hv).1, if_pos hk]
    simp
  | p :: P, w :: vs, i + 1, m, nd, h1, h2, hk => by
    show bindL kindOf ((p, w) :: P.zip vs) m x = _
    unfold bindL
    exact bindL_get (i := i) (List.nodup_cons.mp nd).2 (by simpa using h1) (by simpa using h2) hk
theorem bindC_get {kindOf : Str → Option NameKind} {x : Str} {v : Value} : ∀ {P : List Str} {vs : List Value} {i : Nat} {m : Str → Option Value}, P.Nodup → P[i]? = some x → vs[i]? = some v → kindOf x ≠ some .local →
    bindC kindOf (P.zip vs) m x = some v
  | [], _, _, _, _, h, _, _ => by simp at h
  | _ :: _, [], _, _, _, _, h, _ => by simp at h
  | p :: P, w :: vs, 0, m, nd, h1, h2, hk => by
    simp at h1 h2; subst h1; subst h2
    show bindC kindOf ((p, w) :: P.zip vs) m p = _
    unfold bindC
    rw [bindC_out fun v hv => (List.nodup_cons.mp nd).1 (List.of_mem_zip hv).1, if_neg hk]
    simp
  | p :: P, w :: vs, i + 1, m, nd, h1, h2, hk => by
    show bindC kindOf ((p, w) :: P.zip vs) m x = _
    unfold bindC
    exact bindC_get (i := i) (List.nodup_cons.mp nd).2 (by simpa using h1) (by simpa using h2) hk

def start (N : List Str) (vs : List V) : St := vs.map some ++ List.replicate (N.length - vs.length) none

def cxOf (CX : CXT) (P : Program) (w : World) (K : PySem.W.Frag) (mg : Str → Option Value) (base : Heap) (N : List Str) (qual : Str) (scope : Scope) (f : Addr) (cd : Value) (A : Around) (outer : List Env) (s : Shared) (H : Hp) (E : XK) : Cx where
  prog := P
  w := w
  K := K
  mg := mg
  base := base
  A := A.deeper (envOfC qual scope s.heap.objs.size f cd)
  N := N
  s₀ := s
  H₀ := H
  env := envOfC qual scope s.heap.objs.size f cd
  outer := outer
  stack := envOfC qual scope s.heap.objs.size f cd :: outer
  ex := []
  calm := true
  fn := fun _ => true
  pn := []
  xe := fun e s' => wpAny (model P w) (A.deeper (envOfC qual scope s.heap.objs.size f cd)) (leaving (envOfC qual scope s.heap.objs.size f cd) e) (fun _ s'' => CX outer H s E e s'') (fun e' s'' => CX outer H s E e' s'') s'

theorem cell_has {sc : Scope} {n : Nat} {x : Str} (h : sc.names.lookup x = some .cell) : ∃ c, (cellsFrom n sc.names []).lookup x = some c := by
  have q := PySem.W.cellsFrom_some sc.names n [] (.inl h)
  exact Option.isSome_iff_exists.mp q

theorem inv_start {CX : CXT} {P : Program} {w : World} {K : PySem.W.Frag} {mg : Str → Option Value} {base : Heap} {N ps : List Str} {qual : Str} {scope : Scope} {f : Addr} {cd : Value} {A : Around} {outer : List Env} {s s1 : Shared} {H : Hp} {E : XK} {us : List Value} {vs : List V}
    (S : FnScope N ps scope) (hd : A.handled = none) (e0 : Env0 P w K mg base A outer s H) (hl : vs.length = ps.length) (r : Vals vs us)
    (x : InCallC s s.heap.objs.size (bindL (envOfC qual scope s.heap.objs.size f cd).kindOf (ps.zip us) fun _ => none) (cellsFrom (s.heap.objs.size + 1) scope.names []) (bindC (envOfC qual scope s.heap.objs.size f cd).kindOf (ps.zip us) fun _ => none) s1) :
    Inv (cxOf CX P w K mg base N qual scope f cd A outer s H E) [] (start N vs) H s1 := by
  have hpl : ps.length ≤ N.length := by have := congrArg List.length S.pre; rw [List.length_take] at this; omega
  obtain ⟨h1, tk, rfl, hk⟩ := x.done
  have noA : ∀ b : Addr, b ∉ (cxOf CX P w K mg base N qual scope f cd A outer s H E).ex := fun b z => absurd (show b ∈ ([] : List Addr) from z) (by simp)
  refine ⟨⟨e0.mod, S.kind, rfl, rfl, Nat.le_refl _, fun y z c h1 h2 => ?_, fun y hy => ?_, fun y c _ h => ?_, fun _ => hd, Around.frames_deeper e0.frames, .inr ⟨rfl, rfl⟩, fun b z => absurd z (noA b), e0.bs, e0.bsz, fun b _ _ => noA b, fun b z => absurd z (noA b), e0.funs, e0.frf⟩,
    rfl, e0.bare, Un.kept hk, ⟨_, x.toInCall.ns, fun i y v h1 h2 h3 => ?_⟩, fun y c h => ⟨_, x.cell y c h⟩, e0.hok.fresh (Nat.le_refl _), fun y c h => ?_, fun p hp => absurd (show p ∈ ([] : List (Addr × Obj)) from hp) (by simp), e0.hok.kept hk, ?_⟩
  · exact name_of_addr x.apart (PySem.mem_of_lookup h1) (PySem.mem_of_lookup h2)
  · have hy : scope.names.lookup y = some .cell ∨ scope.names.lookup y = some .free := hy
    rcases hy with hy | hy
    · exact cell_has hy
    · exact absurd rfl (S.nofree _ (PySem.mem_of_lookup hy))
  · exact Nat.le_of_lt (x.above y c (PySem.mem_of_lookup h))
  · have hi : i < vs.length := by
      unfold start at h2
      by_cases hi : i < vs.length
      · exact hi
      · rw [List.getElem?_append_right (by simpa using hi)] at h2
        rw [List.getElem?_replicate] at h2
        split at h2 <;> cases h2
    have ha : vs[i]? = some v := by
      unfold start at h2
      rw [List.getElem?_append_left (by simpa using hi), List.getElem?_map] at h2
      cases e : vs[i]? with
      | none => rw [e] at h2; cases h2
      | some a => rw [e] at h2; cases h2; rfl
    obtain ⟨u, hu, rv⟩ := r.get ha
    have hp : ps[i]? = some y := by
      rw [← S.pre, List.getElem?_take_of_lt (by omega)]; exact h1
    have ndP : ps.Nodup := by rw [← S.pre]; exact S.nd.sublist (List.take_sublist _ _)
    refine ⟨u, rv, ?_⟩
    rcases S.par y (List.mem_of_getElem? hp) with k | k
    · exact .inl ⟨k, bindL_get ndP hp hu k⟩
    · obtain ⟨c, e⟩ := cell_has (n := s.heap.objs.size + 1) k
      refine .inr ⟨.inl k, c, e, ?_⟩
      have q := x.cell y c e
      rw [bindC_get ndP hp hu (by show scope.names.lookup y ≠ _; rw [k]; decide)] at q
      exact q
  · exact e0.hok.fresh (Nat.le_of_lt (x.above y c (PySem.mem_of_lookup h)))
  · unfold start
    show _ = N.length
    rw [List.length_append, List.length_map, List.length_replicate]
    omega

theorem fn_of {CX : CXT} {P : Program} {w : World} {K : PySem.W.Frag} {mg : Str → Option Value} {base : Heap} {k : Nat} {f : Addr} {name qual : Str} {params : Arguments} {body : List Stmt} {scope : Scope} {dV kV doc pm cdv ct oc : Value} {an od : Option Addr}
    {osl : Array (Option Value)} {N ps : List Str} {sp : Sp} (lk : K.lookup f = some ⟨oc, od, .func (PySem.W.fnOf name qual params body scope dV kV doc pm an cdv ct), osl⟩) (hcd : PySem.W.codeIn K cdv qual = true) (S : FnScope N ps scope)
    (len : ∀ vs H Q E, sp vs H Q E → vs.length = ps.length)
    (hbody : ∀ (A : Around) (outer : List Env) (s : Shared) (H : Hp) (vs : List V) (Q : VK) (E : XK), Room k (A.deeper (envOfC qual scope s.heap.objs.size f cdv)) → sp vs H Q E →
      ∃ t, PSs (cxOf CX P w K mg base N qual scope f cdv A outer s H E) body t ∧ t { nx := fun _ H' => Q .non H', rt := Q } (start N vs) H) :
    FnOk P w K mg base CX (k + 1) f (PySem.W.fnOf name qual params body scope dV kV doc pm an cdv ct) ps sp := by
  refine ⟨len, fun A outer s H args us vs Q E hr e0 hb r hsp => ?_⟩
  have hl := len _ _ _ _ hsp
  have KX : K.In s.heap := e0.mod.kin.keeps fun b o e => (e0.bs b o e).1
  have lim : s.heap.NoLimit := e0.mod.nolimit.keeps fun b o e => (e0.bs b o e).1
  have hkind : ∀ y ∈ ps.zip us, scope.names.lookup y.1 = some .local ∨ (scope.names.lookup y.1 = some .cell ∧ ((cellsFrom (s.heap.objs.size + 1) scope.names []).lookup y.1).isSome = true) := fun ⟨n, v⟩ hy => by
    rcases S.par n (List.of_mem_zip hy).1 with q | q
    · exact .inl q
    · exact .inr ⟨q, PySem.W.cellsFrom_some _ _ _ (.inl q)⟩
  refine codeAny_call_function hr.depth (KX _ _ lk) rfl S.co S.gen rfl (PySem.W.codeRec_of KX hcd) (hb _ _ _ _ ?_)
  refine wpAny_newFunctionEnv_cells S.kind hkind fun env he s1 x => ?_
  subst he
  refine ⟨lim.keeps x.toInCall.keep, codeAny_func ?_⟩
  obtain ⟨t, ht, hq⟩ := hbody A outer s H vs Q E (hr.deeper _) hsp
  have I : Inv (cxOf CX P w K mg base N qual scope f cdv A outer s H E) [] (start N vs) H s1 := inv_start S hr.hd e0 hl r x
  refine wpAny_mono (ht [] s1 (start N vs) H _ I hq) (fun fl s' hs => ?_) fun e s' hs => hs
  have fin : ∀ {σ' : St} {H' : Hp} {v : V} {u : Value}, Inv (cxOf CX P w K mg base N qual scope f cdv A outer s H E) [] σ' H' s' → RelV v u → Q v H' → CE outer P w H s Q u s' :=
    fun {σ' H' v u} J rv q => ⟨v, H', J.os, J.bare, J.base, J.hok, rv, q⟩
  cases fl with
  | ret u =>
    obtain ⟨v, σ', H', J, rv, q⟩ := hs
    exact fin J rv q
  | next =>
    obtain ⟨σ', H', J, q⟩ := hs
    exact fin (v := V.non) (u := Value.none) J rfl q
  | brk =>
    obtain ⟨_, _, _, q⟩ := hs
    exact False.elim q
  | cont =>
    obtain ⟨_, _, _, q⟩ := hs
    exact False.elim q
end L2

namespace L2
open PySem PySem.Spec PyProof.Rows
section
variable {X : Cx} {x : Str} {p pos : Pos} {e : Expr} {es : List Expr} {t : TA} {id T : String} {r : List V → Hp → VK → Prop}

def tCB (r : List V → Hp → VK → Prop) (t : TA) : TE := fun σ H Q => t σ H fun vs H1 => r vs H1 Q
theorem pe_callB (hc : CallR X (.builtin id) r) (hg : Gl X x) (hm : X.mg x = none) (hv : bootBuiltins x = some (.builtin id)) (ha : PA X (e :: es) t) (hn : x ≠ "__name__" := by decide) (hdb : (x == ("__debug__" : Str)) = false := by decide)
    (he : starEach (e :: es) X.env = (false, eval e X.env) :: starEach es X.env := by rfl) (hpl : (backTo pos (starEach es X.env)).any (·.1) = false := by rfl) : PE X (.Call (.Name x p) (e :: es) [] pos) (tCB r t) := by
  intro pins s σ H Q I h
  refine wpAny_Call_Name_kw (ld_blt I hg hm hv ?_ hn hdb)
  exact PyProof.Rows.callWith_builtin1 (thn (ha pos pins s σ H _ I h) fun us s1 ⟨vs, H1, I1, r1, q1⟩ => hc pins s1 σ H1 vs us Q I1 r1 q1) he hpl
theorem pe_callTy (hc : CallR X (.type T) r) (hg : Gl X x) (hm : X.mg x = none) (hv : bootBuiltins x = some (.type T)) (ha : PA X (e :: es) t) (hn : x ≠ "__name__" := by decide) (hdb : (x == ("__debug__" : Str)) = false := by decide)
    (he : starEach (e :: es) X.env = (false, eval e X.env) :: starEach es X.env := by rfl) (hpl : (backTo pos (starEach es X.env)).any (·.1) = false := by rfl) : PE X (.Call (.Name x p) (e :: es) [] pos) (tCB r t) := by
  intro pins s σ H Q I h
  refine wpAny_Call_Name_kw (ld_blt I hg hm hv ?_ hn hdb)
  exact PyProof.Rows.callWith_type1 (thn (ha pos pins s σ H _ I h) fun us s1 ⟨vs, H1, I1, r1, q1⟩ => hc pins s1 σ H1 vs us Q I1 r1 q1) he hpl
end
end L2

namespace HT
open PySem PyProof.Rows

section
open PySem.SeqAt
open PySem.AutoSeq1 (wpAny_loadPart')
open PySem.MeetsSeq PySem.MeetsSeq2 PySem.MeetsSeq3

end

section
variable {prog : Program} {w : World} {A : Around} {E : Value → Shared → Prop} {s : Shared}

def sIx (n d : Nat) : Option Int → Nat
  | none => d
  | some v => if v < 0 then (v + (n : Int)).toNat else min v.toNat n
theorem sIx_le (n d : Nat) (hd : d ≤ n) (o : Option Int) : sIx n d o ≤ n := by
  cases o with
  | none => exact hd
  | some v =>
    show (if v < 0 then (v + (n : Int)).toNat else min v.toNat n) ≤ n
    by_cases hv : v < 0
    · rw [if_pos hv]; omega
    · rw [if_neg hv]; exact Nat.min_le_right _ _
theorem clip_eq (v : Int) (n d : Nat) : (if v < 0 then max (v + (n : Int)) 0 else min v (n : Int)) = ((sIx n d (some v) : Nat) : Int) := by
  show (if v < 0 then max (v + (n : Int)) 0 else min v (n : Int)) = (((if v < 0 then (v + (n : Int)).toNat else min v.toNat n) : Nat) : Int)
  by_cases hv : v < 0
  · simp only [if_pos hv]; omega
  · simp only [if_neg hv]; omega
theorem adjust_gen (lo hi : Option Int) (n : Nat) : Builtin.Slice.sliceAdjust lo hi 1 (n : Int) = (((sIx n 0 lo : Nat) : Int), ((sIx n n hi : Nat) : Int)) := by
  have h1 : ¬ ((1 : Int) < 0) := by omega
  unfold Builtin.Slice.sliceAdjust
  simp only [h1, if_false]
  refine Prod.ext ?_ ?_
  · cases lo with
    | none => rfl
    | some v => exact clip_eq v n 0
  · cases hi with
    | none => rfl
    | some v => exact clip_eq v n n
theorem places_gen (i j : Nat) : Builtin.Slice.slicePlaces (i : Int) (j : Int) 1 = j - i := by
  unfold Builtin.Slice.slicePlaces
  have h1 : (1 : Int) > 0 := by omega
  simp only [h1, if_true, Int.ediv_one]
  split <;> omega
theorem slicePart_ {v : Value} {o : Option Int} {Q : Option Int → Shared → Prop} (p : IsPart v o) (h : Q o s) : wpAny (model prog w) A (Builtin.Slice.slicePartIndex v) Q E s := by
  cases p with
  | none => exact slicePart_none h
  | int i t => exact slicePart_int h
theorem sliceApplied_gen {sl : Addr} {vl vu : Value} {lo hi : Option Int} {n : Nat} {Q : Int × Int × Nat → Shared → Prop} (hs : s.heap.IsSliceOf sl vl vu .none) (pl : IsPart vl lo) (pu : IsPart vu hi)
    (h : Q (((sIx n 0 lo : Nat) : Int), 1, sIx n n hi - sIx n 0 lo) s) : wpAny (model prog w) A (Builtin.Slice.sliceApplied (.ref sl) (pure (n : Int))) Q E s := by
  obtain ⟨os, hos, hcs, hds⟩ := id hs
  unfold Builtin.Slice.sliceApplied Builtin.Slice.sliceFields
  refine wpAny_bind (wpAny_bind (wpAny_field hos hds (x := vl) rfl (wpAny_bind (wpAny_field hos hds (x := vu) rfl (wpAny_bind (wpAny_field hos hds (x := .none) rfl (wpAny_pure ?_)))))))
  refine wpAny_bind (slicePart_none ?_)
  show wpAny _ _ (if ((1 : Int) == 0) = true then _ else _) _ _ s
  rw [if_neg (by decide)]
  refine wpAny_bind (slicePart_ pl (wpAny_bind (slicePart_ pu (wpAny_bind (wpAny_pure ?_)))))
  show wpAny _ _ (match Builtin.Slice.sliceAdjust lo hi 1 (n : Int) with | (lo, hi) => pure (lo, (1 : Int), Builtin.Slice.slicePlaces lo hi 1)) _ _ s
  rw [adjust_gen lo hi n]
  show wpAny _ _ (pure (((sIx n 0 lo : Nat) : Int), (1 : Int), Builtin.Slice.slicePlaces ((sIx n 0 lo : Nat) : Int) ((sIx n n hi : Nat) : Int) 1)) _ _ s
  rw [places_gen]
  exact wpAny_pure h
theorem pick_gen (xs : Array Value) (i k : Nat) : ((List.range k).filterMap fun (m : Nat) => xs[((i : Int) + (m : Int) * 1).toNat]?).toArray = ((xs.toList.drop i).take k).toArray := by
  have e : (fun (m : Nat) => xs[((i : Int) + (m : Int) * 1).toNat]?) = fun m => xs[i + m]? := by
    funext m
    have : ((i : Int) + (m : Int) * 1).toNat = i + m := by omega
    rw [this]
  rw [e]
  have := pick_run xs i k
  rw [List.filterMap_map] at this
  have e2 : ((fun x => xs[x]?) ∘ fun x => i + x) = fun m => xs[i + m]? := rfl
  rw [e2] at this
  rw [this]

theorem getItem_tuple_cut {t sl : Addr} {items : Array Value} {vl vu : Value} {lo hi : Option Int} {Q : Value → Shared → Prop} (ht : IsTup s.heap t items) (hs : s.heap.IsSliceOf sl vl vu .none) (pl : IsPart vl lo) (pu : IsPart vu hi)
    (hw : ¬ (sIx items.size 0 lo = 0 ∧ sIx items.size items.size hi = items.size))
    (h : Q (.ref s.heap.objs.size) { s with heap := s.heap.push { cls := .type "tuple", data := .seq ((items.toList.drop (sIx items.size 0 lo)).take (sIx items.size items.size hi - sIx items.size 0 lo)).toArray } })
    (hsz : items.size ≤ sizeLine) : wpAny (model prog w) A (getItem (.ref t) (.ref sl)) Q E s := by
  have htake : sizeOk (.seq ((items.toList.drop (sIx items.size 0 lo)).take (sIx items.size items.size hi - sIx items.size 0 lo)).toArray) := by
    show ((items.toList.drop (sIx items.size 0 lo)).take (sIx items.size items.size hi - sIx items.size 0 lo)).toArray.size ≤ sizeLine
    rw [List.size_toArray, List.length_take, List.length_drop, Array.length_toList]
    omega
  have hj : sIx items.size items.size hi ≤ items.size := sIx_le _ _ (Nat.le_refl _) hi
  obtain ⟨os, hos, hcs, hds⟩ := id hs
  have hTs : s.TypeIs (.ref sl) "slice" := ⟨os, hos, hcs⟩
  unfold getItem
  try with_reducible refine wpAny_holding ?_
  first | refine wpAny_bind (wpAny_pure ?_) | skip
  refine wpAny_bind (wpAny_sequenceKey ht.typeIs (by decide) ?_)
  refine wpAny_bind (wpAny_callSpecial?_slot (name := Str.ofString "__getitem__") ht.typeIs PyProof.Rows.slot_tuple_getitem
    (wpAny_call_entry PyProof.Rows.slot_tuple_getitem ht.typeIs entry_tuple_getitem ?_ (args_tuple_getitem _ _)))
  show wpAny _ _ (Builtin.Tuple.tupleItemsOf (.ref t) >>= _) _ _ s
  refine wpAny_bind (tupleItemsOf_ ht ?_)
  refine wpAny_bind (wpAny_typeOf hTs ?_)
  rw [if_pos (by decide)]
  refine wpAny_bind (sliceApplied_gen hs pl pu ?_)
  have hno : ¬ ((((sIx items.size 0 lo : Nat) : Int) == 0 && (1 : Int) == 1 && (sIx items.size items.size hi - sIx items.size 0 lo) == items.size) = true) := by
    intro q
    rw [Bool.and_eq_true, Bool.and_eq_true] at q
    have q1 : ((sIx items.size 0 lo : Nat) : Int) = 0 := eq_of_beq q.1.1
    have q2 : sIx items.size items.size hi - sIx items.size 0 lo = items.size := eq_of_beq q.2
    exact hw ⟨by omega, by omega⟩
  show wpAny _ _ (if (((sIx items.size 0 lo : Nat) : Int) == 0 && (1 : Int) == 1 && (sIx items.size items.size hi - sIx items.size 0 lo) == items.size) = true then _ else _) _ _ s
  rw [if_neg hno, pick_gen]
  first
    | exact wpAny_bind (m := Builtin.Tuple.tupleExact _) (wpAny_newObj_type (wpAny_pure ⟨_, rfl, wpAny_pure h⟩) htake)
    | exact wpAny_bind (m := Builtin.Tuple.tupleExact _) (wpAny_newObj_type (wpAny_bind (wpAny_pure (wpAny_pure ⟨_, rfl, wpAny_pure h⟩))) htake)
    | exact wpAny_bind (wpAny_bind (m := Builtin.Tuple.tupleExact _) (wpAny_newObj_type (wpAny_pure (wpAny_pure ⟨_, rfl, wpAny_pure h⟩)) htake))
    | exact wpAny_bind (wpAny_bind (m := Builtin.Tuple.tupleExact _) (wpAny_newObj_type (wpAny_pure ⟨_, rfl, wpAny_pure h⟩) htake))
end
end HT

namespace L2
open PySem PySem.Spec PyProof.Rows

abbrev TO := St → Hp → (Option Int → Hp → Prop) → Prop
def PO (X : Cx) (e : Option Expr) (t : TO) : Prop :=
  ∀ (pins : List (Addr × Obj)) (s : Shared) (σ : St) (H : Hp) (Q : Option Int → Hp → Prop), Inv X pins σ H s → t σ H Q →
    wpAny (model X.prog X.w) X.A (evalPart e X.env) (fun u s' => ∃ o H', Inv X pins σ H' s' ∧ IsPart u o ∧ Q o H') X.xe s
def tNoPart : TO := fun _ H Q => Q none H
def tPart (t : TE) : TO := fun σ H Q => t σ H fun x H1 => ∃ i, x = .int i ∧ Q (some i) H1

section
variable {X : Cx} {e : Expr} {te : TE} {lo hi : Option Expr} {tl th : TO} {pos p2 : Pos}

theorem po_none : PO X none tNoPart := by
  intro pins s σ H Q I h
  rw [evalPart_none]
  exact wpAny_pure ⟨none, H, I, .none, h⟩
theorem po_some (h : PE X e te) : PO X (some e) (tPart te) := by
  intro pins s σ H Q I hw
  rw [evalPart_some]
  refine thn (h pins s σ H _ I hw) fun u s1 ⟨x, H1, I1, r1, q1⟩ => ?_
  obtain ⟨i, rfl, q⟩ := q1
  obtain ⟨t, rfl⟩ := r1
  exact ⟨some i, H1, I1, .int i t, q⟩

def SlR (X : Cx) (r : V → Option Int → Option Int → Hp → VK → Prop) : Prop :=
  ∀ (pins : List (Addr × Obj)) (s : Shared) (σ : St) (H : Hp) (x : V) (v vl vu : Value) (lo hi : Option Int) (sl : Addr) (Q : VK), Inv X pins σ H s → RelV x v → s.heap.IsSliceOf sl vl vu .none → IsPart vl lo → IsPart vu hi → r x lo hi H Q →
    ∃ T id, typeLookup (.type T) "__getitem__" = pure (some (.builtin id)) ∧ s.TypeIs v T ∧ wpAny (model X.prog X.w) X.A (getItem v (.ref sl)) (EP X pins σ Q) X.xe s
def tSl (r : V → Option Int → Option Int → Hp → VK → Prop) (te : TE) (tl th : TO) : TE := fun σ H Q => te σ H fun x H1 => tl σ H1 fun l H2 => th σ H2 fun u H3 => r x l u H3 Q
theorem pe_slice {r : V → Option Int → Option Int → Hp → VK → Prop} (hr : SlR X r) (he : PE X e te) (hl : PO X lo tl) (hu : PO X hi th) : PE X (.Subscript e (.Slice lo hi none p2) pos) (tSl r te tl th) := by
  intro pins s σ H Q I h
  refine Subscript_ (thn (he pins s σ H _ I h) fun v s1 ⟨x, H1, I1, r1, q1⟩ => ?_)
  refine wpAny_Slice (thn (hl pins s1 σ H1 _ I1 q1) fun vl s2 ⟨l, H2, I2, pl, q2⟩ => thn (hu pins s2 σ H2 _ I2 q2) fun vu s3 ⟨u, H3, I3, pu, q3⟩ => ?_)
  rw [evalPart_none]
  refine wpAny_pure ?_
  have I4 : Inv X pins σ H3 { s3 with heap := s3.heap.push { cls := .type "slice", data := .fields #[vl, vu, .none] } } := I3.kept (t' := s3.toks) fun b ob q => Heap.get?_push_of_some _ q
  obtain ⟨T, id, hT, ht, hg⟩ := hr pins { s3 with heap := s3.heap.push { cls := .type "slice", data := .fields #[vl, vu, .none] } } σ H3 x v vl vu l u s3.heap.objs.size Q I4 r1 (Heap.IsSliceOf.new ..) pl pu q3
  show wpAny (model X.prog X.w) X.A (subscriptTail e (.Slice lo hi none p2) v (.ref s3.heap.objs.size)) (EP X pins σ Q) X.xe { s3 with heap := s3.heap.push { cls := .type "slice", data := .fields #[vl, vu, .none] } }
  exact tail_any (ops := [.ref s3.heap.objs.size, v]) ht hT hg (by with_unfolding_all rfl)

def cutV (xs : List V) (lo hi : Option Int) : List V := (xs.drop (HT.sIx xs.length 0 lo)).take (HT.sIx xs.length xs.length hi - HT.sIx xs.length 0 lo)
theorem cutV_length (xs : List V) (lo hi : Option Int) : (cutV xs lo hi).length ≤ xs.length := by
  unfold cutV
  rw [List.length_take, List.length_drop]
  omega
def rSlT (K : PySem.W.Frag) : V → Option Int → Option Int → Hp → VK → Prop := fun x lo hi H Q => ∃ a xs, x = .ref a ∧ SqT K H a xs ∧
  ¬ (HT.sIx xs.length 0 lo = 0 ∧ HT.sIx xs.length xs.length hi = xs.length) ∧ ∀ p, H p = none → Q (.ref p) (upd H p (.tup (cutV xs lo hi)))
theorem sl_tup : SlR X (rSlT X.K) := by
  intro pins s σ H x v vl vu lo hi sl Q I rx hs pl pu h
  obtain ⟨a, xs, rfl, hx, hw, q⟩ := h
  cases rx
  obtain ⟨its, r, ht, hz⟩ := I.tuple hx
  have hlen : its.toArray.size = xs.length := by rw [List.size_toArray]; exact r.length.symm
  refine ⟨"tuple", _, PyProof.Rows.slot_tuple_getitem.lookup, ht.typeIs, ?_⟩
  refine HT.getItem_tuple_cut ht hs pl pu (by rw [hlen]; exact hw) ?_ (by rw [hlen]; exact hz)
  rw [hlen]
  refine ⟨.ref s.heap.objs.size, _, I.laid (t' := s.toks) (o := .tup (cutV xs lo hi)) (fun b ob q => Heap.get?_push_of_some _ q) (Nat.le_refl _) ?_, rfl, q _ (I.hok.fresh (Nat.le_refl _))⟩
  exact ⟨Nat.le_trans (cutV_length xs lo hi) hz, _, (r.drop (HT.sIx xs.length 0 lo)).take (HT.sIx xs.length xs.length hi - HT.sIx xs.length 0 lo), IsTup.new _ _⟩

end
end L2

namespace L2
open PySem PySem.Spec PyProof.Rows

def ixN (n : Nat) (i : Int) : Option Nat := if 0 ≤ i then (if i < n then some i.toNat else none) else if -(n : Int) ≤ i then some (i + n).toNat else none
def atI {α : Type} (xs : List α) (i : Int) : Option α := (ixN xs.length i).bind fun j => xs[j]?
theorem ixN_seq {n : Nat} {i : Int} {j : Nat} (h : ixN n i = some j) : seqIndex? i n = some j ∧ j < n ∧ -(n : Int) ≤ i ∧ i < n := by
  unfold ixN at h
  by_cases h0 : 0 ≤ i
  · rw [if_pos h0] at h
    by_cases h1 : i < n
    · rw [if_pos h1] at h
      have e : i.toNat = j := Option.some.inj h
      exact ⟨by rw [seqIndex_of h0 h1, e], by omega, by omega, h1⟩
    · rw [if_neg h1] at h; cases h
  · rw [if_neg h0] at h
    by_cases h1 : -(n : Int) ≤ i
    · rw [if_pos h1] at h
      have e : (i + n).toNat = j := Option.some.inj h
      exact ⟨by rw [seqIndex_neg (by omega) h1, e], by omega, h1, by omega⟩
    · rw [if_neg h1] at h; cases h
theorem atI_get {α : Type} {xs : List α} {i : Int} {v : α} (h : atI xs i = some v) : ∃ j, seqIndex? i xs.length = some j ∧ xs[j]? = some v ∧ j < xs.length ∧ -(xs.length : Int) ≤ i ∧ i < xs.length := by
  unfold atI at h
  cases e : ixN xs.length i with
  | none => rw [e] at h; cases h
  | some j =>
    rw [e] at h
    obtain ⟨h1, h2, h3, h4⟩ := ixN_seq e
    exact ⟨j, h1, h, h2, h3, h4⟩
theorem atI_nat {α : Type} {xs : List α} {j : Nat} {v : α} (h : xs[j]? = some v) : atI xs (j : Int) = some v := by
  have hj : j < xs.length := (List.getElem?_eq_some_iff.mp h).1
  have e : ixN xs.length (j : Int) = some j := by
    unfold ixN
    rw [if_pos (by omega), if_pos (by omega)]; simp
  unfold atI; rw [e]; exact h
def PlainIx (b : Expr) : Prop := ∀ o i, subscripted b false o i = operate [o, i] (getItem o i)
def IxR (X : Cx) (r : R2) : Prop :=
  ∀ (value slice : Expr) (pins : List (Addr × Obj)) (s : Shared) (σ : St) (H : Hp) (x y : V) (v u : Value) (Q : VK), Inv X pins σ H s → RelV x v → RelV y u → r x y H Q →
    subscripted slice false v u = operate [v, u] (getItem v u) → wpAny (model X.prog X.w) X.A (subscriptTail value slice v u) (EP X pins σ Q) X.xe s
def MtR (X : Cx) (id : String) (r : V → List V → Hp → VK → Prop) : Prop :=
  ∀ (pins : List (Addr × Obj)) (s : Shared) (σ : St) (H : Hp) (x : V) (xs : List V) (v : Value) (us : List Value) (Q : VK), Inv X pins σ H s → RelV x v → Vals xs us → r x xs H Q →
    wpAny (model X.prog X.w) X.A (call (.builtin id) (v :: us)) (EP X pins σ Q) X.xe s
section
variable {X : Cx} {a b : Expr} {ta tb : TE} {pos : Pos}
theorem pe_ix {r : R2} (hr : IxR X r) (ha : PE X a ta) (hb : PE X b tb) (hs : PlainIx b) : PE X (.Subscript a b pos) (tOp r ta tb) := by
  intro pins s σ H Q I h
  exact Subscript_ (binT ha hb I h fun v u s2 x y H2 I2 rx ry q => hr a b pins s2 σ H2 x y v u Q I2 rx ry q (hs _ _))

def rIxL (K : PySem.W.Frag) : R2 := fun x y H Q => ∃ p xs i v, x = .ref p ∧ y = .int i ∧ SqL K H p xs ∧ atI xs i = some v ∧ Q v H
def rIxT (K : PySem.W.Frag) : R2 := fun x y H Q => ∃ p xs i v, x = .ref p ∧ y = .int i ∧ SqT K H p xs ∧ atI xs i = some v ∧ Q v H
def rIxS : R2 := fun x y H Q => ∃ z i c, x = .str z ∧ y = .int i ∧ z.length ≤ sizeLine ∧ atI z.cps.toList i = some c ∧ Q (.str ⟨#[c]⟩) H
theorem ix_list : IxR X (rIxL X.K) := by
  intro value slice pins s σ H x y v u Q I rx ry h hs
  obtain ⟨p, xs, i, z, rfl, rfl, hq, he, q⟩ := h
  cases rx
  obtain ⟨t, rfl⟩ := ry
  obtain ⟨its, r, pl, hz⟩ := I.list hq
  obtain ⟨j, h1, h2, h3, h4, h5⟩ := atI_get he
  obtain ⟨w, ew, rw'⟩ := r.get h2
  have hl := r.length
  have hn := line63
  have fin : EP X pins σ Q w s := ⟨z, H, I, rw', q⟩
  by_cases h0 : 0 ≤ i
  · have hj : i.toNat = j := by
      rw [seqIndex_of h0 h5] at h1
      exact Option.some.inj h1
    exact item_listR pl.isList h0 (by omega) (by rw [hj]; simpa using ew) fin hs
  · have hj : (i + (its.toArray.size : Int)).toNat = j := by
      rw [seqIndex_neg (by omega) h4] at h1
      rw [List.size_toArray, ← hl]
      exact Option.some.inj h1
    exact subscriptTail_builtinR (x := w) pl.isList.typeIs slot_list_getitem.lookup
      (wpAny_getItem_list_neg (Q := fun r s' => r = w ∧ EP X pins σ Q r s') pl.isList (by omega) (by rw [List.size_toArray] <;> omega) (by omega) (by rw [hj]; simpa using ew) ⟨rfl, fin⟩) hs
theorem ix_tup : IxR X (rIxT X.K) := by
  intro value slice pins s σ H x y v u Q I rx ry h hs
  obtain ⟨p, xs, i, z, rfl, rfl, hq, he, q⟩ := h
  cases rx
  obtain ⟨t, rfl⟩ := ry
  obtain ⟨its, r, pl, hz⟩ := I.tuple hq
  obtain ⟨j, h1, h2, h3, h4, h5⟩ := atI_get he
  obtain ⟨w, ew, rw'⟩ := r.get h2
  have hl := r.length
  have hn := line63
  have fin : EP X pins σ Q w s := ⟨z, H, I, rw', q⟩
  exact subscriptTail_builtinR (x := w) pl.typeIs slot_tuple_getitem.lookup
    (getItem_tuple (j := j) (Q := fun r s' => r = w ∧ EP X pins σ Q r s') pl (by omega) (by omega) (by rw [List.size_toArray, ← hl]; exact h1) (by simpa using ew) ⟨rfl, fin⟩) hs
theorem ix_str : IxR X rIxS := by
  intro value slice pins s σ H x y v u Q I rx ry h hs
  obtain ⟨z, i, c, rfl, rfl, hz, he, q⟩ := h
  obtain ⟨t, rfl⟩ := rx
  obtain ⟨t', rfl⟩ := ry
  obtain ⟨j, h1, h2, h3, h4, h5⟩ := atI_get he
  have hl : z.cps.toList.length = z.length := by simp [Str.length]
  rw [hl] at h1 h4 h5
  have hn := line63
  exact tail_any (typeIs_str s z t) slot_str_getitem.lookup (getItem_str (c := c) (by
    have e1 : decide (i < -(2 ^ 63 : Int)) = false := decide_eq_false (by omega)
    have e2 : decide (i ≥ 2 ^ 63) = false := decide_eq_false (by omega)
    rw [e1, e2, Bool.or_false]) (by rw [h1]; simpa using h2) ⟨.str ⟨#[c]⟩, H, I.tok _, ⟨_, rfl⟩, q⟩) hs
theorem mapSeq_set (its : List Value) (n j : Nat) (u : Value) : Obj.mapSeq (·.setIfInBounds j u) { cls := .type "list", data := .seq its.toArray n } = { cls := .type "list", data := .seq (its.set j u).toArray n } := by
  simp [Obj.mapSeq]
theorem Inv.lst {pins : List (Addr × Obj)} {σ : St} {H : Hp} {s : Shared} {p : Addr} {xs : List V} (I : Inv X pins σ H s) (h : H p = some (.lst xs)) :
    ∃ (its : List Value) (n : Nat), Vals xs its ∧ s.heap.get? p = some { cls := .type "list", data := .seq its.toArray n } ∧ xs.length ≤ sizeLine := by
  obtain ⟨z, its, n, r, e⟩ := I.hok p _ h
  exact ⟨its, n, r, e, z⟩
theorem Inv.lstUpd {pins : List (Addr × Obj)} {σ : St} {H : Hp} {s : Shared} {p : Addr} {xs ys : List V} {its its' : List Value} {n n' : Nat} {f : Obj → Obj} (I : Inv X pins σ H s) (h : H p = some (.lst xs))
    (ho : s.heap.get? p = some { cls := .type "list", data := .seq its.toArray n }) (hf : f { cls := .type "list", data := .seq its.toArray n } = { cls := .type "list", data := .seq its'.toArray n' }) (r : Vals ys its') (hz : ys.length ≤ sizeLine) (t : Nat) :
    Inv X pins σ (upd H p (.lst ys)) { s with heap := s.heap.update p f, toks := t } := by
  have e : (s.heap.update p f).get? p = some { cls := .type "list", data := .seq its'.toArray n' } := by
    rw [Heap.get?_update_self f ho (by rw [hf] <;> rfl), hf]
  refine I.write (x := p) (e := p) (by rw [h]; trivial) (.inl rfl) (fun b u hb q => (Heap.get?_update_other _ _ (Ne.symm hb)).trans q) ⟨_, e⟩ ?_
  exact ⟨hz, its', n', r, e⟩
def rSetL : V → V → V → Hp → (Hp → Prop) → Prop := fun o i v H Q => ∃ p xs k j, o = .ref p ∧ i = .int k ∧ H p = some (.lst xs) ∧ ixN xs.length k = some j ∧ Q (upd H p (.lst (xs.set j v)))
theorem set_list : PSet X rSetL := by
  intro pins s σ H o i v ov iv u Q I ro ri rv h
  obtain ⟨p, xs, k, j, rfl, rfl, hp, hj, q⟩ := h
  cases ro
  obtain ⟨t, rfl⟩ := ri
  obtain ⟨its, n, r, ho, hz⟩ := I.lst hp
  obtain ⟨h1, h2, h3, h4⟩ := ixN_seq hj
  have hl := r.length
  have hn := line63
  have I' : Inv X pins σ (upd H p (.lst (xs.set j v))) { s with heap := s.heap.update p (Obj.mapSeq (·.setIfInBounds j u)) } :=
    I.lstUpd hp ho (mapSeq_set its n j u) (r.set rv j) (by rw [List.length_set]; exact hz) s.toks
  by_cases h0 : 0 ≤ k
  · have hk : k.toNat = j := by
      rw [seqIndex_of h0 h4] at h1
      exact Option.some.inj h1
    exact PySem.W.ki_setAt ho h0 (by omega) (by rw [List.size_toArray, ← hl]; exact h4) (by rw [hk]; exact ⟨_, I', q⟩)
  · have hk : (k + (its.toArray.size : Int)).toNat = j := by
      rw [seqIndex_neg (by omega) h3] at h1
      rw [List.size_toArray, ← hl]
      exact Option.some.inj h1
    exact PySem.W.ki_setBack ho (by omega) (by rw [List.size_toArray, ← hl]; exact h3) (by omega) (by rw [hk]; exact ⟨_, I', q⟩)

theorem slice_bounds (lo hi : Option Int) (n : Nat) : (sliceBounds lo hi none n).1 = ((HT.sIx n 0 lo : Nat) : Int) ∧ (sliceBounds lo hi none n).2.1 = ((HT.sIx n n hi : Nat) : Int) ∧ (sliceBounds lo hi none n).2.2 = 1 := by
  refine ⟨?_, ?_, rfl⟩
  · cases lo with
    | none => simp [sliceBounds, HT.sIx]
    | some i =>
      simp only [sliceBounds, HT.sIx, Option.getD_none, show (1 : Int) > 0 by decide, if_true]
      by_cases h : i < 0
      · simp only [h, if_true] <;> omega
      · simp only [h, if_false] <;> omega
  · cases hi with
    | none => simp [sliceBounds, HT.sIx]
    | some i =>
      simp only [sliceBounds, HT.sIx, Option.getD_none, show (1 : Int) > 0 by decide, if_true]
      by_cases h : i < 0
      · simp only [h, if_true] <;> omega
      · simp only [h, if_false] <;> omega
theorem slicePick_cut (its : List Value) (lo hi : Option Int) : slicePick its.toArray lo hi none = ((its.drop (HT.sIx its.length 0 lo)).take (HT.sIx its.length its.length hi - HT.sIx its.length 0 lo)).toArray := by
  obtain ⟨h1, h2, h3⟩ := slice_bounds lo hi its.toArray.size
  unfold slicePick
  rw [h1, h2, h3]
  simp only [sliceRange_one, pick_run, List.size_toArray] <;> rfl
def rSlL (K : PySem.W.Frag) : V → Option Int → Option Int → Hp → VK → Prop := fun x lo hi H Q => ∃ a xs, x = .ref a ∧ SqL K H a xs ∧ ∀ p, H p = none → Q (.ref p) (upd H p (.lst (cutV xs lo hi)))
theorem sl_list : SlR X (rSlL X.K) := by
  intro pins s σ H x v vl vu lo hi sl Q I rx hs pl pu h
  obtain ⟨a, xs, rfl, hx, q⟩ := h
  cases rx
  obtain ⟨its, r, ht, hz⟩ := I.list hx
  have hlen := r.length
  refine ⟨"list", _, slot_list_getitem.lookup, ht.isList.typeIs, ?_⟩
  refine wpAny_getItem_list_slice ht.isList hs pl pu .none (by simp) ?_ (by rw [List.size_toArray] <;> omega)
  rw [slicePick_cut, ← hlen]
  refine ⟨.ref s.heap.objs.size, _, I.laid (t' := s.toks) (o := .lst (cutV xs lo hi)) (fun b ob q => Heap.get?_push_of_some _ q) (Nat.le_refl _) ?_, rfl, q _ (I.hok.fresh (Nat.le_refl _))⟩
  exact ⟨Nat.le_trans (cutV_length xs lo hi) hz, _, 0, (r.drop (HT.sIx xs.length 0 lo)).take (HT.sIx xs.length xs.length hi - HT.sIx xs.length 0 lo), Heap.get?_push_size _ rfl⟩

def flatV : V → Bool
  | .non => true
  | .bl _ => true
  | .int _ => true
  | .str _ => true
  | _ => false
def eqV : V → V → Bool
  | .non, .non => true
  | .bl a, .bl b => a == b
  | .bl a, .int b => (if a then 1 else 0) == b
  | .int a, .bl b => a == (if b then 1 else 0)
  | .int a, .int b => a == b
  | .str a, .str b => a == b
  | _, _ => false
theorem eqAt_V {A : Around} {s : Shared} {y x : V} {u v : Value} (ry : RelV y u) (rx : RelV x v) (fy : flatV y = true) (fx : flatV x = true) : SeqAt.EqAt A s u v (eqV y x) := by
  cases y with
  | non =>
    cases ry
    cases x with
    | non => cases rx; exact SeqAt.EqAt.same _
    | bl b => cases rx; exact SeqAt.EqAt.none_bool b
    | int b => obtain ⟨t, rfl⟩ := rx; exact SeqAt.EqAt.none_int b t
    | str b => obtain ⟨t, rfl⟩ := rx; exact SeqAt.EqAt.none_str b t
    | _ => exact absurd (show false = true from fx) Bool.false_ne_true
  | bl a =>
    cases ry
    cases x with
    | non => cases rx; exact SeqAt.EqAt.bool_none a
    | bl b => cases rx; exact SeqAt.EqAt.bool_bool a b
    | int b => obtain ⟨t, rfl⟩ := rx; exact SeqAt.EqAt.bool_int a b t
    | str b => obtain ⟨t, rfl⟩ := rx; exact SeqAt.EqAt.bool_str a b t
    | _ => exact absurd (show false = true from fx) Bool.false_ne_true
  | int a =>
    obtain ⟨t', rfl⟩ := ry
    cases x with
    | non => cases rx; exact SeqAt.EqAt.int_none a t'
    | bl b => cases rx; exact SeqAt.EqAt.int_bool a t' b
    | int b => obtain ⟨t, rfl⟩ := rx; exact SeqAt.EqAt.int_int a t' b t
    | str b => obtain ⟨t, rfl⟩ := rx; exact SeqAt.EqAt.int_str a t' b t
    | _ => exact absurd (show false = true from fx) Bool.false_ne_true
  | str a =>
    obtain ⟨t', rfl⟩ := ry
    cases x with
    | non => cases rx; exact SeqAt.EqAt.str_none a t'
    | bl b => cases rx; exact SeqAt.EqAt.str_bool a t' b
    | int b => obtain ⟨t, rfl⟩ := rx; exact SeqAt.EqAt.str_int a t' b t
    | str b => obtain ⟨t, rfl⟩ := rx; exact SeqAt.EqAt.str_str a t' b t
    | _ => exact absurd (show false = true from fx) Bool.false_ne_true
  | _ => exact absurd (show false = true from fy) Bool.false_ne_true
def eqU (x : V) (u : Value) : Bool := match u with
  | .none => eqV .non x
  | .bool b => eqV (.bl b) x
  | .int i _ => eqV (.int i) x
  | .str z _ => eqV (.str z) x
  | _ => false
theorem eqU_of {x y : V} {u : Value} (r : RelV y u) (f : flatV y = true) : eqU x u = eqV y x := by
  cases y with
  | non => cases r; rfl
  | bl b => cases r; rfl
  | int i => obtain ⟨t, rfl⟩ := r; rfl
  | str z => obtain ⟨t, rfl⟩ := r; rfl
  | _ => exact absurd (show false = true from f) Bool.false_ne_true
theorem any_eqU {x : V} : ∀ {xs : List V} {us : List Value}, Vals xs us → xs.all flatV = true → us.any (eqU x) = xs.any fun y => eqV y x
  | _, _, .nil, _ => rfl
  | y :: xs, u :: us, .cons r t, f => by
    rw [List.all_cons, Bool.and_eq_true] at f
    rw [List.any_cons, List.any_cons, eqU_of r f.1, any_eqU t f.2]
theorem mem_eqAt {A : Around} {s : Shared} {x : V} {v : Value} (rx : RelV x v) (fx : flatV x = true) : ∀ {xs : List V} {us : List Value}, Vals xs us → xs.all flatV = true → ∀ u ∈ us, SeqAt.EqAt A s u v (eqU x u)
  | _, _, .nil, _ => fun u hu => by cases hu
  | y :: xs, u :: us, .cons r t, f => fun u' hu => by
    rw [List.all_cons, Bool.and_eq_true] at f
    rcases List.mem_cons.mp hu with rfl | hu
    · rw [eqU_of r f.1]; exact eqAt_V r rx f.1 fx
    · exact mem_eqAt rx fx t f.2 u' hu
def inV (x : V) (xs : List V) : Bool := xs.any fun y => eqV y x
def rIn (K : PySem.W.Frag) (neg : Bool) : R2 := fun x y H Q => ∃ p xs, y = .ref p ∧ (SqL K H p xs ∨ SqT K H p xs) ∧ flatV x = true ∧ xs.all flatV = true ∧ Q (.bl (if neg then !inV x xs else inV x xs)) H
theorem op_in_seq : OpR X (compareOp .In) (rIn X.K false) := by
  intro pins s σ H x y v u Q I rx ry h
  obtain ⟨p, xs, rfl, hq, fx, fs, q⟩ := h
  cases ry
  rcases hq with hq | hq
  · obtain ⟨its, r, pl, hz⟩ := I.list hq
    refine SeqAt.in_listAt (eqU x) pl.isList (fun w hw => mem_eqAt rx fx r fs w (by simpa using hw)) ⟨.bl _, H, I, rfl, ?_⟩
    rw [show its.toArray.any (eqU x) = its.any (eqU x) by simp, any_eqU r fs]
    exact q
  · obtain ⟨its, r, pl, hz⟩ := I.tuple hq
    refine SeqAt.in_tupleAt (eqU x) pl (fun w hw => mem_eqAt rx fx r fs w (by simpa using hw)) ⟨.bl _, H, I, rfl, ?_⟩
    rw [show its.toArray.any (eqU x) = its.any (eqU x) by simp, any_eqU r fs]
    exact q
theorem op_notIn_seq : OpR X (compareOp .NotIn) (rIn X.K true) := by
  intro pins s σ H x y v u Q I rx ry h
  obtain ⟨p, xs, rfl, hq, fx, fs, q⟩ := h
  cases ry
  rcases hq with hq | hq
  · obtain ⟨its, r, pl, hz⟩ := I.list hq
    refine SeqAt.notIn_listAt (eqU x) pl.isList (fun w hw => mem_eqAt rx fx r fs w (by simpa using hw)) ⟨.bl _, H, I, rfl, ?_⟩
    rw [show its.toArray.any (eqU x) = its.any (eqU x) by simp, any_eqU r fs]
    exact q
  · obtain ⟨its, r, pl, hz⟩ := I.tuple hq
    refine SeqAt.notIn_tupleAt (eqU x) pl (fun w hw => mem_eqAt rx fx r fs w (by simpa using hw)) ⟨.bl _, H, I, rfl, ?_⟩
    rw [show its.toArray.any (eqU x) = its.any (eqU x) by simp, any_eqU r fs]
    exact q
theorem call_len_seq : CallR X (.builtin "len") (fun xs H Q => ∃ p ys, xs = [.ref p] ∧ (SqL X.K H p ys ∨ SqT X.K H p ys) ∧ Q (.int ys.length) H) := by
  intro pins s σ H xs us Q I r h
  obtain ⟨p, ys, rfl, hq, q⟩ := h
  obtain ⟨u, rfl, rx⟩ := vals1 r
  cases rx
  have hn := line63
  rcases hq with hq | hq
  · obtain ⟨its, r', pl, hz⟩ := I.list hq
    have hlen := r'.length
    exact Calls.call_len_list pl.isList (by simp only [List.size_toArray] <;> omega) ⟨.int ys.length, H, I.tok _, ⟨s.toks + 1, by rw [List.size_toArray, hlen]⟩, q⟩
  · obtain ⟨its, r', pl, hz⟩ := I.tuple hq
    have hlen := r'.length
    exact len_tuple pl (by simp only [List.size_toArray] <;> omega) ⟨.int ys.length, H, I.tok _, ⟨s.toks + 1, by rw [List.size_toArray, hlen]⟩, q⟩
theorem call_len_str : CallR X (.builtin "len") (fun xs H Q => ∃ z, xs = [.str z] ∧ z.length ≤ sizeLine ∧ Q (.int z.length) H) := by
  intro pins s σ H xs us Q I r h
  obtain ⟨z, rfl, hz, q⟩ := h
  obtain ⟨u, rfl, t, rfl⟩ := vals1 r
  have hn := line63
  exact len_str (by omega) ⟨.int z.length, H, I.tok _, ⟨_, rfl⟩, q⟩
theorem call_list_of : CallR X (.type "list") (fun xs H Q => ∃ p ys, xs = [.ref p] ∧ (SqL X.K H p ys ∨ SqT X.K H p ys) ∧ ∀ l, H l = none → Q (.ref l) (upd H l (.lst ys))) := by
  intro pins s σ H xs us Q I r h
  obtain ⟨p, ys, rfl, hq, q⟩ := h
  obtain ⟨u, rfl, rx⟩ := vals1 r
  cases rx
  have fin : ∀ (its : List Value), Vals ys its → ys.length ≤ sizeLine → ∀ (h' : Heap) (c' : Nat), (∀ b o', s.heap.get? b = some o' → h'.get? b = some o') →
      h'.get? s.heap.objs.size = some { cls := .type "list", dict := none, data := .seq its.toArray c', slots := #[] } → EP X pins σ Q (.ref s.heap.objs.size) { s with heap := h' } := fun its r' hz h' c' kp e =>
    ⟨.ref s.heap.objs.size, _, I.laid (t' := s.toks) kp (Nat.le_refl _) (show ObjOk X.prog X.w _ h' _ (.lst ys) from ⟨hz, its, c', r', e⟩), rfl, q _ (I.hok.fresh (Nat.le_refl _))⟩
  rcases hq with hq | hq
  · obtain ⟨its, r', pl, hz⟩ := I.list hq
    have hlen := r'.length
    obtain ⟨o, ho, hc, n, hd⟩ := pl.isList
    exact call_list_seq p (.inl rfl) ho hc hd (fun h' c' kp e => fin its r' hz h' c' kp e) (by simp only [List.size_toArray] <;> omega)
  · obtain ⟨its, r', pl, hz⟩ := I.tuple hq
    have hlen := r'.length
    obtain ⟨o, ho, hc, n, hd⟩ := pl
    exact call_list_seq p (.inr rfl) ho hc hd (fun h' c' kp e => fin its r' hz h' c' kp e) (by simp only [List.size_toArray] <;> omega)
theorem call_tuple_of : CallR X (.type "tuple") (fun xs H Q => ∃ p ys, xs = [.ref p] ∧ ((SqL X.K H p ys ∧ ∀ l, H l = none → Q (.ref l) (upd H l (.tup ys))) ∨ (SqT X.K H p ys ∧ Q (.ref p) H))) := by
  intro pins s σ H xs us Q I r h
  obtain ⟨p, ys, rfl, h⟩ := h
  obtain ⟨u, rfl, rx⟩ := vals1 r
  cases rx
  rcases h with ⟨hq, q⟩ | ⟨hq, q⟩
  · obtain ⟨its, r', pl, hz⟩ := I.list hq
    have hlen := r'.length
    refine call_tuple_list pl.isList (fun h' kp => ?_) (by simp only [List.size_toArray] <;> omega)
    have I1 : Inv X pins σ H { s with heap := h' } := I.kept (t' := s.toks) kp
    have I2 : Inv X pins σ (upd H h'.objs.size (.tup ys)) { s with heap := h'.push { cls := .type "tuple", data := .seq its.toArray } } :=
      I1.laid (t' := s.toks) (fun b o e => Heap.get?_push_of_some _ e) (Nat.le_refl _) (show ObjOk X.prog X.w _ _ _ (.tup ys) from ⟨hz, its, r', IsTup.new _ _⟩)
    exact ⟨.ref h'.objs.size, _, I2, rfl, q _ (I1.hok.fresh (Nat.le_refl _))⟩
  · obtain ⟨its, r', pl, hz⟩ := I.tuple hq
    exact call_tuple_same pl ⟨.ref p, H, I, rfl, q⟩

def tyV (K : PySem.W.Frag) (T : String) (x : V) (H : Hp) : Prop := match x with
  | .str _ => T = "str"
  | .int _ => T = "int"
  | .ref p => (T = "list" ∧ ∃ xs, SqL K H p xs) ∨ (T = "tuple" ∧ ∃ o, K.lookup p = some o ∧ o.cls = .type "tuple" ∧ o.dict = none) ∨
      (T = "dict" ∧ ((∃ kvs, H p = some (.dK kvs)) ∨ ∃ kvs, H p = some (.dT kvs))) ∨ (T = "set" ∧ ∃ S n, H p = some (.set S n))
  | _ => False
theorem tyV_is {pins : List (Addr × Obj)} {σ : St} {H : Hp} {s : Shared} {T : String} {x : V} {v : Value} (I : Inv X pins σ H s) (r : RelV x v) (ty : tyV X.K T x H) :
    s.TypeIs v T ∧ ∀ a, v = .ref a → ∃ ob, s.heap.get? a = some ob ∧ ob.dict = none := by
  cases x with
  | str z =>
    obtain ⟨t, rfl⟩ := r
    cases (show T = "str" from ty)
    exact ⟨typeIs_str s z t, fun _ e => nomatch e⟩
  | int i =>
    obtain ⟨t, rfl⟩ := r
    cases (show T = "int" from ty)
    exact ⟨typeIs_int s i t, fun _ e => nomatch e⟩
  | ref p =>
    cases r
    rcases ty with ⟨rfl, xs, hq⟩ | ⟨rfl, o, hk, hc, hd⟩ | ⟨rfl, hk⟩ | ⟨rfl, S, n, hk⟩
    · obtain ⟨its, _, pl, _⟩ := I.list hq
      refine ⟨pl.isList.typeIs, fun a e => ?_⟩
      cases e
      obtain ⟨o, n, e, c, hd, _⟩ := pl
      exact ⟨o, e, hd⟩
    · refine ⟨⟨o, I.kIn p o hk, hc⟩, fun a e => ?_⟩
      cases e
      exact ⟨o, I.kIn _ o hk, hd⟩
    · have z : ∃ o, s.heap.get? p = some o ∧ o.ExactDict := by
        rcases hk with ⟨kvs, hk⟩ | ⟨kvs, hk⟩
        · obtain ⟨_, _, _, _, o, _, _, e, ex, _⟩ := I.hok p _ hk
          exact ⟨o, e, ex⟩
        · obtain ⟨_, _, _, _, o, _, _, e, ex, _⟩ := I.hok p _ hk
          exact ⟨o, e, ex⟩
      obtain ⟨o, e, ex⟩ := z
      refine ⟨⟨o, e, ex.1⟩, fun a e2 => ?_⟩
      cases e2
      exact ⟨o, e, ex.2.1⟩
    · obtain ⟨o, _, _, _, e, ex, _⟩ := I.hok p _ hk
      refine ⟨⟨o, e, ex.1⟩, fun a e2 => ?_⟩
      cases e2
      exact ⟨o, e, ex.2.1⟩
  | _ => exact False.elim ty
def tBM (K : PySem.W.Frag) (T : String) (r : V → List V → Hp → VK → Prop) (to : TE) (t : TA) : TE := fun σ H Q => to σ H fun x H1 => tyV K T x H1 ∧ t σ H1 fun xs H2 => r x xs H2 Q
variable {o e : Expr} {es : List Expr} {to : TE} {t : TA} {name : Str} {apos cpos : Pos} {T id : String} {r : V → List V → Hp → VK → Prop}
theorem pe_bm (pa : PlainAttrs T) (slot : Slot T name id) (hty : typeOf (.builtin id) = pure (.type "method_descriptor")) (hm : MtR X id r) (ho : PE X o to) (ha : PA X (e :: es) t)
    (hbase : attributeBase o name X.env (eval o X.env) = eval o X.env := by rfl)
    (hfew : ((backTo cpos (starEach (e :: es) X.env)).all (fun x => !x.1) && (backToKw cpos (keywordEach [] X.env)).all (fun x => x.1.isSome)
      && decide ((e :: es).length + ([] : List Keyword).length + (if ([] : List Keyword).isEmpty then 0 else 1) < 30)) = true := by rfl)
    (hline : (apos.endLine == cpos.line) = true := by rfl) (hs : starEach (e :: es) X.env = (false, eval e X.env) :: starEach es X.env := by rfl) (hplain : (backTo cpos (starEach es X.env)).any (·.1) = false := by rfl) :
    PE X (.Call (.Attribute o name apos) (e :: es) [] cpos) (tBM X.K T r to t) := by
  intro pins s σ H Q I h
  refine wpAny_Call_method_late hbase hfew hline rfl (thn (ho pins s σ H _ I h) fun v s1 ⟨x, H1, I1, r1, ty, q1⟩ => ?_)
  obtain ⟨h1, h2⟩ := tyV_is I1 r1 ty
  refine ⟨T, id, pa, slot, hty, h1, h2, ?_⟩
  have hA := ha cpos pins s1 σ H1 _ I1 q1
  rw [hs] at hA ⊢
  refine Calls.callWith_builtin (by show (false || (backTo cpos (starEach es X.env)).any (·.1)) = false; rw [hplain] <;> rfl) (Calls.evalArgs_plain ?_)
  exact thn hA fun us s2 ⟨vs, H2, I2, r2, q2⟩ => hm pins s2 σ H2 x vs v us Q I2 r1 r2 q2
end
end L2

namespace L2
open PySem PySem.Spec PyProof.Rows

def MtM (X : Cx) (id : String) (r : V → List V → Hp → VK → Prop) : Prop :=
  ∀ (pins : List (Addr × Obj)) (s : Shared) (σ : St) (H : Hp) (x : V) (xs : List V) (v : Value) (us : List Value) (Q : VK), Inv X pins σ H s → RelV x v → Vals xs us → r x xs H Q →
    wpAny (model X.prog X.w) X.A (call (.builtin id) (v :: us)) (EP X pins σ Q) X.xe s

theorem Vals.one : ∀ {x : V} {us : List Value}, Vals [x] us → ∃ u, us = [u] ∧ RelV x u
  | _, _, .cons r .nil => ⟨_, rfl, r⟩
section
variable {X : Cx} {pins : List (Addr × Obj)} {σ : St} {H : Hp} {s : Shared} {l b : Addr} {xs ys zs : List V}

theorem Inv.lset {its its' : List Value} {n : Nat} {f : Array Value → Array Value} {t' : Nat} (I : Inv X pins σ H s) (hH : H l = some (.lst xs))
    (e : s.heap.get? l = some { cls := .type "list", data := .seq its.toArray n }) (hf : f its.toArray = its'.toArray) (hv : Vals ys its') (hz : ys.length ≤ sizeLine) :
    Inv X pins σ (upd H l (.lst ys)) { s with heap := s.heap.update l (Obj.mapSeq f), toks := t' } := by
  have q := PySem.IsL.update e f
  rw [hf] at q
  refine I.write (x := l) (e := l) (by rw [hH]; exact trivial) (.inl rfl) (fun b' u hb hu => (Heap.get?_update_other s.heap (Obj.mapSeq f) (Ne.symm hb)).trans hu) ⟨_, q⟩ ?_
  exact ⟨hz, its', _, hv, q⟩
theorem Inv.lnew {its : List Value} {t' : Nat} (I : Inv X pins σ H s) (hv : Vals ys its) (hz : ys.length ≤ sizeLine) :
    Inv X pins σ (upd H s.heap.objs.size (.lst ys)) { s with heap := s.heap.push { cls := .type "list", data := .seq its.toArray }, toks := t' } :=
  I.laid (fun _ _ q => Heap.get?_push_of_some _ q) (Nat.le_refl _) ⟨hz, its, 0, hv, Heap.get?_push_size _ rfl⟩
theorem Inv.fresh (I : Inv X pins σ H s) : H s.heap.objs.size = none := I.hok.fresh (Nat.le_refl _)
theorem Inv.lstM (I : Inv X pins σ H s) (hH : H l = some (.lst xs)) : xs.length ≤ sizeLine ∧ ∃ (its : List Value) (n : Nat), Vals xs its ∧ xs.length = its.length ∧ s.heap.get? l = some { cls := .type "list", data := .seq its.toArray n } := by
  obtain ⟨z, its, n, r, e⟩ := I.hok l _ hH
  exact ⟨z, its, n, r, r.length, e⟩

theorem notLongL {n : Nat} (h : n ≤ sizeLine) : Builtin.List.listTooLong n = false := by
  unfold Builtin.List.listTooLong
  exact decide_eq_false (by omega)
end

section
variable {X : Cx}

def rAppend : V → List V → Hp → VK → Prop := fun x vs H Q => ∃ l xs y, x = .ref l ∧ vs = [y] ∧ H l = some (.lst xs) ∧ xs.length < sizeLine ∧ Q .non (upd H l (.lst (xs ++ [y])))
theorem mt_append : MtM X "list.append" rAppend := by
  intro pins s σ H x vs v us Q I rx rv h
  obtain ⟨l, xs, y, rfl, rfl, hH, hz, q⟩ := h
  cases rx
  obtain ⟨u, rfl, ru⟩ := rv.one
  obtain ⟨z, its, n, r, hl, e⟩ := I.lstM hH
  refine call_meets F.slot_list_append ⟨_, e, rfl⟩ F.entry_list_append (F.args_list_append_2 _ _) (PySem.list_append l its.toArray n u (by rw [List.size_toArray]; omega)) ⟨e, ?_⟩
  refine ⟨.non, _, I.lset (its' := its ++ [u]) hH e (by simp) (r.append (.cons ru .nil)) ?_, rfl, q⟩
  rw [List.length_append, List.length_singleton]
  omega

def rExtend : V → List V → Hp → VK → Prop := fun x vs H Q => ∃ l b xs zs, x = .ref l ∧ vs = [.ref b] ∧ H l = some (.lst xs) ∧ H b = some (.lst zs) ∧ xs.length + zs.length ≤ sizeLine ∧ Q .non (upd H l (.lst (xs ++ zs)))
theorem mt_extend : MtM X "list.extend" rExtend := by
  intro pins s σ H x vs v us Q I rx rv h
  obtain ⟨l, b, xs, zs, rfl, rfl, hH, hB, hz, q⟩ := h
  cases rx
  obtain ⟨u, rfl, ru⟩ := rv.one
  cases ru
  obtain ⟨z, its, n, r, hl, e⟩ := I.lstM hH
  obtain ⟨z2, its2, n2, r2, hl2, e2⟩ := I.lstM hB
  have hsz : its.toArray.size + its2.toArray.size ≤ sizeLine := by rw [List.size_toArray, List.size_toArray]; omega
  have hlong : ¬ (!its.toArray.isEmpty && Builtin.List.listTooLong (its.toArray.size + its2.toArray.size)) = true := by
    rw [notLongL hsz, Bool.and_false]
    exact Bool.false_ne_true
  refine call_meets F.slot_list_extend ⟨_, e, rfl⟩ F.entry_list_extend (F.args_list_extend_2 _ _)
    (AutoSeq1.list_extend_list_list_0 l its.toArray n b its2.toArray n2 hlong (by rw [List.size_toArray]; omega) (by omega)) ⟨e, e2, ?_⟩
  refine ⟨.non, _, I.lset (its' := its ++ its2) hH e (by simp) (r.append r2) ?_, rfl, q⟩
  rw [List.length_append]
  omega

def rCat : R2 := fun x y H Q => ∃ l b xs zs, x = .ref l ∧ y = .ref b ∧ H l = some (.lst xs) ∧ H b = some (.lst zs) ∧ xs.length + zs.length ≤ sizeLine ∧ ∀ p, H p = none → Q (.ref p) (upd H p (.lst (xs ++ zs)))
theorem op_cat : OpR X (binaryOp .Add) rCat := by
  intro pins s σ H x y v u Q I rx ry h
  obtain ⟨l, b, xs, zs, rfl, rfl, hH, hB, hz, q⟩ := h
  cases rx
  cases ry
  obtain ⟨z, its, n, r, hl, e⟩ := I.lstM hH
  obtain ⟨z2, its2, n2, r2, hl2, e2⟩ := I.lstM hB
  refine PySem.P.add_list e e2 ?_ (by rw [List.size_toArray, List.size_toArray]; omega)
  have ea : its.toArray ++ its2.toArray = (its ++ its2).toArray := by simp
  rw [ea]
  exact ⟨.ref _, _, I.lnew (t' := s.toks) (r.append r2) (by rw [List.length_append]; omega), rfl, q _ I.fresh⟩
end

section
variable {prog : Program} {w : World} {A : Around} {E : Value → Shared → Prop} {s : Shared}
end

section
variable {X : Cx}
end
end L2

namespace Att
open PySem PySem.W PySem.Calls PyProof.Rows

theorem ints_of_wellAll {P : Params} {h : Heap} : ∀ (ns : List Int) (vs : List Value), WellAll P h vs (ns.map WData.int) → IntsAre vs ns := by
  intro ns
  induction ns with
  | nil =>
    intro vs w
    rw [List.map_nil] at w
    cases w
    exact .nil
  | cons n ns ih =>
    intro vs w
    rw [List.map_cons] at w
    cases w with
    | cons a b =>
      cases a
      exact .cons _ _ (ih _ b)

theorem script_of {l : OpenLaw} {n : Nat} (hn : l.most = some n) {P : Params} {h : Heap} {args : List WData} {vals : List Value}
    (hpre : l.row.toRowW.claim.pre args = true) (hwl : WellAll P h vals args) :
    ∃ a vs ns, vals = [Value.ref a] ∧ args = [WData.list (ns.map WData.int)] ∧ h.get? a = some { cls := .type "list", data := .seq vs.toArray } ∧ IntsAre vs ns ∧ ns.length ≤ n := by
  have hsh : WShape.hasAll [] args [.list .int] = true := (pre_splitW hpre).1
  have hc : l.pre.holds [] { args := args } = true := (pre_splitW hpre).2
  obtain ⟨d, r, rfl, h1, h2⟩ := hasAllW_cons hsh
  obtain rfl := hasAllW_nil h2
  obtain ⟨xs, rfl, h3⟩ := hasW_list h1
  obtain ⟨ns, rfl⟩ := items_int h3
  have hlen : ns.length ≤ n := by
    unfold OpenLaw.pre at hc
    have h4 : (WTm.not (.lt (.lit (.int (n : Int))) (.len (.arg 0)))).holds [] { args := [.list (ns.map .int)] } = true := by
      have h4 := (holds_andW hc).1
      rw [hn] at h4
      exact h4
    have h5 := condW_of h4 (w_not (w_lt w_lit (w_len_list (w_arg rfl))))
    rw [List.length_map] at h5
    refine Nat.le_of_not_lt fun q => ?_
    have q' : (n : Int) < ((ns.length : Nat) : Int) := by omega
    first
      | (rw [decide_eq_true q'] at h5; exact absurd h5 (by decide))
      | (simp at h5; omega)
  cases hwl with
  | cons w1 w2 =>
    cases w2
    cases w1 with
    | list ho hall => exact ⟨_, _, ns, rfl, rfl, ho, ints_of_wellAll ns _ hall, hlen⟩

theorem post_true (l : OpenLaw) (args : List WData) : l.row.toRowW.claim.post args (.bool true) args = true :=
  postW_of (r := l.row.toRowW) (X := (true == true))
    (show WShape.has [] (.bool true) .bool = true by first | rfl | decide | simp [WShape.has, WShape.arms, WShape.armsAll])
    (show (WTm.eq .res (.lit (.bool true))).value [] { args := args, res := some (.bool true), after := args } = some (.bool (true == true)) from w_eq_bool (w_res rfl) w_lit) rfl

section
variable {prog : Program} {w : World} {A : Around} {E : Value → Shared → Prop} {s : Shared} {K : Frag}

end
end Att

namespace L2
open PySem PySem.Spec PyProof.Rows

theorem vals_ints : ∀ {vs : List Value} {ns : List Int}, IntsAre vs ns → Vals (ns.map V.int) vs
  | _, _, .nil => .nil
  | _, _, .cons n t h => .cons ⟨t, rfl⟩ (vals_ints h)

def Only (H : Hp) : Prop := ∀ b, H b = none ∨ ∃ o xs, H b = some (.frz o (.lst xs))

theorem law_call {P : Program} {w : World} {K : PySem.W.Frag} {mg mb : Str → Option Value} {CX : CXT} {k : Nat} {fa a : Addr} {fd : FuncData} {x : Str} {sp : Sp} {s₁ : Shared} {vs : List Value} {ns : List Int}
    (KX : K.In s₁.heap) (hns : s₁.heap.Ns mainGlobals mg) (hb : s₁.heap.Ns builtinsNs mb) (hbb : ∀ x : Str, x ≠ "__name__" → mb x = bootBuiltins x) (hlim : s₁.heap.NoLimit) (hg : s₁.gens = #[])
    (ha : s₁.heap.get? a = some { cls := .type "list", data := .seq vs.toArray }) (hi : IntsAre vs ns) (hl : ns.length ≤ sizeLine) (hr : Room k callerA)
    (F : ∀ base : Heap, K.In base → base.Ns mainGlobals mg → FnOk P w K mg base CX k fa fd [x] sp) (hbind : ∀ (s : Shared) (u : Value), BindsTo s fd ⟨[u], []⟩ [(x, u)])
    (hsp : ∀ H : Hp, Only H → SqL K H a (ns.map V.int) → sp [.ref a] H (fun v _ => v = .bl true) fun _ _ _ => False)
    (hCX : ∀ H e s', CX [] H s₁ (fun _ _ _ => False) e s' → False) :
    codeAny (model P w) callerA (.call (.ref fa) ⟨[.ref a], []⟩) (fun r s' => r = .ok (.ret (.bool true)) ∧ OldK s₁.heap s'.heap ∧ s'.os = s₁.os ∧ AllBare s'.gens) s₁ := by
  have rv := vals_ints hi
  have lenV := hi.length
  have core : ∀ H : Hp, Only H → SqL K H a (ns.map V.int) → HOk P w H s₁.heap → (∀ b, H b ≠ none → b = a) → (H a ≠ none → K.lookup a = none) →
      codeAny (model P w) callerA (.call (.ref fa) ⟨[.ref a], []⟩) (fun r s' => r = .ok (.ret (.bool true)) ∧ OldK s₁.heap s'.heap ∧ s'.os = s₁.os ∧ AllBare s'.gens) s₁ := by
    intro H hO hS hok hA hK
    have base_of : ∀ {b : Addr} {o : Obj}, s₁.heap.get? b = some o → H b = none → (hidT s₁.heap H).get? b = some o := fun e n => hidT_get e n
    have noA : ∀ {b : Addr} {o : Obj} {es : Array DictEntry} {ep : Nat}, s₁.heap.get? b = some o → o.data = .dict es ep → H b = none := fun {b o es ep} e d => by
      cases q : H b with
      | none => rfl
      | some u =>
        have e' : b = a := hA b (by rw [q]; simp)
        subst e'
        rw [ha] at e; cases e
        have d' : Data.seq vs.toArray _ = Data.dict es ep := d
        cases d'
    have nsK : ∀ {b : Addr} {m : Str → Option Value}, s₁.heap.Ns b m → (hidT s₁.heap H).Ns b m := fun {b m} ⟨o, es, ep, e, d, r⟩ => ⟨o, es, ep, base_of e (noA e d), d, r⟩
    have hKb : K.In (hidT s₁.heap H) := fun b o e => base_of (KX b o e) (by
      cases q : H b with
      | none => rfl
      | some u =>
        have e' : b = a := hA b (by rw [q]; simp)
        subst e'
        rw [hK (by rw [q]; simp)] at e; cases e)
    have hM : Mod K mg (hidT s₁.heap H) := ⟨hKb, nsK hns, ⟨mb, nsK hb, hbb⟩, let ⟨mc, h1, h2⟩ := hlim; ⟨mc, nsK h1, h2⟩⟩
    have e0 : Env0 P w K mg (hidT s₁.heap H) callerA [] s₁ H := ⟨rfl, hM, fun b o e => of_hidT e, Nat.le_of_eq (hidT_size _ _), trivial, fun b hb => absurd (show b ∈ ([] : List Addr) from hb) (by simp), hok, .of_eq hg⟩
    refine codeAny_mono ((F _ hKb (nsK hns)).run callerA [] s₁ H ⟨[.ref a], []⟩ [.ref a] [.ref a] _ _ hr e0 (hbind s₁ (.ref a)) (.cons rfl .nil) (hsp H hO hS)) fun r s' h => ?_
    cases r with
    | error e => exact (hCX H e s' h).elim
    | ok fl =>
      cases fl with
      | next => exact False.elim h
      | brk => exact False.elim h
      | cont => exact False.elim h
      | ret u =>
        obtain ⟨v, H', os, bare, un, hok', r', q⟩ := h
        have q' : v = .bl true := q
        subst q'
        obtain rfl : u = Value.bool true := r'
        refine ⟨rfl, OldK.of_keep fun b o e => ?_, os, bare⟩
        cases q : H b with
        | none => exact un.keep b o e q (by intro z; exact absurd (show b ∈ ([] : List Addr) from z) (by simp)) (by simp)
        | some u =>
          rcases hO b with z | ⟨ob, xs, z⟩
          · rw [q] at z; cases z
          · have z2 := un.frzs b ob _ z
            obtain ⟨e1, _⟩ := hok b _ z
            obtain ⟨e2, _⟩ := hok' b _ z2
            rw [e] at e1; cases e1
            exact e2
  cases hk : K.lookup a with
  | some o =>
    have e := KX a o hk
    rw [ha] at e
    cases e
    refine core (fun _ => none) (fun _ => .inl rfl) (.inr ⟨_, vs.toArray, _, hk, rfl, rfl, rfl, by rw [List.size_toArray, lenV]; exact hl, by simpa using rv⟩) (fun b u z => by have z' : (none : Option HO) = some u := z; cases z') (fun b z => absurd rfl z) fun z => absurd rfl z
  | none =>
    refine core (fun b => if b = a then some (.frz { cls := .type "list", data := .seq vs.toArray } (.lst (ns.map V.int))) else none) (fun b => ?_) (.inl (.inr ⟨{ cls := .type "list", data := .seq vs.toArray }, if_pos rfl⟩)) (fun b u z => ?_) (fun b z => ?_) fun _ => hk
    · by_cases hb : b = a
      · exact .inr ⟨_, _, if_pos hb⟩
      · exact .inl (if_neg hb)
    · by_cases hb : b = a
      · have z' := (if_pos hb).symm.trans z
        cases z'
        subst hb
        exact ⟨ha, by rw [List.length_map]; exact hl, vs, _, rv, ha⟩
      · have z' := (if_neg hb).symm.trans z
        cases z'
    · by_cases hb : b = a
      · exact hb
      · exact absurd (if_neg hb) z
end L2

namespace L2
open PySem PySem.Spec PyProof.Rows

end L2


namespace L2
open PySem PySem.Spec PyProof.Rows

def inClass (s : Stmt) (j : Nat) : Stmt := match s with
  | .ClassDef _ _ _ body _ _ _ _ _ _ _ => body.getD j (.Pass ⟨0, 0, 0, 0⟩)
  | _ => .Pass ⟨0, 0, 0, 0⟩
def defArgs (s : Stmt) : Arguments := match s with
  | .FunctionDef _ a _ _ _ _ _ _ _ _ => a
  | _ => { posonlyargs := [], args := [], vararg := none, kwonlyargs := [], kw_defaults := [], kwarg := none, defaults := [] }
def defBody (s : Stmt) : List Stmt := match s with
  | .FunctionDef _ _ b _ _ _ _ _ _ _ => b
  | _ => []
def defScope (s : Stmt) : Scope := match s with
  | .FunctionDef _ _ _ _ _ _ sc _ _ _ => sc
  | _ => { kind := .function, names := [], isGenerator := false, isCoroutine := false }

abbrev E0 : XK := fun _ _ _ => False
structure Fun (K : PySem.W.Frag) (x qual : Str) (st : Stmt) (f : Addr) (fd : FuncData) : Prop where
  ex : ∃ (oc : Value) (od : Option Addr) (kV doc pm : Value) (an : Option Addr) (cdv ct : Value) (osl : Array (Option Value)),
    fd = PySem.W.fnOf x qual (defArgs st) (defBody st) (defScope st) .none kV doc pm an cdv ct ∧ K.lookup f = some ⟨oc, od, .func fd, osl⟩ ∧ PySem.W.codeIn K cdv qual = true
  kp : PySem.W.keepIn K (.ref f) = true
section
variable {P : Program} {w : World} {K : PySem.W.Frag} {mg : Str → Option Value} {base : Heap}
theorem Fun.binds {x qual : Str} {st : Stmt} {f : Addr} {fd : FuncData} {ps : List Str} (F : Fun K x qual st f fd)
    (h : ∀ (kV doc pm : Value) (an : Option Addr) (cdv ct : Value) (us : List Value), us.length = ps.length → bindArgs (PySem.W.fnOf x qual (defArgs st) (defBody st) (defScope st) .none kV doc pm an cdv ct) ⟨us, []⟩ = pure (ps.zip us)) : Binds K fd ps [] := by
  obtain ⟨oc, od, kV, doc, pm, an, cdv, ct, osl, rfl, lk, hcd⟩ := F.ex
  exact .all (h kV doc pm an cdv ct)
theorem fun_mk {x qual : Str} {st : Stmt} {f : Addr} {oc : Value} {od an : Option Addr} {osl : Array (Option Value)} {kV doc pm cdv ct : Value} (l : K.lookup f = some ⟨oc, od, .func (PySem.W.fnOf x qual (defArgs st) (defBody st) (defScope st) .none kV doc pm an cdv ct), osl⟩)
    (c : PySem.W.codeIn K cdv qual = true) (k : PySem.W.keepIn K (.ref f) = true) : Fun K x qual st f (PySem.W.fnOf x qual (defArgs st) (defBody st) (defScope st) .none kV doc pm an cdv ct) := ⟨⟨oc, od, kV, doc, pm, an, cdv, ct, osl, rfl, l, c⟩, k⟩
end
section
variable {X : Cx}
theorem pv (i : Nat) {x : Str} {pos : Pos} (hN : X.N[i]? = some x := by rfl) (hv : Vis X.env.scope x := by first | exact Or.inl rfl | exact Or.inr (Or.inl rfl) | exact Or.inr (Or.inr rfl)) (hd : (x == ("__debug__" : Str)) = false := by decide)
    (hcd : (x == ("__classdict__" : Str)) = false := by decide) : PE X (.Name x pos) (tVar i) := pe_var hN hv hd hcd
end

theorem iteF {A B : Prop} (h : B) : if false = true then A else B := by
  rw [if_neg Bool.false_ne_true]
  exact h
theorem iteT {A B : Prop} (h : A) : if true = true then A else B := by
  rw [if_pos rfl]
  exact h
theorem ite2 {c A B : Prop} [Decidable c] (h1 : c → A) (h2 : ¬ c → B) : if c then A else B := by
  by_cases h : c
  · rw [if_pos h]
    exact h1 h
  · rw [if_neg h]
    exact h2 h
def Same (H H' : Hp) : Prop := ∀ b o, H b = some o → H' b = some o
theorem Same.refl (H : Hp) : Same H H := fun _ _ h => h
theorem Same.trans {H H1 H2 : Hp} (a : Same H H1) (b : Same H1 H2) : Same H H2 := fun c o h => b c o (a c o h)
theorem Same.free {H H' : Hp} (e : Same H H') {l : Addr} (h : H' l = Option.none) : H l = Option.none := by
  cases q : H l with
  | none => rfl
  | some o =>
    rw [e l o q] at h
    cases h
theorem Same.seq {K : PySem.W.Frag} {H H' : Hp} {a : Addr} {xs : List V} (e : Same H H') (h : SqL K H a xs) : SqL K H' a xs := by
  rcases h with (h | ⟨o, h⟩) | h
  · exact .inl (.inl (e _ _ h))
  · exact .inl (.inr ⟨o, e _ _ h⟩)
  · exact .inr h

end L2

namespace L2
open PySem PySem.Spec PyProof.Rows

end L2

namespace L2
open PySem PySem.Spec PyProof.Rows





end L2

namespace L2
open PySem PySem.Spec PyProof.Rows

section
variable {X : Cx} {pins : List (Addr × Obj)} {σ : List (Option V)} {H H' : Hp} {s : Shared} {h' : Heap}

end

end L2

namespace L2
open PySem PySem.Spec PyProof.Rows
section
variable {X : Cx}

variable {a b : Expr} {ta tb : TE} {pos : Pos}
variable {tA tB' : TT} {rest : List Expr}
end
end L2

namespace L2
open PySem PySem.Spec PyProof.Rows






end L2

namespace L2
open PySem PySem.Spec PyProof.Rows

end L2

namespace L2
open PySem PySem.Spec PyProof.Rows

section
variable {X : Cx} {a b c : Expr} {ta tb tc : TE} {pos : Pos}

end

end L2

namespace L2
open PySem PySem.Spec PyProof.Rows

section
variable {prog : Program} {w : World} {A : Around} {E : Value → Shared → Prop} {s : Shared} {K : PySem.W.Frag} {x dx C f : Addr} {mA : Str → Option Value} {name : Str} {v : Value}

end


section
variable {X : Cx} {pins : List (Addr × Obj)} {σ : St} {H : Hp} {s : Shared} {a C dx : Addr} {fs : List (Str × V)} {f : Str} {v : V} {A : Around} {E : Value → Shared → Prop}

end


end L2

namespace L2
open PySem PySem.Spec PyProof.Rows



section
variable {X : Cx} {CX : CXT} {k : Nat} {f C : Addr} {fd : FuncData} {ps : List Str} {sp : Sp} {dvs : List V} {ds : List Value} {E : XK} {x m : Str} {p pos apos : Pos} {e o : Expr} {es : List Expr} {ta : TE} {t : TA}

end


end L2

namespace L2
open PySem PySem.Spec PyProof.Rows
section
variable {X : Cx} {x : Str} {p pos : Pos} {e : Expr} {es : List Expr} {t : TA} {id T : String} {r : List V → Hp → VK → Prop}

end
end L2

namespace L2
open PySem PySem.Spec PyProof.Rows

section
variable {κ : Type} [DecidableEq κ]
end


section
variable {P : Program} {w : World} {H : Hp} {h : Heap} {a : Addr}
end

section
variable {X : Cx} {pins : List (Addr × Obj)} {σ : St} {H : Hp} {s : Shared} {a : Addr} {y v : V} {u r : Value} {o : Option V} {A : Around} {E : Value → Shared → Prop}

end

section
variable {X : Cx} {pins : List (Addr × Obj)} {σ : St} {H : Hp} {s : Shared} {a : Addr} {kvs : List (Key × V)} {k : Key} {u : Value} {A : Around} {E : Value → Shared → Prop}
end


def NoSl (i : Expr) : Prop := ∀ ov iv, subscripted i false ov iv = operate [ov, iv] (getItem ov iv)
theorem subD_of {prog : Program} {w : World} {A : Around} {E : Value → Shared → Prop} {s : Shared} {env : Env} {value slice : Expr} {pos : Pos} {T id : String} {Q : Value → Shared → Prop}
    (hl : typeLookup (.type T) "__getitem__" = pure (some (.builtin id))) (hs : NoSl slice)
    (h : wpAny (model prog w) A (eval value env) (fun o s₁ => wpAny (model prog w) A (eval slice env) (fun i s₂ => s₂.TypeIs o T ∧ wpAny (model prog w) A (getItem o i) Q E s₂) E s₁) E s) :
    wpAny (model prog w) A (eval (.Subscript value slice pos) env) Q E s := by
  refine Subscript_ (wpAny_mono h (fun o s₁ h₁ => wpAny_mono h₁ (fun i s₂ h₂ => ?_) fun _ _ x => x) fun _ _ x => x)
  obtain ⟨hT, h₂⟩ := h₂
  unfold subscriptTail
  refine wpAny_bind ?_
  rw [getitemInPython_of_ne hT.not_modules]
  refine wpAny_bind (wpAny_specialOf hT hl ?_)
  have fin : wpAny (model prog w) A (subscripted slice false o i) (fun r s₃ => wpAny (model prog w) A (letTemporaryGo value o r >>= fun _ => pure r) Q E s₃) E s₂ := by
    rw [hs o i]
    exact wpAny_operating (wpAny_mono h₂ (fun r s₃ h₃ => wpAny_bind (wpAny_letTemporaryGo (wpAny_pure h₃))) fun _ _ x => x)
  first
    | exact wpAny_pure (wpAny_bind fin)
    | exact wpAny_bind (wpAny_pure (wpAny_bind fin))
    | exact wpAny_bind fin

section
variable {X : Cx} {o i e value : Expr} {pos pos' tpos : Pos} {td ty tv : TE}
end


section
variable {X : Cx} {pos : Pos}
end

structure M1 (X : Cx) (o : Expr) (m : Str) (apos : Pos) (e : Expr) (cpos : Pos) : Prop where
  base : attributeBase o m X.env (eval o X.env) = eval o X.env
  few : ((backTo cpos (starEach [e] X.env)).all (fun x => !x.1) && (backToKw cpos (keywordEach [] X.env)).all (fun x => x.1.isSome)
    && decide (([e] : List Expr).length + ([] : List Keyword).length + (if ([] : List Keyword).isEmpty then 0 else 1) < 30)) = true
  line : (apos.endLine == cpos.line) = true
  trees : backTo cpos (starEach [e] X.env) = [(false, eval e X.env)]
structure M2 (X : Cx) (o : Expr) (m : Str) (apos : Pos) (e f : Expr) (cpos : Pos) : Prop where
  base : attributeBase o m X.env (eval o X.env) = eval o X.env
  few : ((backTo cpos (starEach [e, f] X.env)).all (fun x => !x.1) && (backToKw cpos (keywordEach [] X.env)).all (fun x => x.1.isSome)
    && decide (([e, f] : List Expr).length + ([] : List Keyword).length + (if ([] : List Keyword).isEmpty then 0 else 1) < 30)) = true
  line : (apos.endLine == cpos.line) = true
  trees : backTo cpos (starEach [e, f] X.env) = [(false, eval e X.env), (false, eval f X.env)]

section
variable {X : Cx} {pins : List (Addr × Obj)} {σ : St} {H : Hp} {s : Shared} {a : Addr} {y d : V} {u r : Value} {o : Option V} {A : Around} {E : Value → Shared → Prop}
end

section
variable {X : Cx} {o e f : Expr} {apos cpos : Pos} {td ty tx : TE}
end

section
variable {X : Cx} {pins : List (Addr × Obj)} {σ : St} {H : Hp} {s : Shared} {a : Addr} {kvs : List (Key × V)} {A : Around} {E : Value → Shared → Prop}
end


section
variable {X : Cx} {pins : List (Addr × Obj)} {σ : St} {H : Hp} {s : Shared} {a : Addr} {y : V} {u : Value} {A : Around} {E : Value → Shared → Prop}
end
end L2

namespace Att
open PySem PySem.W PySem.Calls PyProof.Rows

section
variable {prog : Program} {w : World} {A : Around} {E : Value → Shared → Prop} {s : Shared} {K : Frag}

end
end Att

namespace L2
open PySem PySem.Spec PyProof.Rows

end L2

namespace L2
open PySem PySem.Spec PyProof.Rows

end L2

namespace L2
open PySem PySem.Spec PyProof.Rows

section
variable {X : Cx}
end

section
variable {κ : Type} [DecidableEq κ]
theorem nd_snoc : ∀ {l : List κ} {k : κ}, l.Nodup → ¬ k ∈ l → (l ++ [k]).Nodup
  | [], k, _, _ => by simp
  | a :: r, k, h, hk => by
    obtain ⟨h1, h2⟩ := List.nodup_cons.mp h
    show (a :: (r ++ [k])).Nodup
    refine List.nodup_cons.mpr ⟨fun m => ?_, nd_snoc h2 fun m => hk (List.mem_cons.mpr (Or.inr m))⟩
    rcases List.mem_append.mp m with q | q
    · exact h1 q
    · exact hk (List.mem_cons.mpr (Or.inl (List.mem_singleton.mp q).symm))
end
end L2


set_option maxHeartbeats 40000000
namespace G
open PySem L2
section
variable {D : Ends} {σ : St} {H H1 : Hp} {Q : VK} {t u : TS} {ta tb tc te : TE} {n : St → Hp → Prop} {r : VK} {b c : St → Hp → Prop}
theorem i_seq (h : t ⟨u ⟨n, r, b, c⟩, r, b, c⟩ σ H) : tSeq t u ⟨n, r, b, c⟩ σ H := h
theorem i_next (h : n σ H) : tNext ⟨n, r, b, c⟩ σ H := h
theorem i_drop (h : te σ H fun _ H1 => n σ H1) : tDrop te ⟨n, r, b, c⟩ σ H := h
theorem i_ret (h : te σ H r) : tRet te ⟨n, r, b, c⟩ σ H := h
theorem i_if {c' : TT} (h : c' σ H fun k H1 => if k = true then t ⟨n, r, b, c⟩ σ H1 else u ⟨n, r, b, c⟩ σ H1) : tIfS c' t u ⟨n, r, b, c⟩ σ H := h
theorem i_asg {g : TG} (h : te σ H fun x H1 => g x σ H1 n) : tAsg te g ⟨n, r, b, c⟩ σ H := h
theorem i_C {v : V} (h : Q v H) : tC v σ H Q := h
theorem i_op {f : R2} (h : ta σ H fun x H1 => tb σ H1 fun y H2 => f x y H2 Q) : tOp f ta tb σ H Q := h
theorem i_un {f : V → Hp → VK → Prop} (h : ta σ H fun x H1 => f x H1 Q) : tUn f ta σ H Q := h
def kB (q : Bool → Hp → Prop) : VK := fun x H' => ∃ k, x = .bl k ∧ q k H'
theorem i_B {k : Bool} {q : Bool → Hp → Prop} (h : q k H) : kB q (.bl k) H := ⟨k, rfl, h⟩
theorem i_test {q : Bool → Hp → Prop} (h : te σ H (kB q)) : tTest te σ H q := h
theorem i_tB {q : Bool → Hp → Prop} (h : te σ H (kB q)) : tB te σ H q := h
theorem i_and {t u : TT} {q : Bool → Hp → Prop} (h : t σ H fun k H1 => if k = true then u σ H1 q else q false H1) : tAnd t u σ H q := h
theorem i_or {t u : TT} {q : Bool → Hp → Prop} (h : t σ H fun k H1 => if k = true then q true H1 else u σ H1 q) : tOr t u σ H q := h
theorem i_not {t : TT} {q : Bool → Hp → Prop} (h : t σ H fun k H1 => q (!k) H1) : tNot t σ H q := h
theorem i_andV (h : ta σ H (kB fun k H1 => if k = true then tb σ H1 Q else Q (.bl false) H1)) : tAndV ta tb σ H Q := h
theorem i_notV (h : ta σ H (kB fun k H1 => Q (.bl (!k)) H1)) : tNotV ta σ H Q := h
theorem i_ifx {t : TT} (h : t σ H fun k H1 => if k = true then ta σ H1 Q else tb σ H1 Q) : tIf t ta tb σ H Q := h
theorem i_I0 {g : Int → Int → V} {i j : Int} (h : Q (g i j) H) : rI0 g (.int i) (.int j) H Q := ⟨i, j, rfl, rfl, h⟩
theorem i_I {C : Int → Int → Prop} {g : Int → Int → V} {i j : Int} (hc : C i j) (h : Q (g i j) H) : rI C g (.int i) (.int j) H Q := ⟨i, j, rfl, rfl, hc, h⟩
theorem i_U {g : Int → V} {i : Int} (h : Q (g i) H) : rU g (.int i) H Q := ⟨i, rfl, h⟩
theorem i_eqI {i j : Int} (h : Q (.bl (decide (i = j))) H) : rEq (.int i) (.int j) H Q := ⟨rfl, by rw [show decide (V.int i = V.int j) = decide (i = j) from decide_eq_decide.mpr ⟨fun e => V.int.inj e, fun e => by rw [e]⟩]; exact h⟩
theorem i_eqS {i j : Str} (h : Q (.bl (decide (i = j))) H) : rEq (.str i) (.str j) H Q := ⟨rfl, by rw [show decide (V.str i = V.str j) = decide (i = j) from decide_eq_decide.mpr ⟨fun e => V.str.inj e, fun e => by rw [e]⟩]; exact h⟩
theorem i_neI {i j : Int} (h : Q (.bl (!decide (i = j))) H) : rNe (.int i) (.int j) H Q := ⟨rfl, by rw [show decide (V.int i = V.int j) = decide (i = j) from decide_eq_decide.mpr ⟨fun e => V.int.inj e, fun e => by rw [e]⟩]; exact h⟩
theorem i_neS {i j : Str} (h : Q (.bl (!decide (i = j))) H) : rNe (.str i) (.str j) H Q := ⟨rfl, by rw [show decide (V.str i = V.str j) = decide (i = j) from decide_eq_decide.mpr ⟨fun e => V.str.inj e, fun e => by rw [e]⟩]; exact h⟩
def rIsN : R2 := fun x y H Q => y = .non ∧ Q (.bl (decide (x = .non))) H
def rNotN : R2 := fun x y H Q => y = .non ∧ Q (.bl (!decide (x = .non))) H
theorem i_isN0 (h : Q (.bl true) H) : rIsN .non .non H Q := ⟨rfl, h⟩
theorem i_isN1 {i : Int} (h : Q (.bl false) H) : rIsN (.int i) .non H Q := ⟨rfl, h⟩
theorem i_isN3 {i : Addr} (h : Q (.bl false) H) : rIsN (.ref i) .non H Q := ⟨rfl, h⟩
theorem i_notN0 (h : Q (.bl false) H) : rNotN .non .non H Q := ⟨rfl, h⟩
theorem i_notN1 {i : Int} (h : Q (.bl true) H) : rNotN (.int i) .non H Q := ⟨rfl, h⟩
theorem i_iteT {A B : Prop} (h : A) : if true = true then A else B := iteT h
theorem i_iteF {A B : Prop} (h : B) : if false = true then A else B := iteF h
theorem i_iteNT {A B : Prop} (h : B) : if (!true) = true then A else B := iteF h
theorem i_iteNF {A B : Prop} (h : A) : if (!false) = true then A else B := iteT h
theorem ifd {p A B : Prop} [Decidable p] (h1 : p → A) (h2 : ¬ p → B) : if decide p = true then A else B := ite2 (fun e => h1 (of_decide_eq_true e)) (fun e => h2 (fun q => e (decide_eq_true q)))
theorem ifnd {p A B : Prop} [Decidable p] (h1 : ¬ p → A) (h2 : p → B) : if (!decide p) = true then A else B := ite2 (fun e => h1 (by simpa using e)) (fun e => h2 (by simpa using e))
theorem i_nil {q : List V → Hp → Prop} (h : q [] H) : tNil σ H q := h
theorem i_cons {q : List V → Hp → Prop} {t : TA} (h : ta σ H fun x H1 => t σ H1 fun xs H2 => q (x :: xs) H2) : tCons ta t σ H q := h
theorem i_lst {t : TA} (h : t σ H fun xs H1 => xs.length ≤ sizeLine ∧ ∀ p, H1 p = none → Q (.ref p) (upd H1 p (.lst xs))) : tLst t σ H Q := h
theorem i_tup {t : TA} (h : t σ H fun xs H1 => xs.length ≤ sizeLine ∧ ∀ p, H1 p = none → Q (.ref p) (upd H1 p (.tup xs))) : tTup t σ H Q := h
theorem i_call {t : TA} {sp : Sp} {dvs : List V} {E : XK} (h : t σ H fun vs H1 => sp (vs ++ dvs) H1 Q E) : tCall sp dvs E t σ H Q := h
theorem i_CB {t : TA} {f : List V → Hp → VK → Prop} (h : t σ H fun vs H1 => f vs H1 Q) : tCB f t σ H Q := h
theorem i_make {t : TA} {sp : Sp} {dvs : List V} {E : XK} {C : Addr} (h : t σ H fun vs H1 => ∀ x dx, H1 x = none → H1 dx = none → dx ≠ x → sp (.ref x :: (vs ++ dvs)) (upd (upd H1 dx (.own x)) x (.ins C dx [])) (fun v H2 => v = .non ∧ Q (.ref x) H2) E) : tMake C sp dvs E t σ H Q := h
def kFld (K : PySem.W.Frag) (f : Str) (Q : VK) : VK := fun x H1 => ∃ a C dx fs v, x = .ref a ∧ H1 a = some (.ins C dx fs) ∧ Cls K C ∧ NoAttr K C f ∧ fs.lookup f = some v ∧ Q v H1
theorem i_fld {K : PySem.W.Frag} {f : Str} (h : ta σ H (kFld K f Q)) : tFld K ta f σ H Q := h
theorem i_fldK {K : PySem.W.Frag} {f : Str} {a C dx : Addr} {fs : List (Str × V)} {v : V} (h : H a = some (.ins C dx fs)) (hc : Cls K C) (hn : NoAttr K C f) (hl : fs.lookup f = some v) (q : Q v H) : kFld K f Q (.ref a) H := ⟨a, C, dx, fs, v, rfl, h, hc, hn, hl, q⟩
theorem i_sfld {K : PySem.W.Frag} {f : Str} {tv : TE} (h : tv σ H fun y H1 => ta σ H1 fun x H2 => ∃ a C dx fs, x = .ref a ∧ H2 a = some (.ins C dx fs) ∧ Cls K C ∧ NoAttr K C f ∧ fs.length < 1000 ∧ n σ (upd H2 a (.ins C dx (putF f y fs)))) : sFld K ta tv f ⟨n, r, b, c⟩ σ H := h
theorem i_meth {C : Addr} {m : Str} {sp : Sp} {dvs : List V} {E : XK} {t : TA} (h : ta σ H fun x H1 => ∃ a dx fs, x = .ref a ∧ H1 a = some (.ins C dx fs) ∧ fs.lookup m = none ∧ t σ H1 fun vs H2 => sp (x :: (vs ++ dvs)) H2 Q E) : tMeth C m sp dvs E ta t σ H Q := h
theorem i_noPart {q : Option Int → Hp → Prop} (h : q none H) : tNoPart σ H q := h
def kI (q : Int → Hp → Prop) : VK := fun x H1 => ∃ i, x = .int i ∧ q i H1
theorem i_part {q : Option Int → Hp → Prop} (h : te σ H (kI fun i => q (some i))) : tPart te σ H q := h
theorem i_kI {i : Int} {q : Int → Hp → Prop} (h : q i H) : kI q (.int i) H := ⟨i, rfl, h⟩
theorem i_sl {f : V → Option Int → Option Int → Hp → VK → Prop} {tl th : TO} (h : te σ H fun x H1 => tl σ H1 fun l H2 => th σ H2 fun u H3 => f x l u H3 Q) : tSl f te tl th σ H Q := h
theorem i_bm {K : PySem.W.Frag} {T : String} {f : V → List V → Hp → VK → Prop} {to : TE} {t : TA} (h : to σ H fun x H1 => tyV K T x H1 ∧ t σ H1 fun xs H2 => f x xs H2 Q) : tBM K T f to t σ H Q := h
theorem i_for {wi : TI} {g : TG} {tb : TS} (h : wi σ H fun J H1 => ∃ W : Nat → Nat → St → Hp → Prop, (∃ m, W 0 m σ H1) ∧ ∀ i m σ H, W i m σ H →
  (J.stop i H ∧ n σ H) ∨ (J.go i H ∧ ∃ N : St → Hp → Prop, (∀ σ' H', N σ' H' → ∃ m', m' < m ∧ W (i + 1) m' σ' H') ∧ ∀ x H', J.yld i H x H' → g x σ H' fun σ2 H2 => tb ⟨N, r, n, N⟩ σ2 H2)) : tFor wi g tb ⟨n, r, b, c⟩ σ H := h
theorem i_iL {K : PySem.W.Frag} {R : It → Hp → Prop} (h : te σ H fun x H1 => ∃ a, x = .ref a ∧ (∃ xs, SqL K H1 a xs) ∧ R (Itl K a) H1) : iList K te σ H R := h
theorem i_iR {ta : TA} {R : It → Hp → Prop} (h : ta σ H fun vs H1 => ∃ j : Int, vs = [.int j] ∧ -(2 ^ 62) ≤ j ∧ j < 2 ^ 62 ∧ R (Itr 0 j.toNat) H1) : iRng1 ta σ H R := h
end
theorem i_v0 {v : V} {l : St} {H : Hp} {Q : VK} (h : Q v H) : tVar 0 (some v :: l) H Q := ⟨v, rfl, h⟩
theorem i_v1 {x0 : Option V} {v : V} {l : St} {H : Hp} {Q : VK} (h : Q v H) : tVar 1 (x0 :: some v :: l) H Q := ⟨v, rfl, h⟩
theorem i_g1 {x0 : Option V} {y : Option V} {v : V} {l : St} {H : Hp} {Q : St → Hp → Prop} (h : Q (x0 :: some v :: l) H) : gName 1 v (x0 :: y :: l) H Q := h
theorem i_v2 {x0 x1 : Option V} {v : V} {l : St} {H : Hp} {Q : VK} (h : Q v H) : tVar 2 (x0 :: x1 :: some v :: l) H Q := ⟨v, rfl, h⟩
theorem i_g2 {x0 x1 : Option V} {y : Option V} {v : V} {l : St} {H : Hp} {Q : St → Hp → Prop} (h : Q (x0 :: x1 :: some v :: l) H) : gName 2 v (x0 :: x1 :: y :: l) H Q := h
theorem i_v3 {x0 x1 x2 : Option V} {v : V} {l : St} {H : Hp} {Q : VK} (h : Q v H) : tVar 3 (x0 :: x1 :: x2 :: some v :: l) H Q := ⟨v, rfl, h⟩
theorem i_g3 {x0 x1 x2 : Option V} {y : Option V} {v : V} {l : St} {H : Hp} {Q : St → Hp → Prop} (h : Q (x0 :: x1 :: x2 :: some v :: l) H) : gName 3 v (x0 :: x1 :: x2 :: y :: l) H Q := h
theorem i_v4 {x0 x1 x2 x3 : Option V} {v : V} {l : St} {H : Hp} {Q : VK} (h : Q v H) : tVar 4 (x0 :: x1 :: x2 :: x3 :: some v :: l) H Q := ⟨v, rfl, h⟩
theorem i_g4 {x0 x1 x2 x3 : Option V} {y : Option V} {v : V} {l : St} {H : Hp} {Q : St → Hp → Prop} (h : Q (x0 :: x1 :: x2 :: x3 :: some v :: l) H) : gName 4 v (x0 :: x1 :: x2 :: x3 :: y :: l) H Q := h
theorem i_v5 {x0 x1 x2 x3 x4 : Option V} {v : V} {l : St} {H : Hp} {Q : VK} (h : Q v H) : tVar 5 (x0 :: x1 :: x2 :: x3 :: x4 :: some v :: l) H Q := ⟨v, rfl, h⟩
theorem i_g5 {x0 x1 x2 x3 x4 : Option V} {y : Option V} {v : V} {l : St} {H : Hp} {Q : St → Hp → Prop} (h : Q (x0 :: x1 :: x2 :: x3 :: x4 :: some v :: l) H) : gName 5 v (x0 :: x1 :: x2 :: x3 :: x4 :: y :: l) H Q := h
theorem i_v6 {x0 x1 x2 x3 x4 x5 : Option V} {v : V} {l : St} {H : Hp} {Q : VK} (h : Q v H) : tVar 6 (x0 :: x1 :: x2 :: x3 :: x4 :: x5 :: some v :: l) H Q := ⟨v, rfl, h⟩
theorem i_g6 {x0 x1 x2 x3 x4 x5 : Option V} {y : Option V} {v : V} {l : St} {H : Hp} {Q : St → Hp → Prop} (h : Q (x0 :: x1 :: x2 :: x3 :: x4 :: x5 :: some v :: l) H) : gName 6 v (x0 :: x1 :: x2 :: x3 :: x4 :: x5 :: y :: l) H Q := h
theorem i_v7 {x0 x1 x2 x3 x4 x5 x6 : Option V} {v : V} {l : St} {H : Hp} {Q : VK} (h : Q v H) : tVar 7 (x0 :: x1 :: x2 :: x3 :: x4 :: x5 :: x6 :: some v :: l) H Q := ⟨v, rfl, h⟩
theorem i_g7 {x0 x1 x2 x3 x4 x5 x6 : Option V} {y : Option V} {v : V} {l : St} {H : Hp} {Q : St → Hp → Prop} (h : Q (x0 :: x1 :: x2 :: x3 :: x4 :: x5 :: x6 :: some v :: l) H) : gName 7 v (x0 :: x1 :: x2 :: x3 :: x4 :: x5 :: x6 :: y :: l) H Q := h
theorem i_v8 {x0 x1 x2 x3 x4 x5 x6 x7 : Option V} {v : V} {l : St} {H : Hp} {Q : VK} (h : Q v H) : tVar 8 (x0 :: x1 :: x2 :: x3 :: x4 :: x5 :: x6 :: x7 :: some v :: l) H Q := ⟨v, rfl, h⟩
theorem i_g8 {x0 x1 x2 x3 x4 x5 x6 x7 : Option V} {y : Option V} {v : V} {l : St} {H : Hp} {Q : St → Hp → Prop} (h : Q (x0 :: x1 :: x2 :: x3 :: x4 :: x5 :: x6 :: x7 :: some v :: l) H) : gName 8 v (x0 :: x1 :: x2 :: x3 :: x4 :: x5 :: x6 :: x7 :: y :: l) H Q := h
theorem i_v9 {x0 x1 x2 x3 x4 x5 x6 x7 x8 : Option V} {v : V} {l : St} {H : Hp} {Q : VK} (h : Q v H) : tVar 9 (x0 :: x1 :: x2 :: x3 :: x4 :: x5 :: x6 :: x7 :: x8 :: some v :: l) H Q := ⟨v, rfl, h⟩
theorem i_g9 {x0 x1 x2 x3 x4 x5 x6 x7 x8 : Option V} {y : Option V} {v : V} {l : St} {H : Hp} {Q : St → Hp → Prop} (h : Q (x0 :: x1 :: x2 :: x3 :: x4 :: x5 :: x6 :: x7 :: x8 :: some v :: l) H) : gName 9 v (x0 :: x1 :: x2 :: x3 :: x4 :: x5 :: x6 :: x7 :: x8 :: y :: l) H Q := h
theorem i_v10 {x0 x1 x2 x3 x4 x5 x6 x7 x8 x9 : Option V} {v : V} {l : St} {H : Hp} {Q : VK} (h : Q v H) : tVar 10 (x0 :: x1 :: x2 :: x3 :: x4 :: x5 :: x6 :: x7 :: x8 :: x9 :: some v :: l) H Q := ⟨v, rfl, h⟩
theorem i_g10 {x0 x1 x2 x3 x4 x5 x6 x7 x8 x9 : Option V} {y : Option V} {v : V} {l : St} {H : Hp} {Q : St → Hp → Prop} (h : Q (x0 :: x1 :: x2 :: x3 :: x4 :: x5 :: x6 :: x7 :: x8 :: x9 :: some v :: l) H) : gName 10 v (x0 :: x1 :: x2 :: x3 :: x4 :: x5 :: x6 :: x7 :: x8 :: x9 :: y :: l) H Q := h
theorem i_v11 {x0 x1 x2 x3 x4 x5 x6 x7 x8 x9 x10 : Option V} {v : V} {l : St} {H : Hp} {Q : VK} (h : Q v H) : tVar 11 (x0 :: x1 :: x2 :: x3 :: x4 :: x5 :: x6 :: x7 :: x8 :: x9 :: x10 :: some v :: l) H Q := ⟨v, rfl, h⟩
theorem i_g11 {x0 x1 x2 x3 x4 x5 x6 x7 x8 x9 x10 : Option V} {y : Option V} {v : V} {l : St} {H : Hp} {Q : St → Hp → Prop} (h : Q (x0 :: x1 :: x2 :: x3 :: x4 :: x5 :: x6 :: x7 :: x8 :: x9 :: x10 :: some v :: l) H) : gName 11 v (x0 :: x1 :: x2 :: x3 :: x4 :: x5 :: x6 :: x7 :: x8 :: x9 :: x10 :: y :: l) H Q := h
theorem i_v12 {x0 x1 x2 x3 x4 x5 x6 x7 x8 x9 x10 x11 : Option V} {v : V} {l : St} {H : Hp} {Q : VK} (h : Q v H) : tVar 12 (x0 :: x1 :: x2 :: x3 :: x4 :: x5 :: x6 :: x7 :: x8 :: x9 :: x10 :: x11 :: some v :: l) H Q := ⟨v, rfl, h⟩
theorem i_g12 {x0 x1 x2 x3 x4 x5 x6 x7 x8 x9 x10 x11 : Option V} {y : Option V} {v : V} {l : St} {H : Hp} {Q : St → Hp → Prop} (h : Q (x0 :: x1 :: x2 :: x3 :: x4 :: x5 :: x6 :: x7 :: x8 :: x9 :: x10 :: x11 :: some v :: l) H) : gName 12 v (x0 :: x1 :: x2 :: x3 :: x4 :: x5 :: x6 :: x7 :: x8 :: x9 :: x10 :: x11 :: y :: l) H Q := h
theorem i_v13 {x0 x1 x2 x3 x4 x5 x6 x7 x8 x9 x10 x11 x12 : Option V} {v : V} {l : St} {H : Hp} {Q : VK} (h : Q v H) : tVar 13 (x0 :: x1 :: x2 :: x3 :: x4 :: x5 :: x6 :: x7 :: x8 :: x9 :: x10 :: x11 :: x12 :: some v :: l) H Q := ⟨v, rfl, h⟩
theorem i_g13 {x0 x1 x2 x3 x4 x5 x6 x7 x8 x9 x10 x11 x12 : Option V} {y : Option V} {v : V} {l : St} {H : Hp} {Q : St → Hp → Prop} (h : Q (x0 :: x1 :: x2 :: x3 :: x4 :: x5 :: x6 :: x7 :: x8 :: x9 :: x10 :: x11 :: x12 :: some v :: l) H) : gName 13 v (x0 :: x1 :: x2 :: x3 :: x4 :: x5 :: x6 :: x7 :: x8 :: x9 :: x10 :: x11 :: x12 :: y :: l) H Q := h
end G
namespace G
open PySem L2
theorem same_new {H : Hp} {p : Addr} (h : H p = none) (o : HO) : Same H (upd H p o) := fun b u q => by rw [upd_ne (ne_of_none q h)]; exact q
def tyN (H : Hp) : V → Option String
  | .non => some "NoneType"
  | .bl _ => some "bool"
  | .int _ => some "int"
  | .str _ => some "str"
  | .ref a => match H a with
    | some (.lst _) => some "list"
    | some (.frz _ (.lst _)) => some "list"
    | some (.tup _) => some "tuple"
    | some (.dK _) => some "dict"
    | some (.dT _) => some "dict"
    | _ => none
  | _ => none
def isK (t n : String) : Option Bool := if ["int", "bool", "str", "list", "tuple", "dict"].contains n then some (t == n || (t == "bool" && n == "int")) else none
def cIsi : List V → Hp → VK → Prop := fun xs H Q => ∃ x n t k, xs = [x, .ty n] ∧ tyN H x = some t ∧ isK t n = some k ∧ Q (.bl k) H
theorem isK_int_int : isK "int" "int" = some true := by decide +kernel
theorem isK_int_bool : isK "int" "bool" = some false := by decide +kernel
theorem isK_int_str : isK "int" "str" = some false := by decide +kernel
theorem isK_int_list : isK "int" "list" = some false := by decide +kernel
theorem isK_int_tuple : isK "int" "tuple" = some false := by decide +kernel
theorem isK_int_dict : isK "int" "dict" = some false := by decide +kernel
theorem isK_bool_int : isK "bool" "int" = some true := by decide +kernel
theorem isK_bool_bool : isK "bool" "bool" = some true := by decide +kernel
theorem isK_bool_str : isK "bool" "str" = some false := by decide +kernel
theorem isK_bool_list : isK "bool" "list" = some false := by decide +kernel
theorem isK_bool_tuple : isK "bool" "tuple" = some false := by decide +kernel
theorem isK_bool_dict : isK "bool" "dict" = some false := by decide +kernel
theorem isK_str_int : isK "str" "int" = some false := by decide +kernel
theorem isK_str_bool : isK "str" "bool" = some false := by decide +kernel
theorem isK_str_str : isK "str" "str" = some true := by decide +kernel
theorem isK_str_list : isK "str" "list" = some false := by decide +kernel
theorem isK_str_tuple : isK "str" "tuple" = some false := by decide +kernel
theorem isK_str_dict : isK "str" "dict" = some false := by decide +kernel
theorem isK_NoneType_int : isK "NoneType" "int" = some false := by decide +kernel
theorem isK_NoneType_bool : isK "NoneType" "bool" = some false := by decide +kernel
theorem isK_NoneType_str : isK "NoneType" "str" = some false := by decide +kernel
theorem isK_NoneType_list : isK "NoneType" "list" = some false := by decide +kernel
theorem isK_NoneType_tuple : isK "NoneType" "tuple" = some false := by decide +kernel
theorem isK_NoneType_dict : isK "NoneType" "dict" = some false := by decide +kernel
theorem isK_list_int : isK "list" "int" = some false := by decide +kernel
theorem isK_list_bool : isK "list" "bool" = some false := by decide +kernel
theorem isK_list_str : isK "list" "str" = some false := by decide +kernel
theorem isK_list_list : isK "list" "list" = some true := by decide +kernel
theorem isK_list_tuple : isK "list" "tuple" = some false := by decide +kernel
theorem isK_list_dict : isK "list" "dict" = some false := by decide +kernel
theorem isK_tuple_int : isK "tuple" "int" = some false := by decide +kernel
theorem isK_tuple_bool : isK "tuple" "bool" = some false := by decide +kernel
theorem isK_tuple_str : isK "tuple" "str" = some false := by decide +kernel
theorem isK_tuple_list : isK "tuple" "list" = some false := by decide +kernel
theorem isK_tuple_tuple : isK "tuple" "tuple" = some true := by decide +kernel
theorem isK_tuple_dict : isK "tuple" "dict" = some false := by decide +kernel
theorem isK_dict_int : isK "dict" "int" = some false := by decide +kernel
theorem isK_dict_bool : isK "dict" "bool" = some false := by decide +kernel
theorem isK_dict_str : isK "dict" "str" = some false := by decide +kernel
theorem isK_dict_list : isK "dict" "list" = some false := by decide +kernel
theorem isK_dict_tuple : isK "dict" "tuple" = some false := by decide +kernel
theorem isK_dict_dict : isK "dict" "dict" = some true := by decide +kernel
theorem i_isiI_int {i : Int} {H : Hp} {Q : VK} (h : Q (.bl true) H) : cIsi [.int i, .ty "int"] H Q := ⟨_, _, _, _, rfl, rfl, isK_int_int, h⟩
theorem i_isiI_bool {i : Int} {H : Hp} {Q : VK} (h : Q (.bl false) H) : cIsi [.int i, .ty "bool"] H Q := ⟨_, _, _, _, rfl, rfl, isK_int_bool, h⟩
theorem i_isiI_str {i : Int} {H : Hp} {Q : VK} (h : Q (.bl false) H) : cIsi [.int i, .ty "str"] H Q := ⟨_, _, _, _, rfl, rfl, isK_int_str, h⟩
theorem i_isiS_str {i : Str} {H : Hp} {Q : VK} (h : Q (.bl true) H) : cIsi [.str i, .ty "str"] H Q := ⟨_, _, _, _, rfl, rfl, isK_str_str, h⟩
theorem i_isiL_list {a : Addr} {H : Hp} {Q : VK} {xs : List V} (hp : H a = some (.lst xs)) (h : Q (.bl true) H) : cIsi [.ref a, .ty "list"] H Q := ⟨_, _, _, _, rfl, (by show (match H a with | some (.lst _) => some "list" | some (.frz _ (.lst _)) => some "list" | some (.tup _) => some "tuple" | some (.dK _) => some "dict" | some (.dT _) => some "dict" | _ => none) = some "list"; rw [hp]), isK_list_list, h⟩
theorem i_isiT_tuple {a : Addr} {H : Hp} {Q : VK} {xs : List V} (hp : H a = some (.tup xs)) (h : Q (.bl true) H) : cIsi [.ref a, .ty "tuple"] H Q := ⟨_, _, _, _, rfl, (by show (match H a with | some (.lst _) => some "list" | some (.frz _ (.lst _)) => some "list" | some (.tup _) => some "tuple" | some (.dK _) => some "dict" | some (.dT _) => some "dict" | _ => none) = some "tuple"; rw [hp]), isK_tuple_tuple, h⟩
def cLenL (K : PySem.W.Frag) : List V → Hp → VK → Prop := fun xs H Q => ∃ p ys, xs = [.ref p] ∧ (SqL K H p ys ∨ SqT K H p ys) ∧ Q (.int ys.length) H
theorem i_lenL {K : PySem.W.Frag} {a : Addr} {H : Hp} {Q : VK} {xs : List V} (hp : SqL K H a xs) (h : Q (.int xs.length) H) : cLenL K [.ref a] H Q := ⟨a, xs, rfl, .inl hp, h⟩
def cLenS : List V → Hp → VK → Prop := fun xs H Q => ∃ z, xs = [.str z] ∧ z.length ≤ sizeLine ∧ Q (.int z.length) H
theorem i_lenS {z : Str} {H : Hp} {Q : VK} (hp : z.length ≤ sizeLine) (h : Q (.int z.length) H) : cLenS [.str z] H Q := ⟨z, rfl, hp, h⟩
theorem i_ixL {K : PySem.W.Frag} {a : Addr} {H : Hp} {Q : VK} {xs : List V} {i : Int} {v : V} (hp : SqL K H a xs) (hi : atI xs i = some v) (h : Q v H) : rIxL K (.ref a) (.int i) H Q := ⟨a, xs, i, v, rfl, rfl, hp, hi, h⟩
section
variable {K : PySem.W.Frag} {a : Addr} {xs : List V} {g : TG} {tb : TS} {σ : St} {H : Hp} {n : St → Hp → Prop} {r : VK}
theorem forL (xs : List V) (Pv : Nat → St → Hp → Prop) (h0 : Pv 0 σ H) (hl : ∀ i σ H, i ≤ xs.length → Pv i σ H → SqL K H a xs)
    (hs : ∀ i x σ H, xs[i]? = some x → Pv i σ H → g x σ H fun σ2 H2 => tb ⟨Pv (i + 1), r, n, Pv (i + 1)⟩ σ2 H2) (hd : ∀ σ H, Pv xs.length σ H → n σ H) :
    ∃ W : Nat → Nat → St → Hp → Prop, (∃ m, W 0 m σ H) ∧ ∀ i m σ H, W i m σ H →
      ((Itl K a).stop i H ∧ n σ H) ∨ ((Itl K a).go i H ∧ ∃ N : St → Hp → Prop, (∀ σ' H', N σ' H' → ∃ m', m' < m ∧ W (i + 1) m' σ' H') ∧ ∀ x H', (Itl K a).yld i H x H' → g x σ H' fun σ2 H2 => tb ⟨N, r, n, N⟩ σ2 H2) :=
  for_list (D := ⟨n, r, fun _ _ => False, fun _ _ => False⟩) Pv h0 hl hs hd
theorem forR {lo : Int} {k : Nat} (Pv : Nat → St → Hp → Prop) (h0 : Pv 0 σ H)
    (hs : ∀ i σ H, i < k → Pv i σ H → g (.int (lo + i)) σ H fun σ2 H2 => tb ⟨Pv (i + 1), r, n, Pv (i + 1)⟩ σ2 H2) (hd : ∀ σ H, Pv k σ H → n σ H) :
    ∃ W : Nat → Nat → St → Hp → Prop, (∃ m, W 0 m σ H) ∧ ∀ i m σ H, W i m σ H →
      ((Itr lo k).stop i H ∧ n σ H) ∨ ((Itr lo k).go i H ∧ ∃ N : St → Hp → Prop, (∀ σ' H', N σ' H' → ∃ m', m' < m ∧ W (i + 1) m' σ' H') ∧ ∀ x H', (Itr lo k).yld i H x H' → g x σ H' fun σ2 H2 => tb ⟨N, r, n, N⟩ σ2 H2) :=
  for_range (D := ⟨n, r, fun _ _ => False, fun _ _ => False⟩) Pv h0 hs hd
end
theorem len_ok {n : Nat} (h : n ≤ 1000000) : n ≤ sizeLine := Nat.le_trans h (by decide)
end G
namespace G
open PySem L2
def rCatS : R2 := fun x y H Q => ∃ i j, x = .str i ∧ y = .str j ∧ i.length + j.length ≤ sizeLine ∧ Q (.str (i ++ j)) H
theorem i_catS {i j : Str} {H : Hp} {Q : VK} (hz : i.length + j.length ≤ sizeLine) (h : Q (.str (i ++ j)) H) : rCatS (.str i) (.str j) H Q := ⟨i, j, rfl, rfl, hz, h⟩
theorem i_ixS {z : Str} {i : Int} {c : Nat} {H : Hp} {Q : VK} (hz : z.length ≤ sizeLine) (hi : atI z.cps.toList i = some c) (h : Q (.str ⟨#[c]⟩) H) : rIxS (.str z) (.int i) H Q := ⟨z, i, c, rfl, rfl, hz, hi, h⟩
def cutS (z : Str) (lo hi : Option Int) : Str := ⟨((z.cps.toList.drop (HT.sIx z.length 0 lo)).take (HT.sIx z.length z.length hi - HT.sIx z.length 0 lo)).toArray⟩
theorem cutS_length (z : Str) (lo hi : Option Int) : (cutS z lo hi).length ≤ z.length := by
  show (List.toArray _).size ≤ z.cps.size
  rw [List.size_toArray, List.length_take, List.length_drop, Array.length_toList]
  omega
def rSlS : V → Option Int → Option Int → Hp → VK → Prop := fun x lo hi H Q => ∃ z, x = .str z ∧ z.length ≤ sizeLine ∧ Q (.str (cutS z lo hi)) H
theorem i_slS {z : Str} {lo hi : Option Int} {H : Hp} {Q : VK} (hz : z.length ≤ sizeLine) (h : Q (.str (cutS z lo hi)) H) : rSlS (.str z) lo hi H Q := ⟨z, rfl, hz, h⟩
def rInS : R2 := fun x y H Q => ∃ c j, x = .str ⟨#[c]⟩ ∧ y = .str j ∧ Q (.bl (decide (c ∈ j.cps.toList))) H
theorem i_inS {c : Nat} {j : Str} {H : Hp} {Q : VK} (h : Q (.bl (decide (c ∈ j.cps.toList))) H) : rInS (.str ⟨#[c]⟩) (.str j) H Q := ⟨c, j, rfl, rfl, h⟩
theorem i_tyS {K : PySem.W.Frag} {z : Str} {H : Hp} {A : Prop} (h : A) : tyV K "str" (.str z) H ∧ A := ⟨rfl, h⟩
def Its (z : Str) : It := ⟨fun i _ => i < z.length, fun i H x H' => H' = H ∧ ∃ c, z.cps.toList[i]? = some c ∧ x = .str ⟨#[c]⟩, fun i _ => z.length ≤ i⟩
def iStr (te : TE) : TI := fun σ H R => te σ H fun x H1 => ∃ z, x = .str z ∧ R (Its z) H1
theorem str_len (z : Str) : z.cps.toList.length = z.length := Array.length_toList
def pick (σ : St) (j : Nat) : Option V := match σ[j]? with
  | some v => v
  | none => none
def tLC (wi : TI) (caps : List Nat) (tc : TT) (te : TE) : TE := fun σ H Q => wi σ H fun J H1 => ∃ W : Nat → Nat → List V → Hp → Prop, (∃ m, W 0 m [] H1) ∧ ∀ i m ys H, W i m ys H →
  (J.stop i H ∧ ∀ p, H p = none → Q (.ref p) (upd H p (.lst ys))) ∨
  (J.go i H ∧ ys.length < sizeLine ∧ ∀ x H', J.yld i H x H' → tc (some x :: caps.map (pick σ)) H' fun k H2 => if k = true then te (some x :: caps.map (pick σ)) H2 (fun y H3 => ∃ m', m' < m ∧ W (i + 1) m' (ys ++ [y]) H3) else ∃ m', m' < m ∧ W (i + 1) m' ys H2)
def tTrue : TT := fun _ H Q => Q true H
theorem i_true {σ : St} {H : Hp} {Q : Bool → Hp → Prop} (h : Q true H) : tTrue σ H Q := h
theorem lcS {z : Str} {caps : List Nat} {te : TE} {σ : St} {H : Hp} {Q : VK} (f : Nat → V) (hz : z.length < sizeLine)
    (hel : ∀ (c : Nat) (k : VK), k (f c) H → te (some (.str ⟨#[c]⟩) :: caps.map (pick σ)) H k) (q : ∀ p, H p = none → Q (.ref p) (upd H p (.lst (z.cps.toList.map f)))) :
    ∃ W : Nat → Nat → List V → Hp → Prop, (∃ m, W 0 m [] H) ∧ ∀ i m ys H, W i m ys H →
  ((Its z).stop i H ∧ ∀ p, H p = none → Q (.ref p) (upd H p (.lst ys))) ∨
  ((Its z).go i H ∧ ys.length < sizeLine ∧ ∀ x H', (Its z).yld i H x H' → tTrue (some x :: caps.map (pick σ)) H' fun k H2 => if k = true then te (some x :: caps.map (pick σ)) H2 (fun y H3 => ∃ m', m' < m ∧ W (i + 1) m' (ys ++ [y]) H3) else ∃ m', m' < m ∧ W (i + 1) m' ys H2) := by
  refine ⟨fun i m ys H1 => m = z.length - i ∧ i ≤ z.length ∧ ys = (z.cps.toList.take i).map f ∧ H1 = H, ⟨z.length, by simp, Nat.zero_le _, rfl, rfl⟩, ?_⟩
  rintro i m ys H1 ⟨rfl, hi, rfl, rfl⟩
  by_cases hlt : i < z.length
  · refine .inr ⟨hlt, ?_, fun x H' y => ?_⟩
    · rw [List.length_map, List.length_take, str_len]; omega
    · obtain ⟨e, c, hc, rfl⟩ := y
      subst e
      refine i_true ?_
      refine i_iteT ?_
      refine hel c _ ⟨z.length - (i + 1), by omega, rfl, hlt, ?_, rfl⟩
      rw [List.take_add_one, hc, List.map_append]
      rfl
  · have e : i = z.length := by omega
    subst e
    refine .inl ⟨Nat.le_refl _, fun p hp => ?_⟩
    rw [← str_len, List.take_length]
    exact q p hp
theorem i_lcS {ti : TE} {z : Str} {caps : List Nat} {te : TE} {σ : St} {H : Hp} {Q : VK} (f : Nat → V) (hti : ∀ k : VK, k (.str z) H → ti σ H k) (hz : z.length < sizeLine)
    (hel : ∀ (c : Nat) (k : VK), k (f c) H → te (some (.str ⟨#[c]⟩) :: caps.map (pick σ)) H k) (q : ∀ p, H p = none → Q (.ref p) (upd H p (.lst (z.cps.toList.map f)))) : tLC (iStr ti) caps tTrue te σ H Q :=
  hti _ ⟨z, rfl, lcS f hz hel q⟩
def cAll (K : PySem.W.Frag) : List V → Hp → VK → Prop := fun xs H Q => ∃ (p : Addr) (bs : List Bool), xs = [.ref p] ∧ SqL K H p (bs.map V.bl) ∧ Q (.bl (bs.all id)) H
theorem i_all {K : PySem.W.Frag} {p : Addr} {bs : List Bool} {H : Hp} {Q : VK} (hp : SqL K H p (bs.map V.bl)) (h : Q (.bl (bs.all id)) H) : cAll K [.ref p] H Q := ⟨p, bs, rfl, hp, h⟩
theorem i_chain {r r' : R2} {ta tb tc : TE} {σ : St} {H : Hp} {Q : VK} (h : ta σ H fun x H1 => tb σ H1 fun y H2 => r x y H2 (kB fun k H3 => if k = true then tc σ H3 (fun w H4 => r' y w H4 Q) else Q (.bl false) H3)) : tChain r r' ta tb tc σ H Q := h
end G
namespace G
open PySem L2
def CMulB (i j : Int) : Prop := CMul i j ∨ (i.natAbs < 2 ^ 256 ∧ j.natAbs < 2 ^ 256)
def cStrI : List V → Hp → VK → Prop := fun xs H Q => ∃ i : Int, xs = [.int i] ∧ i.natAbs.log2 < 1920 ∧ Q (.str (Str.ofString (toString i))) H
def dval (l : List Nat) : Int := l.foldl (fun (v : Int) (c : Nat) => v * 10 + ((c : Int) - 48)) 0
def cIntS : List V → Hp → VK → Prop := fun xs H Q => ∃ z : Str, xs = [.str z] ∧ 1 ≤ z.length ∧ z.length ≤ 640 ∧ (∀ c ∈ z.cps.toList, 48 ≤ c ∧ c ≤ 57) ∧ Q (.int (dval z.cps.toList)) H
theorem i_intS {z : Str} {H : Hp} {Q : VK} (h1 : 1 ≤ z.length) (h2 : z.length ≤ 640) (h3 : ∀ c ∈ z.cps.toList, 48 ≤ c ∧ c ≤ 57) (h : Q (.int (dval z.cps.toList)) H) : cIntS [.str z] H Q := ⟨z, rfl, h1, h2, h3, h⟩
def repS (z : Str) (n : Int) : Str := ⟨(List.replicate n.toNat z.cps.toList).flatten.toArray⟩
def rRepS : R2 := fun x y H Q => ∃ z k, x = .str z ∧ y = .int k ∧ 0 ≤ k ∧ k ≤ 1000 ∧ z.length ≤ 1000 ∧ ∀ t : Str, t.length ≤ 1000000 → t = repS z k → Q (.str t) H
theorem i_repS {z : Str} {k : Int} {H : Hp} {Q : VK} (h0 : 0 ≤ k) (h1 : k ≤ 1000) (h2 : z.length ≤ 1000) (h : ∀ t : Str, t.length ≤ 1000000 → t = repS z k → Q (.str t) H) : rRepS (.str z) (.int k) H Q := ⟨z, k, rfl, rfl, h0, h1, h2, h⟩
def r_startswith : V → List V → Hp → VK → Prop := fun x xs H Q => ∃ z c, x = .str z ∧ xs = [.str ⟨#[c]⟩] ∧ Q (.bl (decide (z.cps.toList[0]? = some c))) H
theorem i_starts {z : Str} {c : Nat} {H : Hp} {Q : VK} (h : Q (.bl (decide (z.cps.toList[0]? = some c))) H) : r_startswith (.str z) [.str ⟨#[c]⟩] H Q := ⟨z, c, rfl, rfl, h⟩
theorem log2_ok {i : Int} (h0 : 0 ≤ i) (h1 : i < 10 ^ 61) : i.natAbs.log2 < 1920 := by
  have e : i.natAbs < 10 ^ 61 := by
    have : (i.natAbs : Int) < 10 ^ 61 := by omega
    exact_mod_cast this
  by_cases h : i.natAbs = 0
  · rw [h]; decide
  · have e1 : (10 : Nat) ^ 61 ≤ 2 ^ 256 := by decide
    have e2 : (2 : Nat) ^ 256 ≤ 2 ^ 1920 := Nat.pow_le_pow_right (by decide) (by decide)
    exact (Nat.log2_lt h).mpr (Nat.lt_of_lt_of_le e (Nat.le_trans e1 e2))
theorem s_zero : ("0" : Str) = ⟨#[48]⟩ := by decide +kernel
theorem s_dash : ("-" : Str) = ⟨#[45]⟩ := by decide +kernel
theorem s_digits : (("0123456789" : Str)).cps.toList = [48, 49, 50, 51, 52, 53, 54, 55, 56, 57] := by decide +kernel
theorem in_digits {c : Nat} : c ∈ (("0123456789" : Str)).cps.toList ↔ 48 ≤ c ∧ c ≤ 57 := by
  rw [s_digits]
  simp only [List.mem_cons, List.not_mem_nil, or_false]
  omega
end G
namespace G
open PySem L2
structure EqD (K : PySem.W.Frag) (C : Addr) : Prop where
  eq : PySem.W.findIn K (.ref C) "__eq__" = some (some (.builtin "object.__eq__"))
  ob : PySem.W.mroIn K C (.type "object") = some true
end G
namespace G
open PySem L2
section
variable {σ : St} {H : Hp} {Q : VK} {n : St → Hp → Prop} {r : VK} {b c : St → Hp → Prop} {te : TE} {t : TA}
end
theorem i_gsub {to ti : TE} {ts : TSet} {x : V} {σ : St} {H : Hp} {Q : St → Hp → Prop} (h : to σ H fun o H1 => ti σ H1 fun i H2 => ts o i x H2 fun H3 => Q σ H3) : gSub to ti ts x σ H Q := h
def cListL (K : PySem.W.Frag) : List V → Hp → VK → Prop := fun xs H Q => ∃ (p : Addr) (ys : List V), xs = [.ref p] ∧ SqL K H p ys ∧ ∀ l, H l = none → Q (.ref l) (upd H l (.lst ys))
theorem i_listL {K : PySem.W.Frag} {H : Hp} {Q : VK} {p : Addr} {ys : List V} (h1 : SqL K H p ys) (h : ∀ l, H l = none → Q (.ref l) (upd H l (.lst ys))) : cListL K [.ref p] H Q := ⟨p, ys, rfl, h1, h⟩
def fz (S : List Addr) (H : Hp) : Hp := fun b => if b ∈ S then none else H b
def LCg (J : It) (caps : List Nat) (tc : TT) (te : TE) (σ : St) (H : Hp) (Q : VK) : Prop := ∃ W : Nat → Nat → List V → Hp → Prop, (∃ m, W 0 m [] H) ∧ ∀ i m ys H, W i m ys H →
  (J.stop i H ∧ ∀ p, H p = none → Q (.ref p) (upd H p (.lst ys))) ∨
  (J.go i H ∧ ys.length < sizeLine ∧ ∀ x H', J.yld i H x H' → tc (some x :: caps.map (pick σ)) H' fun k H2 => if k = true then te (some x :: caps.map (pick σ)) H2 (fun y H3 => ∃ m', m' < m ∧ W (i + 1) m' (ys ++ [y]) H3) else ∃ m', m' < m ∧ W (i + 1) m' ys H2)
theorem i_lcg {wi : TI} {caps : List Nat} {tc : TT} {te : TE} {σ : St} {H : Hp} {Q : VK} (h : wi σ H fun J H1 => LCg J caps tc te σ H1 Q) : tLC wi caps tc te σ H Q := h
theorem lc_src {J : It} {caps : List Nat} {tc : TT} {te : TE} {σ : St} {H : Hp} {Q : VK} (k : Nat) (hz : k ≤ 1000000) (g : Nat → Option V)
    (hstop : J.stop k H) (hgo : ∀ i, i < k → J.go i H) (hy : ∀ i x H', i < k → J.yld i H x H' → H' = H ∧ (∀ q : Bool → Hp → Prop, q (g i).isSome H → tc (some x :: caps.map (pick σ)) H q) ∧ ∀ (y : V) (q : VK), g i = some y → q y H → te (some x :: caps.map (pick σ)) H q)
    (q : ∀ p, H p = none → Q (.ref p) (upd H p (.lst ((List.range k).filterMap g)))) :
    LCg J caps tc te σ H Q := by
  refine ⟨fun i m ys H' => H' = H ∧ i ≤ k ∧ m = k - i ∧ ys = (List.range i).filterMap g, ⟨k, rfl, Nat.zero_le _, rfl, rfl⟩, ?_⟩
  rintro i m ys _ ⟨rfl, hi, rfl, rfl⟩
  by_cases hk : i = k
  · subst hk
    exact .inl ⟨hstop, q⟩
  · have hlt : i < k := by omega
    refine .inr ⟨hgo i hlt, ?_, fun x H' y => ?_⟩
    · refine Nat.lt_of_le_of_lt (Nat.le_trans (List.length_filterMap_le _ _) ?_) (show 1000000 < sizeLine by decide)
      rw [List.length_range]; omega
    · obtain ⟨rfl, h1, h2⟩ := hy i x H' hlt y
      refine h1 _ ?_
      have er : List.filterMap g (List.range (i + 1)) = List.filterMap g (List.range i) ++ (match g i with | some y => [y] | none => []) := by
        rw [List.range_succ, List.filterMap_append]
        cases e : g i with
        | none => rw [List.filterMap_cons_none e]; rfl
        | some y => rw [List.filterMap_cons_some e]; rfl
      cases e : g i with
      | none =>
        rw [e] at er
        dsimp only [Option.isSome]
        refine iteF ⟨k - (i + 1), by omega, rfl, by omega, rfl, ?_⟩
        rw [er, List.append_nil]
      | some y =>
        rw [e] at er
        dsimp only [Option.isSome]
        refine iteT (h2 y _ e ⟨k - (i + 1), by omega, rfl, by omega, rfl, ?_⟩)
        rw [er]
theorem lc_list {K : PySem.W.Frag} {a : Addr} {xs : List V} {caps : List Nat} {tc : TT} {te : TE} {σ : St} {H : Hp} {Q : VK} (hs : SqL K H a xs) (g : Nat → Option V) (hz : xs.length ≤ 1000000)
    (hy : ∀ i x, xs[i]? = some x → (∀ q : Bool → Hp → Prop, q (g i).isSome H → tc (some x :: caps.map (pick σ)) H q) ∧ ∀ (y : V) (q : VK), g i = some y → q y H → te (some x :: caps.map (pick σ)) H q)
    (q : ∀ p, H p = none → Q (.ref p) (upd H p (.lst ((List.range xs.length).filterMap g)))) :
    LCg (Itl K a) caps tc te σ H Q := by
  refine lc_src xs.length hz g ⟨xs, hs, Nat.le_refl _⟩ (fun i hi => ⟨xs, xs[i], hs, List.getElem?_eq_getElem hi⟩) (fun i x H' hi y => ?_) q
  obtain ⟨e1, e2⟩ := y
  exact ⟨e1, hy i x (e2 xs hs)⟩
theorem ixN_nat {n i : Nat} (h : i < n) : ixN n (i : Int) = some i := by
  unfold ixN
  rw [if_pos (by omega), if_pos (by omega)]; simp
theorem atI_int {α : Type} {xs : List α} {i : Int} {v : α} (h0 : 0 ≤ i) (h : xs[i.toNat]? = some v) : atI xs i = some v := by
  have e : i = ((i.toNat : Nat) : Int) := by omega
  have := atI_nat h
  rw [← e] at this; exact this
end G
namespace G
open PySem L2
inductive Al {α β : Type} (P : α → β → Prop) : List α → List β → Prop
  | nil : Al P [] []
  | cons {x : α} {y : β} {xs : List α} {ys : List β} : P x y → Al P xs ys → Al P (x :: xs) (y :: ys)
section
variable {α β : Type} {P P' : α → β → Prop} {xs : List α} {ys : List β}
end
end G
namespace G
open PySem L2
abbrev Tg := Addr → Nat × Nat
def WT (H : Hp) (T : Tg) : Prop := ∀ b, H b = none → T b = (0, 0)
structure Stp (s : Nat) (H H' : Hp) (T T' : Tg) : Prop where
  kp : ∀ b o, H b = some o → (T b).1 ≠ s → H' b = some o
  al : ∀ b o, H b = some o → ∃ o', H' b = some o'
  tg : ∀ b o, H b = some o → T' b = T b
  wt : WT H' T'
end G
namespace G
open PySem L2
theorem lc_new {J : It} {caps : List Nat} {tc : TT} {te : TE} {σ : St} {H : Hp} {Q : VK} (k : Nat) (hz : k ≤ 1000000) (R : Nat → V → Hp → Prop) (mono : ∀ i y H1 H2, R i y H1 → Same H1 H2 → R i y H2)
    (hstop : ∀ H', Same H H' → J.stop k H') (hgo : ∀ i H', i < k → Same H H' → J.go i H')
    (hy : ∀ i x H1 H', i < k → Same H H1 → J.yld i H1 x H' → H' = H1 ∧ (∀ q : Bool → Hp → Prop, q true H1 → tc (some x :: caps.map (pick σ)) H1 q) ∧ ∀ q : VK, (∀ y H2, Same H1 H2 → R i y H2 → q y H2) → te (some x :: caps.map (pick σ)) H1 q)
    (q : ∀ ys H', Same H H' → ys.length = k → (∀ (i : Nat) y, ys[i]? = some y → R i y H') → ∀ p, H' p = none → Q (.ref p) (upd H' p (.lst ys))) :
    LCg J caps tc te σ H Q := by
  refine ⟨fun i m ys H' => Same H H' ∧ i ≤ k ∧ m = k - i ∧ ys.length = i ∧ ∀ (j : Nat) y, ys[j]? = some y → R j y H', ⟨k, Same.refl _, Nat.zero_le _, rfl, rfl, fun j y e => by simp at e⟩, ?_⟩
  rintro i m ys H1 ⟨s1, hi, rfl, hl, hr⟩
  by_cases hk : i = k
  · subst hk
    exact .inl ⟨hstop H1 s1, q ys H1 s1 hl hr⟩
  · have hlt : i < k := by omega
    refine .inr ⟨hgo i H1 hlt s1, Nat.lt_of_le_of_lt (show ys.length ≤ 1000000 by omega) (show 1000000 < sizeLine by decide), fun x H' y => ?_⟩
    obtain ⟨rfl, h1, h2⟩ := hy i x H1 H' hlt s1 y
    refine h1 _ (iteT (h2 _ fun y H2 s2 r => ⟨k - (i + 1), by omega, s1.trans s2, by omega, rfl, by rw [List.length_append, hl]; rfl, fun j z e => ?_⟩))
    by_cases hj : j < ys.length
    · rw [List.getElem?_append_left hj] at e
      exact mono j z _ _ (hr j z e) s2
    · have hj' := (List.getElem?_eq_some_iff.mp e).1
      rw [List.length_append, List.length_singleton] at hj'
      have ej : j = ys.length := by omega
      subst ej
      rw [List.getElem?_append_right (Nat.le_refl _), Nat.sub_self] at e
      cases e
      rw [hl]
      exact r
theorem lc_newL {K : PySem.W.Frag} {a : Addr} {xs : List V} {caps : List Nat} {tc : TT} {te : TE} {σ : St} {H : Hp} {Q : VK} (hs : SqL K H a xs) (hz : xs.length ≤ 1000000) (R : Nat → V → Hp → Prop) (mono : ∀ i y H1 H2, R i y H1 → Same H1 H2 → R i y H2)
    (htc : ∀ x H1, ∀ q : Bool → Hp → Prop, q true H1 → tc (some x :: caps.map (pick σ)) H1 q)
    (hte : ∀ (i : Nat) x H1, xs[i]? = some x → Same H H1 → ∀ q : VK, (∀ y H2, Same H1 H2 → R i y H2 → q y H2) → te (some x :: caps.map (pick σ)) H1 q)
    (q : ∀ ys H', Same H H' → ys.length = xs.length → (∀ (i : Nat) y, ys[i]? = some y → R i y H') → ∀ p, H' p = none → Q (.ref p) (upd H' p (.lst ys))) : LCg (Itl K a) caps tc te σ H Q := by
  refine lc_new xs.length hz R mono (fun H' s => ⟨xs, s.seq hs, Nat.le_refl _⟩) (fun i H' hi s => ⟨xs, xs[i], s.seq hs, List.getElem?_eq_getElem hi⟩) (fun i x H1 H' hi s1 y => ?_) q
  obtain ⟨e1, e2⟩ := y
  exact ⟨e1, htc x H1, fun q hq => hte i x H1 (e2 xs (s1.seq hs)) s1 q hq⟩
end G
namespace G
open PySem L2 PySem.Spec PyProof.Rows
theorem boot_isinstance : bootBuiltins "isinstance" = some (.builtin "isinstance") := by decide +kernel
theorem boot_len : bootBuiltins "len" = some (.builtin "len") := by decide +kernel
theorem boot_all : bootBuiltins "all" = some (.builtin "all") := by decide +kernel
theorem boot_int : bootBuiltins "int" = some (.type "int") := by decide +kernel
theorem boot_str : bootBuiltins "str" = some (.type "str") := by decide +kernel
theorem boot_bool : bootBuiltins "bool" = some (.type "bool") := by decide +kernel
theorem boot_list : bootBuiltins "list" = some (.type "list") := by decide +kernel
theorem boot_tuple : bootBuiltins "tuple" = some (.type "tuple") := by decide +kernel
structure FunD (K : PySem.W.Frag) (x qual : Str) (st : Stmt) (f : Addr) (fd : FuncData) : Prop where
  ex : ∃ (oc : Value) (od : Option Addr) (dV kV doc pm : Value) (an : Option Addr) (cdv ct : Value) (osl : Array (Option Value)),
    fd = PySem.W.fnOf x qual (defArgs st) (defBody st) (defScope st) dV kV doc pm an cdv ct ∧ K.lookup f = some ⟨oc, od, .func fd, osl⟩ ∧ PySem.W.codeIn K cdv qual = true
  kp : PySem.W.keepIn K (.ref f) = true
section
variable {P : Program} {w : World} {K : PySem.W.Frag} {mg : Str → Option Value} {base : Heap}
theorem funD_mk {x qual : Str} {st : Stmt} {f : Addr} {oc dV : Value} {od an : Option Addr} {osl : Array (Option Value)} {kV doc pm cdv ct : Value} (l : K.lookup f = some ⟨oc, od, .func (PySem.W.fnOf x qual (defArgs st) (defBody st) (defScope st) dV kV doc pm an cdv ct), osl⟩)
    (c : PySem.W.codeIn K cdv qual = true) (k : PySem.W.keepIn K (.ref f) = true) : FunD K x qual st f (PySem.W.fnOf x qual (defArgs st) (defBody st) (defScope st) dV kV doc pm an cdv ct) := ⟨⟨oc, od, dV, kV, doc, pm, an, cdv, ct, osl, rfl, l, c⟩, k⟩
theorem bindsD {f td : Addr} {oc tc : Value} {od to_ : Option Addr} {osl ts : Array (Option Value)} {fd : FuncData} {items : Array Value} {tn : Nat} {ps : List Str} {ds : List Value} (_ : K.lookup f = some ⟨oc, od, .func fd, osl⟩) (t : K.lookup td = some ⟨tc, to_, .seq items tn, ts⟩)
    (h : ∀ us : List Value, us.length + ds.length = ps.length → ∃ k, bindArgs fd ⟨us, []⟩ = seqItems? (.ref td) >>= k ∧ k (some items) = pure (ps.zip (us ++ ds))) (hd : fd.defaults = .ref td := by rfl) : Binds K fd ps ds := by
  intro s us KX hl
  obtain ⟨k, h1, h2⟩ := h us (by rw [List.length_append] at hl; exact hl)
  exact BindsTo.of_defaults hd (KX _ _ t) rfl (by rw [h1, hd]) h2
end
section
variable {X : Cx}
theorem op_isN_ : OpR X (compareOp .Is) rIsN := op_isN
theorem op_notN_ : OpR X (compareOp .IsNot) rNotN := op_notN
theorem call_lenL : CallR X (.builtin "len") (cLenL X.K) := call_len_seq
theorem call_lenS : CallR X (.builtin "len") cLenS := call_len_str
def kk (t n : String) : Option Bool := if (Value.type t == Value.type n) = true then some true else if PySem.W.kitMeta n = true then (fastBuiltinMro t).map (·.contains (.type n)) else none
theorem kit_kk (K : PySem.W.Frag) (t n : String) : PySem.W.kitOne K (.type t) (.type n) = kk t n := rfl
theorem kk_int_int : kk "int" "int" = some true := by decide +kernel
theorem kk_int_bool : kk "int" "bool" = some false := by decide +kernel
theorem kk_int_str : kk "int" "str" = some false := by decide +kernel
theorem kk_int_list : kk "int" "list" = some false := by decide +kernel
theorem kk_int_tuple : kk "int" "tuple" = some false := by decide +kernel
theorem kk_int_dict : kk "int" "dict" = some false := by decide +kernel
theorem kk_bool_int : kk "bool" "int" = some true := by decide +kernel
theorem kk_bool_bool : kk "bool" "bool" = some true := by decide +kernel
theorem kk_bool_str : kk "bool" "str" = some false := by decide +kernel
theorem kk_bool_list : kk "bool" "list" = some false := by decide +kernel
theorem kk_bool_tuple : kk "bool" "tuple" = some false := by decide +kernel
theorem kk_bool_dict : kk "bool" "dict" = some false := by decide +kernel
theorem kk_str_int : kk "str" "int" = some false := by decide +kernel
theorem kk_str_bool : kk "str" "bool" = some false := by decide +kernel
theorem kk_str_str : kk "str" "str" = some true := by decide +kernel
theorem kk_str_list : kk "str" "list" = some false := by decide +kernel
theorem kk_str_tuple : kk "str" "tuple" = some false := by decide +kernel
theorem kk_str_dict : kk "str" "dict" = some false := by decide +kernel
theorem kk_NoneType_int : kk "NoneType" "int" = some false := by decide +kernel
theorem kk_NoneType_bool : kk "NoneType" "bool" = some false := by decide +kernel
theorem kk_NoneType_str : kk "NoneType" "str" = some false := by decide +kernel
theorem kk_NoneType_list : kk "NoneType" "list" = some false := by decide +kernel
theorem kk_NoneType_tuple : kk "NoneType" "tuple" = some false := by decide +kernel
theorem kk_NoneType_dict : kk "NoneType" "dict" = some false := by decide +kernel
theorem kk_list_int : kk "list" "int" = some false := by decide +kernel
theorem kk_list_bool : kk "list" "bool" = some false := by decide +kernel
theorem kk_list_str : kk "list" "str" = some false := by decide +kernel
theorem kk_list_list : kk "list" "list" = some true := by decide +kernel
theorem kk_list_tuple : kk "list" "tuple" = some false := by decide +kernel
theorem kk_list_dict : kk "list" "dict" = some false := by decide +kernel
theorem kk_tuple_int : kk "tuple" "int" = some false := by decide +kernel
theorem kk_tuple_bool : kk "tuple" "bool" = some false := by decide +kernel
theorem kk_tuple_str : kk "tuple" "str" = some false := by decide +kernel
theorem kk_tuple_list : kk "tuple" "list" = some false := by decide +kernel
theorem kk_tuple_tuple : kk "tuple" "tuple" = some true := by decide +kernel
theorem kk_tuple_dict : kk "tuple" "dict" = some false := by decide +kernel
theorem kk_dict_int : kk "dict" "int" = some false := by decide +kernel
theorem kk_dict_bool : kk "dict" "bool" = some false := by decide +kernel
theorem kk_dict_str : kk "dict" "str" = some false := by decide +kernel
theorem kk_dict_list : kk "dict" "list" = some false := by decide +kernel
theorem kk_dict_tuple : kk "dict" "tuple" = some false := by decide +kernel
theorem kk_dict_dict : kk "dict" "dict" = some true := by decide +kernel
theorem tyN_in {H : Hp} {x : V} {t : String} (e : tyN H x = some t) : t = "int" ∨ t = "bool" ∨ t = "str" ∨ t = "NoneType" ∨ t = "list" ∨ t = "tuple" ∨ t = "dict" := by
  unfold tyN at e
  split at e <;> (first | (cases e; simp) | (split at e <;> (first | (cases e; simp) | cases e)) | cases e)
theorem isK_in {t n : String} {k : Bool} (e : isK t n = some k) : n = "int" ∨ n = "bool" ∨ n = "str" ∨ n = "list" ∨ n = "tuple" ∨ n = "dict" := by
  unfold isK at e
  by_cases h : (["int", "bool", "str", "list", "tuple", "dict"].contains n) = true
  · simpa using h
  · rw [if_neg h] at e; cases e
theorem kk_of {H : Hp} {x : V} {t n : String} {k : Bool} (ht : tyN H x = some t) (e : isK t n = some k) : kk t n = some k := by
  rcases tyN_in ht with rfl | rfl | rfl | rfl | rfl | rfl | rfl <;> rcases isK_in e with rfl | rfl | rfl | rfl | rfl | rfl
  · rw [isK_int_int] at e; rw [kk_int_int]; exact e
  · rw [isK_int_bool] at e; rw [kk_int_bool]; exact e
  · rw [isK_int_str] at e; rw [kk_int_str]; exact e
  · rw [isK_int_list] at e; rw [kk_int_list]; exact e
  · rw [isK_int_tuple] at e; rw [kk_int_tuple]; exact e
  · rw [isK_int_dict] at e; rw [kk_int_dict]; exact e
  · rw [isK_bool_int] at e; rw [kk_bool_int]; exact e
  · rw [isK_bool_bool] at e; rw [kk_bool_bool]; exact e
  · rw [isK_bool_str] at e; rw [kk_bool_str]; exact e
  · rw [isK_bool_list] at e; rw [kk_bool_list]; exact e
  · rw [isK_bool_tuple] at e; rw [kk_bool_tuple]; exact e
  · rw [isK_bool_dict] at e; rw [kk_bool_dict]; exact e
  · rw [isK_str_int] at e; rw [kk_str_int]; exact e
  · rw [isK_str_bool] at e; rw [kk_str_bool]; exact e
  · rw [isK_str_str] at e; rw [kk_str_str]; exact e
  · rw [isK_str_list] at e; rw [kk_str_list]; exact e
  · rw [isK_str_tuple] at e; rw [kk_str_tuple]; exact e
  · rw [isK_str_dict] at e; rw [kk_str_dict]; exact e
  · rw [isK_NoneType_int] at e; rw [kk_NoneType_int]; exact e
  · rw [isK_NoneType_bool] at e; rw [kk_NoneType_bool]; exact e
  · rw [isK_NoneType_str] at e; rw [kk_NoneType_str]; exact e
  · rw [isK_NoneType_list] at e; rw [kk_NoneType_list]; exact e
  · rw [isK_NoneType_tuple] at e; rw [kk_NoneType_tuple]; exact e
  · rw [isK_NoneType_dict] at e; rw [kk_NoneType_dict]; exact e
  · rw [isK_list_int] at e; rw [kk_list_int]; exact e
  · rw [isK_list_bool] at e; rw [kk_list_bool]; exact e
  · rw [isK_list_str] at e; rw [kk_list_str]; exact e
  · rw [isK_list_list] at e; rw [kk_list_list]; exact e
  · rw [isK_list_tuple] at e; rw [kk_list_tuple]; exact e
  · rw [isK_list_dict] at e; rw [kk_list_dict]; exact e
  · rw [isK_tuple_int] at e; rw [kk_tuple_int]; exact e
  · rw [isK_tuple_bool] at e; rw [kk_tuple_bool]; exact e
  · rw [isK_tuple_str] at e; rw [kk_tuple_str]; exact e
  · rw [isK_tuple_list] at e; rw [kk_tuple_list]; exact e
  · rw [isK_tuple_tuple] at e; rw [kk_tuple_tuple]; exact e
  · rw [isK_tuple_dict] at e; rw [kk_tuple_dict]; exact e
  · rw [isK_dict_int] at e; rw [kk_dict_int]; exact e
  · rw [isK_dict_bool] at e; rw [kk_dict_bool]; exact e
  · rw [isK_dict_str] at e; rw [kk_dict_str]; exact e
  · rw [isK_dict_list] at e; rw [kk_dict_list]; exact e
  · rw [isK_dict_tuple] at e; rw [kk_dict_tuple]; exact e
  · rw [isK_dict_dict] at e; rw [kk_dict_dict]; exact e
theorem tyOf {K : PySem.W.Frag} {H : Hp} {x : V} {t : String} (e : tyN H x = some t) : TyOf K H x (.type t) := by
  cases x with
  | non => cases e; exact .non
  | bl y => cases e; exact .bl y
  | int y => cases e; exact .int y
  | str y => cases e; exact .str y
  | byt y => cases e
  | flt y => cases e
  | ty y => cases e
  | ref a =>
    have e' : (match H a with | some (.lst _) => some "list" | some (.frz _ (.lst _)) => some "list" | some (.tup _) => some "tuple" | some (.dK _) => some "dict" | some (.dT _) => some "dict" | _ => none) = some t := e
    split at e'
    · rename_i h; cases e'; exact .lst h
    · rename_i h; cases e'; exact .frz h
    · rename_i h; cases e'; exact .tup h
    · rename_i h; cases e'; exact .dK h
    · rename_i h; cases e'; exact .dT h
    · cases e'
theorem call_isi : CallR X (.builtin "isinstance") cIsi := by
  intro pins s σ H xs us Q I r h
  obtain ⟨x, n, t, k, rfl, ht, hk, q⟩ := h
  obtain ⟨u, w', rfl, rx, rn⟩ := vals2 r
  have rn' : w' = Value.type n := rn
  subst rn'
  exact isinst_ok (t := .type t) (b := k) I rx (tyOf ht) ((kit_kk _ _ _).trans (kk_of ht hk)) fun tk => ⟨.bl k, H, I.tok _, rfl, q⟩
end
end G
namespace G
open PySem L2 PySem.Spec PyProof.Rows
theorem sub_one {x : Str} {c i : Nat} : Builtin.Str.subAt x ⟨#[c]⟩ i = true ↔ x.cps.toList[i]? = some c := by
  rw [StrLaws.subAt_eq, beq_iff_eq]
  show (x.cps.toList.drop i).take 1 = [c] ↔ _
  cases e : x.cps.toList.drop i with
  | nil =>
    have : x.cps.toList[i]? = none := by
      rw [List.getElem?_eq_none_iff]
      exact List.drop_eq_nil_iff.mp e
    rw [this]
    simp
  | cons d r =>
    have : x.cps.toList[i]? = some d := by
      have h0 : (x.cps.toList.drop i)[0]? = some d := by rw [e]; rfl
      rw [List.getElem?_drop] at h0
      simpa using h0
    rw [this]
    simp
section
variable {X : Cx}
theorem op_inS : OpR X (compareOp .In) rInS := by
  intro pins s σ H x y v u Q I rx ry h
  obtain ⟨c, j, rfl, rfl, q⟩ := h
  exact op_in_str pins s σ H _ _ v u Q I rx ry ⟨_, _, rfl, rfl, by rw [StrLaws.found_one]; exact q⟩
theorem clip_sIx (n : Nat) (o : Option Int) (d : Nat) (v : Int) (h : o = some v) : max (0 : Int) (min (if v < 0 then v + n else v) n) = ((HT.sIx n d o : Nat) : Int) := by
  subst h
  show _ = (((if v < 0 then (v + (n : Int)).toNat else min v.toNat n : Nat)) : Int)
  split <;> omega
theorem slice_idx (lo hi : Option Int) (n : Nat) : Builtin.Str.strSliceIndices lo hi 1 n = Builtin.Str.strSliceIndices (some ((HT.sIx n 0 lo : Nat) : Int)) (some ((HT.sIx n n hi : Nat) : Int)) 1 n := by
  have a1 := HT.sIx_le n 0 (Nat.zero_le _) lo
  have a2 := HT.sIx_le n n (Nat.le_refl _) hi
  have e1 : max (0 : Int) (min (if ((HT.sIx n 0 lo : Nat) : Int) < 0 then ((HT.sIx n 0 lo : Nat) : Int) + n else ((HT.sIx n 0 lo : Nat) : Int)) n) = ((HT.sIx n 0 lo : Nat) : Int) := by
    rw [if_neg (by omega)]; omega
  have e2 : max (0 : Int) (min (if ((HT.sIx n n hi : Nat) : Int) < 0 then ((HT.sIx n n hi : Nat) : Int) + n else ((HT.sIx n n hi : Nat) : Int)) n) = ((HT.sIx n n hi : Nat) : Int) := by
    rw [if_neg (by omega)]; omega
  simp only [Builtin.Str.strSliceIndices, show ((1 : Int) > 0) = True from by simp, if_true]
  rw [e1, e2]
  cases lo with
  | none =>
    cases hi with
    | none => rfl
    | some j => dsimp only; rw [clip_sIx n (some j) n j rfl]; rfl
  | some i =>
    cases hi with
    | none => dsimp only; rw [clip_sIx n (some i) 0 i rfl]; rfl
    | some j => dsimp only; rw [clip_sIx n (some j) n j rfl, clip_sIx n (some i) 0 i rfl]
theorem slice_cut (z : Str) (lo hi : Option Int) : (Builtin.Str.strSliceIndices lo hi 1 z.length).filterMap (z.cps[·]?) = (z.cps.toList.drop (HT.sIx z.length 0 lo)).take (HT.sIx z.length z.length hi - HT.sIx z.length 0 lo) := by
  rw [slice_idx]
  by_cases h : HT.sIx z.length 0 lo ≤ HT.sIx z.length z.length hi
  · exact StrLaws.sliced_plain z h (HT.sIx_le _ _ (Nat.le_refl _) _)
  · have e : HT.sIx z.length z.length hi - HT.sIx z.length 0 lo = 0 := by omega
    rw [e, List.take_zero]
    have e2 : Builtin.Str.strSliceIndices (some ((HT.sIx z.length 0 lo : Nat) : Int)) (some ((HT.sIx z.length z.length hi : Nat) : Int)) 1 z.length = [] := by
      have a1 := HT.sIx_le z.length 0 (Nat.zero_le _) lo
      have a2 := HT.sIx_le z.length z.length (Nat.le_refl _) hi
      simp only [Builtin.Str.strSliceIndices, sliceRange, show ((1 : Int) > 0) = True from by simp, if_true]
      rw [if_neg (by omega : ¬ ((HT.sIx z.length 0 lo : Nat) : Int) < 0), if_neg (by omega : ¬ ((HT.sIx z.length z.length hi : Nat) : Int) < 0), if_neg (by omega)]
      rfl
    rw [e2]
    rfl
theorem part_of {v : Value} {o : Option Int} (p : IsPart v o) : ∃ q : Option (Int × Tok), v = partValue q ∧ q.map (·.1) = o := by
  cases p with
  | none => exact ⟨none, rfl, rfl⟩
  | int i t => exact ⟨some (i, t), rfl, rfl⟩
theorem sl_str : SlR X rSlS := by
  intro pins s σ H x v vl vu lo hi sl Q I rx hs pl pu h
  obtain ⟨z, rfl, hz, q⟩ := h
  obtain ⟨t, rfl⟩ := rx
  obtain ⟨ql, rfl, el⟩ := part_of pl
  obtain ⟨qu, rfl, eu⟩ := part_of pu
  refine ⟨"str", _, F.slot_str_getitem.lookup, typeIs_str _ _ _, ?_⟩
  refine wpAny_getItem_str_slice (l := ql) (u := qu) (st := none) hs rfl ?_
  have ep : (slicePicked z ql qu none).filterMap (z.cps[·]?) = (z.cps.toList.drop (HT.sIx z.length 0 lo)).take (HT.sIx z.length z.length hi - HT.sIx z.length 0 lo) := by
    unfold slicePicked
    rw [el, eu]
    exact slice_cut z lo hi
  have em : (⟨((slicePicked z ql qu none).filterMap (z.cps[·]?)).toArray⟩ : Str) = cutS z lo hi := by
    rw [ep]; rfl
  unfold sliceMade
  split
  · rename_i hw
    have hl : (slicePicked z ql qu none).length = z.length := by
      rw [Bool.and_eq_true] at hw
      exact beq_iff_eq.mp hw.2
    have hc : cutS z lo hi = z := by
      have h1 : (slicePicked z ql qu none) = Builtin.Str.strSliceIndices (some ((HT.sIx z.length 0 lo : Nat) : Int)) (some ((HT.sIx z.length z.length hi : Nat) : Int)) 1 z.length := by
        unfold slicePicked
        rw [el, eu]
        exact slice_idx lo hi z.length
      have a2 := HT.sIx_le z.length z.length (Nat.le_refl _) hi
      have a1 := HT.sIx_le z.length 0 (Nat.zero_le _) lo
      have hz0 : HT.sIx z.length 0 lo ≤ HT.sIx z.length z.length hi ∨ z.length = 0 := by
        by_cases hle : HT.sIx z.length 0 lo ≤ HT.sIx z.length z.length hi
        · exact .inl hle
        · right
          rw [h1] at hl
          have e2 : Builtin.Str.strSliceIndices (some ((HT.sIx z.length 0 lo : Nat) : Int)) (some ((HT.sIx z.length z.length hi : Nat) : Int)) 1 z.length = [] := by
            simp only [Builtin.Str.strSliceIndices, sliceRange, show ((1 : Int) > 0) = True from by simp, if_true]
            rw [if_neg (by omega : ¬ ((HT.sIx z.length 0 lo : Nat) : Int) < 0), if_neg (by omega : ¬ ((HT.sIx z.length z.length hi : Nat) : Int) < 0), if_neg (by omega)]
            rfl
          rw [e2] at hl
          exact hl.symm
      unfold cutS
      rcases hz0 with hle | h0
      · rw [h1, StrLaws.strSliceIndices_plain hle a2, List.length_map, List.length_range] at hl
        have b1 : HT.sIx z.length 0 lo = 0 := by omega
        have b2 : HT.sIx z.length z.length hi = z.length := by omega
        rw [b1, b2, List.drop_zero, Nat.sub_zero, ← str_len, List.take_length]
        all_goals rfl
      · have hcz : z.cps = #[] := Array.eq_empty_of_size_eq_zero h0
        obtain ⟨zc⟩ := z
        dsimp only at hcz
        subst hcz
        simp
    rw [hc] at q
    exact ⟨.str z, H, I, ⟨_, rfl⟩, q⟩
  · show Str.length _ ≤ sizeLine ∧ _
    rw [em]
    exact ⟨Nat.le_trans (cutS_length z lo hi) hz, .str (cutS z lo hi), H, I.tok _, ⟨_, rfl⟩, q⟩
theorem turn_asc {P : Program} {w : World} {K : PySem.W.Frag} {tg : Expr} (z : Str) (t : Tok) (it : Addr) : Turn P w K tg (Its z) [it] it (fun i h => h.IsStrIter it "str_ascii_iterator" z t i) where
  mem := by simp
  obj := fun i h st b hb => by
    have e : b = it := by simpa using hb
    subst e
    obtain ⟨o, e, c, d⟩ := st
    exact ⟨o, e, fun v z => by rw [d] at z; cases z⟩
  keep := fun i h h' st k => let ⟨o, ho, r⟩ := st; ⟨o, k it (by simp) o ho, r⟩
  item := by
    intro X hP hw hK hc i pins s σ H E I hf st hg
    subst hP hw hK
    have hlt : i < z.cps.toList.length := by rw [str_len]; exact hg
    obtain ⟨f0, f1, f2, f3, f4, f5⟩ := hf it (by simp)
    have hx : z.cps.toList[i]? = some z.cps.toList[i] := List.getElem?_eq_getElem hlt
    refine wpAny_pyNext_ascii_item st (c := z.cps.toList[i]) (by simpa using hx) fun h' st' sb => ?_
    have I1 : Inv X pins σ H { s with heap := h', toks := s.toks + 1 } := I.turned (t' := s.toks + 1) (fun b o hb e => (sb.2 b hb).trans e) f0 f1 f3 f4 f5
    obtain ⟨o, e, c, d⟩ := id st'
    exact ⟨_, rfl, go_of (s := { s with heap := h', toks := s.toks + 1 }) e c d (by decide) ⟨.str ⟨#[z.cps.toList[i]]⟩, H, I1, ⟨_, rfl⟩, ⟨rfl, _, hx, rfl⟩, st', fun b hb => (hf b hb).1⟩⟩
  done := by
    intro X hP hw hK hc i pins s σ H E I hf st hg
    subst hP hw hK
    have hge : z.cps.toList.length ≤ i := by rw [str_len]; exact hg
    obtain ⟨f0, f1, f2, f3, f4, f5⟩ := hf it (by simp)
    exact wpAny_pyNext_ascii_end (I.ok.hd hc) st (by simpa using hge) fun h' eb => ⟨rfl, I.turned (t' := s.toks) (fun b o hb e => eb b o hb e) f0 f1 f3 f4 f5⟩
  self := fun _ _ _ _ _ st h => wpAny_pyIter_striter_ascii st h
theorem turn_wide {P : Program} {w : World} {K : PySem.W.Frag} {tg : Expr} (z : Str) (t : Tok) (it : Addr) : Turn P w K tg (Its z) [it] it (fun i h => h.IsStrIter it "str_iterator" z t i) where
  mem := by simp
  obj := fun i h st b hb => by
    have e : b = it := by simpa using hb
    subst e
    obtain ⟨o, e, c, d⟩ := st
    exact ⟨o, e, fun v z => by rw [d] at z; cases z⟩
  keep := fun i h h' st k => let ⟨o, ho, r⟩ := st; ⟨o, k it (by simp) o ho, r⟩
  item := by
    intro X hP hw hK hc i pins s σ H E I hf st hg
    subst hP hw hK
    have hlt : i < z.cps.toList.length := by rw [str_len]; exact hg
    obtain ⟨f0, f1, f2, f3, f4, f5⟩ := hf it (by simp)
    have hx : z.cps.toList[i]? = some z.cps.toList[i] := List.getElem?_eq_getElem hlt
    refine wpAny_pyNext_wide_item st (c := z.cps.toList[i]) (by simpa using hx) fun h' st' sb => ?_
    have I1 : Inv X pins σ H { s with heap := h', toks := s.toks + 1 } := I.turned (t' := s.toks + 1) (fun b o hb e => (sb.2 b hb).trans e) f0 f1 f3 f4 f5
    obtain ⟨o, e, c, d⟩ := id st'
    exact ⟨_, rfl, go_of (s := { s with heap := h', toks := s.toks + 1 }) e c d (by decide) ⟨.str ⟨#[z.cps.toList[i]]⟩, H, I1, ⟨_, rfl⟩, ⟨rfl, _, hx, rfl⟩, st', fun b hb => (hf b hb).1⟩⟩
  done := by
    intro X hP hw hK hc i pins s σ H E I hf st hg
    subst hP hw hK
    have hge : z.cps.toList.length ≤ i := by rw [str_len]; exact hg
    obtain ⟨f0, f1, f2, f3, f4, f5⟩ := hf it (by simp)
    exact wpAny_pyNext_wide_end (I.ok.hd hc) st (by simpa using hge) fun h' eb => ⟨rfl, I.turned (t' := s.toks) (fun b o hb e => eb b o hb e) f0 f1 f3 f4 f5⟩
  self := fun _ _ _ _ _ st h => wpAny_pyIter_striter_wide st h
theorem pi_str {tg l : Expr} {tl : TE} (hl : PE X l tl) : PI X tg l (iStr tl) := by
  intro pins s σ H R I h
  refine thn (hl pins s σ H _ I h) fun v s1 ⟨x, H1, I1, r1, q1⟩ => ?_
  obtain ⟨z, rfl, q⟩ := q1
  obtain ⟨t, rfl⟩ := r1
  have ff : ∀ b ∈ [s1.heap.objs.size], FpOk X pins H1 b := fun b hb => by
    have e : b = s1.heap.objs.size := by simpa using hb
    subst e
    exact I1.fpOk (Nat.le_refl _) (I1.hok.fresh (Nat.le_refl _))
  cases ha : z.cps.all (· < 128) with
  | false =>
    refine wpAny_pyIter_wide ha ?_
    exact ⟨s1.heap.objs.size, [s1.heap.objs.size], _, _, H1, rfl, I1.kept (t' := s1.toks) fun b o e => Heap.get?_push_of_some _ e, turn_wide z t _, ⟨_, Heap.get?_push_size _ rfl, rfl, rfl⟩, ff, q⟩
  | true =>
    refine wpAny_pyIter_ascii ha ?_
    exact ⟨s1.heap.objs.size, [s1.heap.objs.size], _, _, H1, rfl, I1.kept (t' := s1.toks) fun b o e => Heap.get?_push_of_some _ e, turn_asc z t _, ⟨_, Heap.get?_push_size _ rfl, rfl, rfl⟩, ff, q⟩
theorem all_range (bs : List Bool) : ((List.range bs.length).all fun i => bs.getD i true) = bs.all id := by
  have e : (List.range bs.length).map (fun i => bs.getD i true) = bs := by
    apply List.ext_getElem
    · simp
    · intro i h1 h2
      simp [List.getD_eq_getElem?_getD, h2]
  conv => rhs; rw [← e]
  rw [List.all_map]
  rfl
theorem vals_bl : ∀ {bs : List Bool} {us : List Value} {i : Nat} {v : Value}, Vals (bs.map V.bl) us → us[i]? = some v → v = .bool (bs.getD i true)
  | [], _, i, v, .nil, h => by simp at h
  | b :: bs, _, 0, v, .cons r t, h => by
    simp at h
    subst h
    exact r
  | b :: bs, _, i + 1, v, .cons r t, h => by
    have := vals_bl (i := i) t (by simpa using h)
    simpa using this
theorem call_all (hc : X.calm = true) : CallR X (.builtin "all") (cAll X.K) := by
  intro pins s σ H xs us Q I r h
  obtain ⟨p, bs, rfl, hp, q⟩ := h
  obtain ⟨u, rfl, rx⟩ := vals1 r
  cases rx
  obtain ⟨its, rv, pl, hz⟩ := I.list hp
  have hlen := rv.length
  rw [List.length_map] at hlen
  have hpl : p < s.heap.objs.size := by
    obtain ⟨o, ho, _⟩ := pl.isList
    exact Heap.lt_size ho
  refine call_all_walk (wpAny_pyIter_list pl.isList ?_)
  refine ⟨s.heap.objs.size, _, _, _, _, _, fun i => bs.getD i true, rfl, Walks.list (by show X.A.in1.handled = none; exact I.ok.hd hc) s.heap.objs.size p (Nat.ne_of_lt hpl) its.toArray, ⟨⟨_, Heap.get?_push_size _ rfl, rfl, rfl⟩, pl.isList.at fun o e => Heap.get?_push_of_some _ e⟩, ?_, fun h' tk hk => ?_⟩
  · intro i v s' Q' E' hv hq
    have e : v = .bool (bs.getD i true) := vals_bl rv (by simpa using hv)
    subst e
    exact wpAny_truthy_bool hq
  · have I1 : Inv X pins σ H { s with heap := h', toks := tk } := I.kept (t' := tk) fun b o e => hk b o (by simpa using Nat.ne_of_lt (Heap.lt_size e)) (Heap.get?_push_of_some _ e)
    refine ⟨.bl (bs.all id), H, I1, ?_, q⟩
    rw [List.size_toArray, ← hlen, all_range]
    rfl
def GC (mg : Str → Option Value) (x : Str) (v : V) : Prop := ∃ u, mg x = some u ∧ RelV v u
theorem GC.pe {x : Str} {v : V} {pos : Pos} (h : GC X.mg x v) (hg : Gl X x) (hd : (x == ("__debug__" : Str)) = false := by decide) : PE X (.Name x pos) (tC v) := by
  obtain ⟨u, hm, r⟩ := h
  exact pe_glob hg hm r hd
end
end G
namespace G
open PySem L2 PySem.Spec PyProof.Rows
theorem num_len {i : Int} (h0 : 0 ≤ i) (h1 : i < 10 ^ 61) : 1 ≤ (Str.ofString (toString i)).length ∧ (Str.ofString (toString i)).length ≤ 61 := by
  refine ⟨?_, toString_length_le h0 (by decide) h1⟩
  obtain ⟨m, rfl⟩ := Int.eq_ofNat_of_zero_le h0
  have e := PySem.W.KIN.signs_num m
  have e2 : ((Str.ofString (toString ((m : Nat) : Int))).cps.toList).length = (Nat.toDigits 10 m).length := by rw [e, List.length_map]
  rw [str_len] at e2
  rw [e2]
  cases hd : Nat.toDigits 10 m with
  | nil => exact absurd hd Nat.toDigits_ne_nil
  | cons a l => rw [List.length_cons]; omega
theorem dval_nat (l : List Nat) (h : ∀ c ∈ l, 48 ≤ c ∧ c ≤ 57) : ∀ (a : Nat), l.foldl (fun (v : Int) (c : Nat) => v * 10 + ((c : Int) - 48)) (a : Int) = ((l.foldl (fun acc c => acc * 10 + (c - 48)) a : Nat) : Int) := by
  induction l with
  | nil => intro a; rfl
  | cons c l ih =>
    intro a
    have hc := h c List.mem_cons_self
    rw [List.foldl_cons, List.foldl_cons, ← ih (fun d hd => h d (List.mem_cons_of_mem _ hd))]
    congr 1
    omega
section
variable {X : Cx}
theorem call_strI : CallR X (.type "str") cStrI := call_str_int
theorem call_intS : CallR X (.type "int") cIntS := by
  intro pins s σ H xs us Q I r h
  obtain ⟨z, rfl, h1, h2, h3, q⟩ := h
  obtain ⟨u, rfl, t, rfl⟩ := vals1 r
  have hne : z.cps.toList ≠ [] := fun e => by
    have := str_len z
    rw [e] at this
    simp at this
    omega
  have hv := PySem.intText_digits (x := z) h3 hne (by omega)
  have ev : ((NumText.digitsVal z.cps.toList : Nat) : Int) = dval z.cps.toList := (dval_nat _ h3 0).symm
  rw [ev] at hv
  exact PySem.W.KIN.call_text hv h2 ⟨.int (dval z.cps.toList), H, I.tok _, ⟨_, rfl⟩, q⟩
theorem CMulB.ok {i j : Int} (h : CMulB i j) : IntMulOk i j := by
  rcases h with h | ⟨h1, h2⟩
  · exact h.ok
  · have bits : ∀ k : Int, k.natAbs < 2 ^ 256 → Builtin.Int.intBits k ≤ 2 ^ 20 := fun k hk => by
      unfold Builtin.Int.intBits
      split
      · exact Nat.zero_le _
      · rename_i hn
        have hk0 : k.natAbs ≠ 0 := fun e => hn (by simpa using e)
        have := (Nat.log2_lt hk0).mpr hk
        omega
    exact IntMulOk.of_bits (bits i h1) (bits j h2)
theorem op_mulB : OpR X (binaryOp .Mult) (rI CMulB fun i j => .int (i * j)) := opI fun _ _ _ _ _ _ _ hc q => mul_int q hc.ok
theorem mt_startswith : MtR X "str.startswith" r_startswith := by
  intro pins s σ H x xs v us Q I rx rs h
  obtain ⟨z, c, rfl, rfl, q⟩ := h
  obtain ⟨t, rfl⟩ := rx
  obtain ⟨u, rfl, t', rfl⟩ := Vals.one rs
  refine SC.startswith ⟨.bl (decide (z.cps.toList[0]? = some c)), H, I, ?_, q⟩
  show Value.bool _ = Value.bool _
  congr 1
  unfold Txt.startswith
  rw [Bool.eq_iff_iff, Bool.and_eq_true, decide_eq_true_eq, sub_one, decide_eq_true_eq]
  constructor
  · exact fun e => e.2
  · intro e
    refine ⟨?_, e⟩
    have := (List.getElem?_eq_some_iff.mp e).1
    rw [str_len] at this
    exact this
theorem mul_txt (z : Str) (k : Int) : Txt.mul z k = repS z k := by
  unfold Txt.mul repS
  have fl : ∀ (n : Nat) (acc : List Nat), List.foldl (fun x1 x2 => x1 ++ x2) acc.toArray (List.replicate n z.cps) = (acc ++ (List.replicate n z.cps.toList).flatten).toArray := by
    intro n
    induction n with
    | zero => intro acc; simp
    | succ n ih =>
      intro acc
      rw [List.replicate_succ, List.replicate_succ, List.foldl_cons, List.flatten_cons]
      have e : acc.toArray ++ z.cps = (acc ++ z.cps.toList).toArray := by simp
      rw [e, ih, List.append_assoc]
  split
  · rename_i h
    have e : k.toNat = 0 := by omega
    rw [e]
    rfl
  · rename_i h
    split
    · rename_i h2
      rw [Bool.or_eq_true] at h2
      rcases h2 with h2 | h2
      · have e : k.toNat = 1 := by have := beq_iff_eq.mp h2; omega
        rw [e]
        simp
      · have e : z.cps = #[] := Array.eq_empty_of_size_eq_zero (beq_iff_eq.mp h2)
        obtain ⟨zc⟩ := z
        dsimp only at e
        subst e
        have : ∀ n : Nat, (List.replicate n ([] : List Nat)).flatten = [] := fun n => by
          induction n with
          | zero => rfl
          | succ n ih => rw [List.replicate_succ, List.flatten_cons, ih]; rfl
        simp [this]
    · have := fl k.toNat []
      simp only [List.nil_append] at this
      show (⟨List.foldl (fun x1 x2 => x1 ++ x2) #[] (List.replicate k.toNat z.cps)⟩ : Str) = _
      rw [this]
theorem repS_len (z : Str) (k : Int) : (repS z k).length = k.toNat * z.length := by
  show (List.toArray _).size = _
  rw [List.size_toArray]
  have : ∀ n : Nat, (List.replicate n z.cps.toList).flatten.length = n * z.length := fun n => by
    induction n with
    | zero => simp
    | succ n ih => rw [List.replicate_succ, List.flatten_cons, List.length_append, ih, str_len, Nat.succ_mul, Nat.add_comm]
  exact this _
theorem op_repS : OpR X (binaryOp .Mult) rRepS := by
  intro pins s σ H x y v u Q I rx ry h
  obtain ⟨z, k, rfl, rfl, h0, h1, h2, q⟩ := h
  obtain ⟨t, rfl⟩ := rx
  obtain ⟨t', rfl⟩ := ry
  have hb : k.toNat * z.length ≤ 1000000 := Nat.le_trans (Nat.mul_le_mul (show k.toNat ≤ 1000 by omega) h2) (by decide)
  refine SB.mul ⟨?_, fun h3 _ => ?_, fun h3 _ => ?_⟩ fun t'' kk => ?_
  · simp; omega
  · intro z1
    have : (z.length : Int) ≤ 1000 := by omega
    have e : (1000 : Int) < (2 ^ 63 - 1) / k := by
      have hk : 0 < k := by omega
      rw [Int.lt_iff_add_one_le, Int.le_ediv_iff_mul_le hk]
      omega
    omega
  · unfold Builtin.Str.tooLong
    have : z.length * k.toNat ≤ 1000000 := by rw [Nat.mul_comm]; exact hb
    simp
    exact Nat.le_trans this (by decide)
  · rw [mul_txt]
    exact ⟨.str (repS z k), H, I.tok _, ⟨_, rfl⟩, q _ (by rw [repS_len]; exact hb) rfl⟩
end
end G
namespace G
open PySem L2
theorem i_strI {i : Int} {H : Hp} {Q : VK} (h0 : 0 ≤ i) (h1 : i < 10 ^ 61) (h : ∀ t : Str, t = Str.ofString (toString i) → 1 ≤ t.length → t.length ≤ 61 → Q (.str t) H) : cStrI [.int i] H Q :=
  ⟨i, rfl, log2_ok h0 h1, h _ rfl (num_len h0 h1).1 (num_len h0 h1).2⟩
end G
namespace G
open PySem L2 PySem.Spec PyProof.Rows
section
variable {X : Cx} {pins : List (Addr × Obj)} {σ : L2.St} {H : Hp} {s : Shared} {acc : Addr} {ys : List V} {its : List Value} {n : Nat}
theorem adopt (I : Inv X pins σ H s) (hf : FpOk X pins H acc) (ho : s.heap.get? acc = some { cls := .type "list", data := .seq its.toArray n }) (hv : Vals ys its) (hz : ys.length ≤ sizeLine) : Inv X pins σ (upd H acc (.lst ys)) s := by
  obtain ⟨f0, f1, f2, f3, f4, f5⟩ := hf
  have ne : ∀ b u, H b = some u → b ≠ acc := fun b u e => ne_of_none e f0
  refine I.step (h' := s.heap) (g' := s.gens) (t' := s.toks) (d' := s.drawn) (ch := [acc]) (fun b hb => ?_) (fun _ _ _ _ _ e _ => e) (fun b o _ _ _ e _ => ⟨o.slots, e⟩) (fun b o hb e h0 => ?_) (fun b o _ e => ⟨o, e⟩)
    (fun b xs e => by rw [upd_ne (ne b _ e)]; exact e) (fun b o u e => by rw [upd_ne (ne b _ e)]; exact e) (fun b ps e => ⟨#[], by rw [upd_ne (ne b _ e), e]; simp⟩) (fun m hm => hm) (fun b u e => ?_) I.bare
  · have e : b = acc := by simpa using hb
    subst e
    exact ⟨f3, f1, f4, f5⟩
  · have e : b ≠ acc := by simpa using hb
    rw [upd_ne e]; exact h0
  · by_cases hb : b = acc
    · subst hb
      rw [upd_same] at e; cases e
      exact ⟨hz, its, n, hv, ho⟩
    · rw [upd_ne hb] at e
      exact (I.hok b u e).stay (fun _ _ _ q => q) (fun c q => by rw [upd_ne (ne c _ q)]; exact q) fun c xs q => by rw [upd_ne (ne c _ q)]; exact q
theorem disown (I : Inv X pins σ (upd H acc (.lst ys)) s) (hf : FpOk X pins H acc) : Inv X pins σ H s := by
  obtain ⟨f0, f1, f2, f3, f4, f5⟩ := hf
  have back : ∀ b u, upd H acc (.lst ys) b = some u → u ≠ .lst ys → H b = some u := fun b u e hne => by
    by_cases hb : b = acc
    · subst hb
      rw [upd_same] at e; cases e; exact absurd rfl hne
    · rw [upd_ne hb] at e; exact e
  refine I.step (h' := s.heap) (g' := s.gens) (t' := s.toks) (d' := s.drawn) (ch := [acc]) (fun b hb => ?_) (fun _ _ _ _ _ e _ => e) (fun b o _ _ _ e _ => ⟨o.slots, e⟩) (fun b o hb e h0 => ?_) (fun b o _ e => ⟨o, e⟩)
    (fun b xs e => back b _ e (fun z => nomatch z)) (fun b o u e => back b _ e (fun z => nomatch z)) (fun b ps e => ⟨#[], by rw [back b _ e (fun z => nomatch z)]; simp⟩) (fun m hm => hm) (fun b u e => ?_) I.bare
  · have e : b = acc := by simpa using hb
    subst e
    exact ⟨f3, f1, f4, f5⟩
  · have e : b ≠ acc := by simpa using hb
    rw [upd_ne e] at h0; exact h0
  · have hb : b ≠ acc := ne_of_none e f0
    have e' : upd H acc (.lst ys) b = some u := by rw [upd_ne hb]; exact e
    exact (I.hok b u e').stay (fun _ _ _ q => q) (fun c q => back c _ q (fun z => nomatch z)) fun c xs q => back c _ q (fun z => nomatch z)
end
def PF (X : Cx) (ifs : List Expr) (t : TT) : Prop :=
  ∀ (pins : List (Addr × Obj)) (s : Shared) (σ : L2.St) (H : Hp) (Q : Bool → Hp → Prop), Inv X pins σ H s → t σ H Q →
    wpAny (model X.prog X.w) X.A (forIn ifs true fun c r => if r = true then do let ok ← isTrue c X.env (eval c X.env); pure (ForInStep.yield ok) else pure (ForInStep.yield r)) (TP X pins σ Q) X.xe s
theorem pf_nil {X : Cx} : PF X [] tTrue := fun _ _ _ H _ I h => wpAny_tests_nil ⟨H, I, h⟩
def cxLC (X : Cx) (scope : Scope) (cl : List (Str × Addr)) (N : List Str) (C : Addr) (s : Shared) (H : Hp) (ex : List Addr) (pn : List (Addr × Obj)) : Cx :=
  { X with N := N, s₀ := s, H₀ := H, env := compEnvC scope cl C X.env, outer := X.stack, ex := ex, fn := fun _ => false, pn := pn, xe := fun _ _ => False }
def AllIn (cells : List (Str × Addr)) : List (Str × Addr) → Prop
  | [] => True
  | p :: r => cells.lookup p.1 = some p.2 ∧ AllIn cells r
theorem AllIn.get {cells : List (Str × Addr)} : ∀ {cl : List (Str × Addr)}, AllIn cells cl → ∀ {x : Str} {c : Addr}, cl.lookup x = some c → cells.lookup x = some c
  | [], _, x, c, h => by cases h
  | (y, d) :: r, a, x, c, h => by
    cases e : (x == y) with
    | true =>
      rw [List.lookup_cons, e] at h
      have e' : x = y := beq_iff_eq.mp e
      subst e'
      cases h
      exact a.1
    | false =>
      rw [List.lookup_cons, e] at h
      exact AllIn.get a.2 h
def CapOk (X : Cx) : List Str → List Nat → Prop
  | [], [] => True
  | y :: r, j :: js => X.N[j]? = some y ∧ X.env.kindOf y = some .cell ∧ CapOk X r js
  | _, _ => False
theorem CapOk.len {X : Cx} : ∀ {ns : List Str} {js : List Nat}, CapOk X ns js → ns.length = js.length
  | [], [], _ => rfl
  | [], _ :: _, h => h.elim
  | _ :: _, [], h => h.elim
  | _ :: r, _ :: js, h => by rw [List.length_cons, List.length_cons, CapOk.len h.2.2]
theorem CapOk.get {X : Cx} {σ : L2.St} : ∀ {ns : List Str} {js : List Nat}, CapOk X ns js → ∀ {i : Nat} {x : Str} {v : V}, ns[i]? = some x → (js.map (pick σ))[i]? = some (some v) → ∃ j : Nat, X.N[j]? = some x ∧ X.env.kindOf x = some .cell ∧ σ[j]? = some (some v)
  | [], _, _, i, x, v, h, _ => by simp at h
  | _ :: _, [], h, _, _, _, _, _ => h.elim
  | y :: r, j :: js, h, 0, x, v, h1, h2 => by
    simp at h1 h2
    subst h1
    refine ⟨j, h.1, h.2.1, ?_⟩
    unfold pick at h2
    split at h2
    · rename_i e; rw [e, h2]
    · cases h2
  | y :: r, j :: js, h, i + 1, x, v, h1, h2 => CapOk.get (i := i) h.2.2 (by simpa using h1) (by simpa using h2)
theorem lk_ne {x n : Str} {k : NameKind} {r : List (Str × NameKind)} (h : (x == n) = false) : List.lookup x ((n, k) :: r) = List.lookup x r := by rw [List.lookup_cons, h]
theorem lk_eq {x n : Str} {k : NameKind} {r : List (Str × NameKind)} (h : (x == n) = true) : List.lookup x ((n, k) :: r) = some k := by rw [List.lookup_cons, h]
def relK (env : Env) (x : Str) (k : NameKind) : NameKind := if (k == NameKind.free && env.scope.kind == .function && env.kindOf x == some .cell) = true then .cell else k
theorem lookup_relabel {env : Env} {x : Str} : ∀ {names : List (Str × NameKind)},
    (names.map fun (n, k) => if (k == NameKind.free && env.scope.kind == .function && env.kindOf n == some .cell) then (n, NameKind.cell) else (n, k)).lookup x = (names.lookup x).map (relK env x)
  | [] => rfl
  | (n, k') :: r => by
    have ih := @lookup_relabel env x r
    show List.lookup x ((if (k' == NameKind.free && env.scope.kind == .function && env.kindOf n == some .cell) = true then (n, NameKind.cell) else (n, k')) :: r.map fun (n, k) => if (k == NameKind.free && env.scope.kind == .function && env.kindOf n == some .cell) then (n, NameKind.cell) else (n, k)) = _
    cases hx : x == n with
    | true =>
      have e := beq_iff_eq.mp hx
      subst e
      rw [lk_eq (k := k') hx]
      by_cases hc : (k' == NameKind.free && env.scope.kind == .function && env.kindOf x == some .cell) = true
      · rw [if_pos hc, lk_eq hx]
        show some NameKind.cell = some (relK env x k')
        unfold relK; rw [if_pos hc]
      · rw [if_neg hc, lk_eq hx]
        show some k' = some (relK env x k')
        unfold relK; rw [if_neg hc]
    | false =>
      rw [lk_ne (k := k') (r := r) hx]
      by_cases hc : (k' == NameKind.free && env.scope.kind == .function && env.kindOf n == some .cell) = true
      · rw [if_pos hc, lk_ne hx]; exact ih
      · rw [if_neg hc, lk_ne hx]; exact ih
theorem lookup_all {names : List (Str × NameKind)} {p : Str × NameKind → Bool} : ∀ {x : Str} {k : NameKind}, names.all p = true → names.lookup x = some k → p (x, k) = true := by
  induction names with
  | nil => intro x k _ h; simp at h
  | cons y r ih =>
    intro x k ha h
    obtain ⟨n, k'⟩ := y
    rw [List.all_cons, Bool.and_eq_true] at ha
    cases hx : x == n with
    | true =>
      rw [List.lookup_cons, hx] at h
      have e1 : x = n := beq_iff_eq.mp hx
      have e2 : k' = k := Option.some.inj h
      rw [e1, ← e2]; exact ha.1
    | false =>
      rw [List.lookup_cons, hx] at h
      exact ih ha.2 h
theorem compLoop_go {prog : Program} {w : World} {A : Around} {R : Result → Shared → Prop} {s : Shared} {elt target iter : Expr} {ifs : List Expr} {scope : Scope} {pos : Pos} {it acc : Value} {env : Env} (I : Nat → Shared → Prop)
    (turn : ∀ n s, I n s → wpAny (model prog w) A (pyNext it) (fun r s₁ => match r with
      | none => R (.ok .next) s₁
      | some v => wpAny (model prog w) A (letOwnedTupleGo target it v) (fun _ s₁' => wpAny (model prog w) A (assign target env v) (fun _ s₂ =>
          wpAny (model prog w) A (forIn ifs true fun c r => if r = true then do let ok ← isTrue c env (eval c env); pure (ForInStep.yield ok) else pure (ForInStep.yield r)) (fun ok s₃ =>
            if ok = true then wpAny (model prog w) A (eval elt env) (fun x s₄ =>
              wpAny (model prog w) A (call (.builtin "list.append") [acc, x]) (fun _ s₅ => ∃ m, m < n ∧ I m s₅) (fun _ _ => False) s₄) (fun _ _ => False) s₃
            else ∃ m, m < n ∧ I m s₃) (fun _ _ => False) s₂) (fun _ _ => False) s₁') (fun _ _ => False) s₁) (fun _ _ => False) s)
    (n : Nat) (h : I n s) :
    codeAny (model prog w) A (.compLoop (.ListComp elt [⟨target, iter, ifs, 0⟩] scope pos) 0 it acc env) R s := by
  refine codeAny_loop rfl I (fun n s hI => ?_) n h
  show wpAny _ A ((compTurn (.ListComp elt [⟨target, iter, ifs, 0⟩] scope pos) 0 it acc env).onRaise (fun x => do noteFrame x env; theTreesLotGoes x)) _ _ s
  refine wpAny_noted ?_
  rw [compTurn_list]
  refine wpAny_bind (wpAny_standAt (wpAny_bind (wpAny_mono (turn n s hI) (fun r s₁ h₁ => ?_) fun _ _ h' => h'.elim)))
  cases r with
  | none => exact wpAny_pure h₁
  | some v =>
    refine wpAny_bind (wpAny_mono h₁ (fun _ s₁' h₁' => ?_) fun _ _ h' => h'.elim)
    refine wpAny_bind (wpAny_mono h₁' (fun _ s₂ h₂ => wpAny_bind (wpAny_mono h₂ (fun ok s₃ h₃ => ?_) fun _ _ h' => h'.elim)) fun _ _ h' => h'.elim)
    cases ok with
    | false => exact wpAny_pure ⟨rfl, h₃⟩
    | true =>
      exact wpAny_bind (wpAny_bind (wpAny_mono h₃ (fun x s₄ h₄ => wpAny_bind (wpAny_mono h₄ (fun _ s₅ h₅ => wpAny_pure (wpAny_pure ⟨rfl, h₅⟩)) fun _ _ h' => h'.elim)) fun _ _ h' => h'.elim))
theorem lc_core {X : Cx} {elt iter tg : Expr} {pos : Pos} {ifs : List Expr} {scope : Scope} {cl : List (Str × Addr)} {wi : TI} {tc : TT} {te : TE} {cns : List Str} {ns : List Str} {gt : TG} {R : It → L2.St → Hp → VK → Prop} {use : Option (Value → Sem Unit)} {Q0 : Value → Shared → Prop} {pins : List (Addr × Obj)} {s : Shared} {σ : L2.St} {H : Hp} {Q : VK} (caps : List Nat)
    (hR : ∀ J σ H Q, R J σ H Q → ∃ W : Nat → Nat → List V → Hp → Prop, (∃ m, W 0 m [] H) ∧ ∀ i m ys H, W i m ys H →
      (J.stop i H ∧ ∀ p, H p = none → Q (.ref p) (upd H p (.lst ys))) ∨
      (J.go i H ∧ ys.length < sizeLine ∧ ∀ x H', J.yld i H x H' → ∀ vs : L2.St, vs.length = ns.length → ∃ us : L2.St, us.length = ns.length ∧ gt x (vs ++ caps.map (pick σ)) H' (fun σ2 H2 => σ2 = us ++ caps.map (pick σ) ∧ H2 = H') ∧ tc (us ++ caps.map (pick σ)) H' fun k H2 => if k = true then te (us ++ caps.map (pick σ)) H2 (fun y H3 => ∃ m', m' < m ∧ W (i + 1) m' (ys ++ [y]) H3) else ∃ m', m' < m ∧ W (i + 1) m' ys H2))
    (hi : PI X tg iter wi) (hg : ∀ C s H ex pn, PG (cxLC X scope cl (ns ++ cns) C s H ex pn) tg gt)
    (hf : ∀ C s H ex pn, PF (cxLC X scope cl (ns ++ cns) C s H ex pn) ifs tc) (he : ∀ C s H ex pn, PE (cxLC X scope cl (ns ++ cns) C s H ex pn) elt te) (hc : X.calm = true)
    (hclos : closureFor scope X.env = pure cl) (hcl : AllIn X.env.cells cl) (hcap : CapOk X cns caps)
    (hkind : scope.kind = .function) (hcell : (scope.names.all fun p => p.2 != .cell) = true) (hfree : (scope.names.all fun p => p.2 != .free || (cl.lookup p.1).isSome) = true)
    (hcf : (cns.all fun y => scope.names.lookup y == some .free) = true) (hnames : ∀ y ∈ scope.names, y.2 = .local → scope.names.lookup y.1 = some .local)
    (hs : ∀ v, foldedSetIterable iter X.env v = pure v)
    (I : Inv X pins σ H s) (h : wi σ H fun J H1 => R J σ H1 Q)
    (hend : ∀ (acc C : Addr) (s6 : Shared) (m : Str → Option Value) r0, s6.heap.Ns C m → (∀ {Hf : Hp}, Hf C = none → FpOk X pins Hf C) → (∀ h', Heap.SameBut C s6.heap h' → EP X pins σ (fun v Hf => Q v Hf ∧ Hf C = none) (.ref acc) { s6 with heap := h' }) → compPost (model X.prog X.w) X.A X.xe use Q0 (.ref acc) C (.ok r0) s6) :
    wpAny (model X.prog X.w) X.A (comprehension (.ListComp elt [⟨tg, iter, ifs, 0⟩] scope pos) scope X.env (firstIterPos [⟨tg, iter, ifs, 0⟩] pos) (newList []) (firstAsync [⟨tg, iter, ifs, 0⟩]) (firstIter [⟨tg, iter, ifs, 0⟩] X.env) use) Q0 X.xe s := by
  refine wpAny_comprehension_free rfl hs hclos hkind hnames (thn (hi pins s σ H _ I h) fun xv s1 h1 => thn h1 fun itv s2 h2 => ?_)
  obtain ⟨it, fp, tn, J, H2, rfl, I2, T, st2, f2, hr⟩ := h2
  obtain ⟨W, ⟨m0, w0⟩, turn⟩ := hR _ _ _ _ hr
  have hne : ∀ y ∈ scope.names, y.2 ≠ .cell := fun y hy e => by
    have := List.all_eq_true.mp hcell y hy
    rw [e] at this; simp at this
  refine wpAny_newObj_type (wpAny_newFunctionEnv hne (by intro y hy; simp at hy) (fun h₁ hns₁ hsb₁ => ?_) hkind)
  dsimp only at hns₁ hsb₁ ⊢
  generalize hacc : s2.heap.objs.size = acc
  generalize hH3 : s2.heap.push { cls := .type "list", dict := none, data := .seq ([] : List Value).toArray } = h3 at hns₁ hsb₁ ⊢
  have hC : h3.objs.size = acc + 1 := by rw [← hH3, Heap.size_push, hacc]
  have k23 : ∀ b o, s2.heap.get? b = some o → h3.get? b = some o := fun b o e => hH3 ▸ Heap.get?_push_of_some _ e
  have k34 : ∀ b o, h3.get? b = some o → h₁.get? b = some o := fun b o e => hsb₁.extBut b o (Nat.ne_of_lt (Heap.lt_size e)) (Heap.get?_push_of_some _ e)
  have oacc : h3.get? acc = some { cls := .type "list", dict := none, data := .seq ([] : List Value).toArray } := by
    rw [← hH3, ← hacc]; exact Heap.get?_push_size _ rfl
  have I3 : Inv X pins σ H2 { s2 with heap := h3 } := I2.kept (t' := s2.toks) k23
  have facc : FpOk X pins H2 acc := I2.fpOk (Nat.le_of_eq hacc) (I2.hok.fresh (Nat.le_of_eq hacc))
  have fpl : ∀ b ∈ fp, b < acc := fun b hb => by
    obtain ⟨o, e, _⟩ := T.obj _ _ st2 b hb
    rw [← hacc]; exact Heap.lt_size e
  have exok : ∀ b ∈ acc :: fp, FpOk X pins H2 b := fun b hb => (List.mem_cons.mp hb).elim (fun e => e ▸ facc) (f2 b)
  have exC : ∀ b ∈ acc :: fp, b ≠ h3.objs.size := fun b hb => by
    rcases List.mem_cons.mp hb with e | hb
    · rw [hC, e]; exact Nat.ne_of_lt (Nat.lt_succ_self _)
    · rw [hC]; exact Nat.ne_of_lt (Nat.lt_succ_of_lt (fpl b hb))
  have stk_no : ∀ b ∈ acc :: fp, b ∉ frs X.stack := fun b hb hm => by
    obtain ⟨_, g1, g2, _⟩ := exok b hb
    exact (List.mem_cons.mp (I2.stkSub b hm)).elim g1 g2
  let Y : Cx := cxLC X scope cl (ns ++ cns) h3.objs.size { s2 with heap := h3 } H2 (acc :: fp) (X.pn ++ pins)
  have cellsOf : ∀ y c, cl.lookup y = some c → X.env.cells.lookup y = some c := fun y c e => hcl.get e
  have kindY : ∀ y k, Y.env.kindOf y = some k → (k = .cell ∨ k = .free) → ∃ c, cl.lookup y = some c := fun y k e hk => by
    have e0 : (scope.names.lookup y).map (relK X.env y) = some k := lookup_relabel.symm.trans e
    obtain ⟨k0, e1, e2⟩ := Option.map_eq_some_iff.mp e0
    have e3 := lookup_all hfree e1
    have e4 := lookup_all hcell e1
    by_cases hf : k0 = .free
    · subst hf
      rw [Bool.or_eq_true] at e3
      rcases e3 with e3 | e3
      · exact absurd rfl (bne_iff_ne.mp e3)
      · exact Option.isSome_iff_exists.mp e3
    · exfalso
      have e5 : relK X.env y k0 = k0 := by
        unfold relK
        rw [if_neg]
        intro z
        rw [Bool.and_eq_true, Bool.and_eq_true] at z
        exact hf (beq_iff_eq.mp z.1.1)
      rw [e5] at e2
      subst e2
      rcases hk with rfl | rfl
      · simp at e4
      · exact hf rfl
  have okY : Y.Ok := {
    mod := I2.ok.mod
    kind := hkind
    glob := I2.ok.glob
    blt := I2.ok.blt
    above := Nat.le_refl _
    inj := fun a b c e1 e2 => I2.ok.inj a b c (cellsOf _ _ e1) (cellsOf _ _ e2)
    has := fun y hy => hy.elim (fun e => kindY y _ e (.inl rfl)) (fun e => kindY y _ e (.inr rfl))
    cab := fun y c e => nomatch e
    hd := I2.ok.hd
    frames := I2.ok.frames
    stk := .inl rfl
    exf := fun b hb => ⟨exC b hb, fun y c e => (exok b hb).2.2.2.2.1 y c (cellsOf _ _ e)⟩
    bs := fun b o e => ⟨k23 b o (I2.bs b o e).1, (I2.bs b o e).2⟩
    bsz := by
      show X.base.objs.size ≤ h3.objs.size
      rw [hC, ← hacc]
      exact Nat.le_succ_of_le (Nat.le_trans I2.ok.bsz I2.sz)
    noex := fun b o e hb => by
      rcases (exok b hb).2.2.2.1 with z | z
      · exact I2.ok.noex b o e z
      · exact absurd (Nat.lt_of_lt_of_le (Heap.lt_size e) (Nat.le_trans I2.ok.bsz z)) (Nat.lt_irrefl _)
    exfs := stk_no
    funs := I3.stack
    frf := I3.stkFree }
  have lenN : (List.replicate ns.length none ++ caps.map (pick σ) : L2.St).length = (ns ++ cns).length := by rw [List.length_append, List.length_append, List.length_replicate, List.length_map, hcap.len]
  have I4 : Inv Y [] (List.replicate ns.length none ++ caps.map (pick σ)) H2 { s2 with heap := h₁, toks := s2.toks + ([] : List (Str × Value)).length } := {
    ok := okY
    os := rfl
    bare := I2.bare
    base := Un.kept k34
    loc := by
      refine ⟨_, hns₁, fun i y v e1 e2 e3 => ?_⟩
      by_cases hlt : i < ns.length
      · have e2 : (List.replicate ns.length none ++ caps.map (pick σ) : L2.St)[i]? = some (some v) := e2
        rw [List.getElem?_append_left (by rw [List.length_replicate]; exact hlt), List.getElem?_replicate, if_pos hlt] at e2
        cases e2
      · have e1' : cns[i - ns.length]? = some y := by
          have e1' : (ns ++ cns)[i]? = some y := e1
          rw [List.getElem?_append_right (by omega)] at e1'
          exact e1'
        have e2' : (caps.map (pick σ) : L2.St)[i - ns.length]? = some (some v) := by
          have e2 : (List.replicate ns.length none ++ caps.map (pick σ) : L2.St)[i]? = some (some v) := e2
          rw [List.getElem?_append_right (by rw [List.length_replicate]; omega), List.length_replicate] at e2
          exact e2
        obtain ⟨j, j1, j2, j3⟩ := hcap.get (σ := σ) (i := i - ns.length) (x := y) (v := v) e1' e2'
        obtain ⟨m, hn, hl⟩ := I2.loc
        obtain ⟨u, r, l⟩ := hl j y v j1 j3 (.inr (.inl j2))
        rcases l with ⟨l, _⟩ | ⟨_, c, l1, l2⟩
        · rw [j2] at l; cases l
        · refine ⟨u, r, .inr ?_⟩
          rcases e3 with e3 | e3 | e3
          · exfalso
            have hm : y ∈ cns := List.mem_of_getElem? e1'
            have hl : scope.names.lookup y = some .free := beq_iff_eq.mp (List.all_eq_true.mp hcf y hm)
            have e0 : (scope.names.lookup y).map (relK X.env y) = some .local := lookup_relabel.symm.trans e3
            rw [hl] at e0
            have e5 : relK X.env y .free = .local := Option.some.inj e0
            unfold relK at e5
            split at e5 <;> cases e5
          · obtain ⟨c', hc'⟩ := kindY y _ e3 (.inl rfl)
            have := cellsOf _ _ hc'
            rw [l1] at this; cases this
            exact ⟨.inl e3, c, hc', l2.keeps fun b o e => k34 _ _ (k23 _ _ e)⟩
          · obtain ⟨c', hc'⟩ := kindY y _ e3 (.inr rfl)
            have := cellsOf _ _ hc'
            rw [l1] at this; cases this
            exact ⟨.inr e3, c, hc', l2.keeps fun b o e => k34 _ _ (k23 _ _ e)⟩
    cell := fun y c e => by
      obtain ⟨v, z⟩ := I2.cell y c (cellsOf _ _ e)
      exact ⟨v, z.keeps fun b o e => k34 _ _ (k23 _ _ e)⟩
    free := I2.hok.fresh (by rw [hacc]; show acc ≤ h3.objs.size; rw [hC]; exact Nat.le_succ _)
    freeC := fun y c e => I2.freeC y c (cellsOf _ _ e)
    pin := fun p hp => by
      have hp2 : p ∈ (X.pn ++ pins) ++ [] := hp
      have hp' : p ∈ X.pn ++ pins := by rw [List.append_nil] at hp2; exact hp2
      obtain ⟨p1, p2, p3, p4, p5⟩ := I2.pin p hp'
      refine ⟨k34 _ _ (k23 _ _ p1), p2, ?_, fun hm => (List.mem_cons.mp (I2.stkSub _ hm)).elim p3 p4, p5⟩
      exact Nat.ne_of_lt (by show p.1 < h3.objs.size; exact Heap.lt_size (k23 _ _ p1))
    hok := I2.hok.kept fun b u e => k34 _ _ (k23 _ _ e)
    len := lenN }
  have fpY : ∀ {H' : Hp} {pl : List (Addr × Obj)} {b : Addr}, b ∈ acc :: fp → H' b = none → (∀ p ∈ pl, p.1 ≠ b) → FpOk Y pl H' b := fun {H' pl b} hb hn hp =>
    ⟨hn, exC b hb, stk_no b hb, .inl hb, fun y c e => (exok b hb).2.2.2.2.1 y c (cellsOf _ _ e), fun p hm => (List.mem_append.mp hm).elim (fun z => (exok b hb).2.2.2.2.2 p z) (hp p)⟩
  have fin : ∀ {σ' : L2.St} {H' : Hp} {s' : Shared} {ys : List V} {its : List Value} {kk : Nat} {pl : List (Addr × Obj)}, Inv Y pl σ' H' s' → H' acc = none → Vals ys its → ys.length ≤ sizeLine →
      s'.heap.get? acc = some { cls := .type "list", data := .seq its.toArray kk } → (∀ p, H' p = none → Q (.ref p) (upd H' p (.lst ys))) →
      ∀ h', Heap.SameBut h3.objs.size s'.heap h' → EP X pins σ (fun v Hf => Q v Hf ∧ Hf h3.objs.size = none) (.ref acc) { s' with heap := h' } := fun {σ' H' s' ys its kk pl} J ha hv hz ho hq h' hs' => by
    have hacC : acc ≠ h3.objs.size := exC acc (List.mem_cons_self)
    have keepC : ∀ b o, b ≠ h3.objs.size → s'.heap.get? b = some o → h'.get? b = some o := fun b o hb e => hs'.extBut b o hb e
    have ltC : ∀ b o, s2.heap.get? b = some o → b ≠ h3.objs.size := fun b o e => Nat.ne_of_lt (Heap.lt_size (k23 b o e))
    have hCfree : H' h3.objs.size = none := J.free
    have un : Un (frs X.stack) (acc :: fp) H2 H' s2.heap h' := {
      keep := fun b o e n hb hx => keepC b o (ltC b o e) (J.base.keep b o (k23 b o e) n hb hx)
      slot := fun b o e n hb hx => by
        obtain ⟨sl, q⟩ := J.base.slot b o (k23 b o e) n hb hx
        exact ⟨sl, keepC b _ (ltC b o e) q⟩
      free := fun b o e n hx => J.base.free b o (k23 b o e) n hx
      there := fun b o e hx => by
        obtain ⟨o', q⟩ := J.base.there b o (k23 b o e) hx
        exact ⟨o', keepC b o' (ltC b o e) q⟩
      tups := J.base.tups
      frzs := J.base.frzs
      tbls := J.base.tbls }
    have hok : HOk X.prog X.w H' h' := fun b u e => by
      refine (J.hok b u e).stay (fun c v hc q => keepC c v ?_ q) (fun _ q => q) fun _ _ q => q
      rintro rfl
      rcases hc with rfl | hc
      · rw [hCfree] at e; cases e
      · rw [hCfree] at hc; cases hc
    have I5 : Inv X pins σ H' { s' with heap := h' } := I2.call' (ch := acc :: fp) J.os un hok J.bare fun b hb => by
      obtain ⟨g0, g1, g2, g3, g4, g5⟩ := exok b hb
      exact ⟨g3, g1, g4, g5⟩
    refine ⟨.ref acc, _, adopt (acc := acc) I5 ?_ (keepC _ _ hacC ho) hv hz, rfl, hq acc ha, by rw [upd_ne hacC.symm]; exact hCfree⟩
    obtain ⟨g0, g1, g2, g3, g4, g5⟩ := facc
    exact ⟨ha, g1, g2, g3, g4, g5⟩
  have loop : codeAny (model X.prog X.w) X.A (.compLoop (.ListComp elt [⟨tg, iter, ifs, 0⟩] scope pos) 0 (.ref it) (.ref acc) Y.env) (compPost (model X.prog X.w) X.A X.xe use Q0 (.ref acc) h3.objs.size)
      { s2 with heap := h₁, toks := s2.toks + ([] : List (Str × Value)).length } := by
    refine compLoop_go (fun n s' => ∃ (i : Nat) (v : L2.St) (ys : List V) (its : List Value) (kk : Nat) (H' : Hp), v.length = ns.length ∧ Inv Y [] (v ++ caps.map (pick σ)) H' s' ∧ tn i s'.heap ∧ (∀ b ∈ fp, H' b = none) ∧ H' acc = none ∧ Vals ys its ∧ ys.length ≤ sizeLine ∧
      s'.heap.get? acc = some { cls := .type "list", data := .seq its.toArray kk } ∧ W i n ys H') ?_ m0 ⟨0, List.replicate ns.length none, [], [], 0, H2, List.length_replicate, I4, T.keep _ _ _ st2 (fun b _ o e => k34 _ _ (k23 _ _ e)), fun b hb => (f2 b hb).1, facc.1, .nil, Nat.zero_le _, k34 _ _ oacc, w0⟩
    rintro n s5 ⟨i, v, ys, its, kk, H5, lv, I5, st5, fr5, ha5, hv5, hz5, ho5, w5⟩
    have pinA : Inv Y [(acc, { cls := .type "list", data := .seq its.toArray kk })] (v ++ caps.map (pick σ)) H5 s5 := I5.pins_of fun p hp => by
      have e : p = (acc, { cls := .type "list", data := .seq its.toArray kk }) := by simpa using hp
      subst e
      exact ⟨ho5, ha5, exC acc List.mem_cons_self, stk_no acc List.mem_cons_self, fun v => by intro z; cases z⟩
    have fpA : ∀ {H' : Hp}, (∀ b ∈ fp, H' b = none) → ∀ b ∈ fp, FpOk Y [(acc, { cls := .type "list", data := .seq its.toArray kk })] H' b := fun hn b hb => fpY (List.mem_cons_of_mem _ hb) (hn b hb) fun p hp => by
      have e : p = (acc, { cls := .type "list", data := .seq its.toArray kk }) := by simpa using hp
      subst e
      exact (Nat.ne_of_lt (fpl b hb)).symm
    rcases turn i n ys H5 w5 with ⟨stop, qn⟩ | ⟨go, hlt, step⟩
    · refine thn (T.done Y rfl rfl rfl hc i _ s5 _ H5 (fun _ _ => False) pinA (fpA fr5) st5 stop) fun r s6 ⟨hr, I6⟩ => ?_
      subst hr
      obtain ⟨m, hm, _⟩ := I6.loc
      have ho6 := (I6.pin (acc, { cls := .type "list", data := .seq its.toArray kk }) (List.mem_append_right _ List.mem_cons_self)).1
      exact hend acc h3.objs.size s6 m _ hm (fun hf => I2.fpOk (by rw [hC, hacc]; exact Nat.le_succ _) hf) (fin I6 ha5 hv5 hz5 ho6 qn)
    · refine thn (T.item Y rfl rfl rfl hc i _ s5 _ H5 (fun _ _ => False) pinA (fpA fr5) st5 go) fun r s6 ⟨u, hr, h6⟩ => ?_
      subst hr
      refine thn h6 fun _ s7 ⟨z, H7, I7, r7, y7, st7, fr7⟩ => ?_
      have I7' := I7.pinned (fpA fr7) (T.obj _ _ st7)
      obtain ⟨us, lu, hgt, step⟩ := step z H7 y7 v lv
      have pg : PG Y tg gt := hg _ _ _ _ _
      refine thn (pg _ s7 _ H7 z u (fun σ2 H2' => σ2 = us ++ caps.map (pick σ) ∧ H2' = H7) I7' r7 hgt) fun _ s8 ⟨σ8, H8, I8, e8, e8'⟩ => ?_
      subst e8 e8'
      refine thn (hf _ _ _ _ _ _ s8 _ H8 _ I8 step) fun ok s9 ⟨H9, I9, q9⟩ => ?_
      have stat : ∀ {H' : Hp} {s' : Shared} {σ' : L2.St}, Inv Y ([(acc, { cls := .type "list", data := .seq its.toArray kk })] ++ pinsAt fp s7.heap) σ' H' s' → tn (i + 1) s'.heap ∧ (∀ b ∈ fp, H' b = none) ∧ H' acc = none ∧ s'.heap.get? acc = some { cls := .type "list", data := .seq its.toArray kk } := fun {H' s' σ'} J => by
        have pa := J.pin (acc, { cls := .type "list", data := .seq its.toArray kk }) (List.mem_append_right _ (List.mem_append_left _ List.mem_cons_self))
        refine ⟨T.keep _ _ _ st7 fun b hb o e => (J.pin (b, o) (List.mem_append_right _ (List.mem_append_right _ (mem_pinsAt hb e)))).1, fun b hb => ?_, pa.2.1, pa.1⟩
        obtain ⟨o, e, d⟩ := T.obj _ _ st7 b hb
        exact (J.pin (b, o) (List.mem_append_right _ (List.mem_append_right _ (mem_pinsAt hb e)))).2.1
      have nopin : ∀ {H' : Hp} {s' : Shared} {σ' : L2.St} {pl : List (Addr × Obj)}, Inv Y pl σ' H' s' → Inv Y [] σ' H' s' := fun J => J.pins_of fun p hp => nomatch hp
      cases ok with
      | false =>
        obtain ⟨m', hm, w9⟩ := q9
        obtain ⟨t1, t2, t3, t4⟩ := stat I9
        exact ⟨m', hm, i + 1, us, ys, its, kk, H9, lu, nopin I9, t1, t2, t3, hv5, hz5, t4, w9⟩
      | true =>
        show wpAny _ _ (eval elt Y.env) _ _ s9
        refine thn (he _ _ _ _ _ _ s9 _ H9 _ I9 q9) fun y s10 ⟨yv, H10, I10, r10, m', hm, w10⟩ => ?_
        obtain ⟨t1, t2, t3, t4⟩ := stat I10
        have I10' : Inv Y (pinsAt fp s7.heap) (us ++ caps.map (pick σ)) H10 s10 := I10.pins_of fun p hp => I10.pin p (List.mem_append_right _ (List.mem_append_right _ hp))
        have fA : FpOk Y (pinsAt fp s7.heap) H10 acc := fpY List.mem_cons_self t3 fun p hp => Nat.ne_of_lt (fpl _ (of_pinsAt hp).1)
        have Ja := adopt I10' fA t4 hv5 hz5
        refine thn (mt_append (X := Y) _ s10 _ _ (.ref acc) [yv] (.ref acc) [y] (fun _ H' => H' = upd (upd H10 acc (.lst ys)) acc (.lst (ys ++ [yv]))) Ja rfl (.cons r10 .nil) ⟨acc, ys, yv, rfl, rfl, upd_same, hlt, rfl⟩) fun _ s11 ⟨_, H11, I11, _, e11⟩ => ?_
        rw [upd_upd] at e11
        subst e11
        obtain ⟨hz11, its', kk', hv11, ho11⟩ := I11.hok acc _ upd_same
        have Jd := disown I11 fA
        have st11 : tn (i + 1) s11.heap := T.keep _ _ _ st7 fun b hb o e => (Jd.pin (b, o) (List.mem_append_right _ (mem_pinsAt hb e))).1
        exact ⟨m', hm, i + 1, us, ys ++ [yv], its', kk', H10, lu, nopin Jd, st11, t2, t3, hv11, hz11, ho11, w10⟩
  exact codeAny_compStart_list loop (T.self X.A 0 _ _ _ (T.keep _ _ _ st2 (fun b _ o e => k34 _ _ (k23 _ _ e))) loop)
theorem pe_lcG {X : Cx} {elt iter tg : Expr} {pos : Pos} {ifs : List Expr} {scope : Scope} {cl : List (Str × Addr)} {wi : TI} {tc : TT} {te : TE} {cns : List Str} {ns : List Str} {gt : TG} {R : It → L2.St → Hp → VK → Prop} (caps : List Nat)
    (hR : ∀ J σ H Q, R J σ H Q → ∃ W : Nat → Nat → List V → Hp → Prop, (∃ m, W 0 m [] H) ∧ ∀ i m ys H, W i m ys H →
      (J.stop i H ∧ ∀ p, H p = none → Q (.ref p) (upd H p (.lst ys))) ∨
      (J.go i H ∧ ys.length < sizeLine ∧ ∀ x H', J.yld i H x H' → ∀ vs : L2.St, vs.length = ns.length → ∃ us : L2.St, us.length = ns.length ∧ gt x (vs ++ caps.map (pick σ)) H' (fun σ2 H2 => σ2 = us ++ caps.map (pick σ) ∧ H2 = H') ∧ tc (us ++ caps.map (pick σ)) H' fun k H2 => if k = true then te (us ++ caps.map (pick σ)) H2 (fun y H3 => ∃ m', m' < m ∧ W (i + 1) m' (ys ++ [y]) H3) else ∃ m', m' < m ∧ W (i + 1) m' ys H2))
    (hi : PI X tg iter wi) (hg : ∀ C s H ex pn, PG (cxLC X scope cl (ns ++ cns) C s H ex pn) tg gt)
    (hf : ∀ C s H ex pn, PF (cxLC X scope cl (ns ++ cns) C s H ex pn) ifs tc) (he : ∀ C s H ex pn, PE (cxLC X scope cl (ns ++ cns) C s H ex pn) elt te) (hc : X.calm = true)
    (hclos : closureFor scope X.env = pure cl) (hcl : AllIn X.env.cells cl) (hcap : CapOk X cns caps)
    (hkind : scope.kind = .function) (hcell : (scope.names.all fun p => p.2 != .cell) = true) (hfree : (scope.names.all fun p => p.2 != .free || (cl.lookup p.1).isSome) = true)
    (hcf : (cns.all fun y => scope.names.lookup y == some .free) = true) (hnames : ∀ y ∈ scope.names, y.2 = .local → scope.names.lookup y.1 = some .local)
    (hs : ∀ v, foldedSetIterable iter X.env v = pure v) :
    PE X (.ListComp elt [⟨tg, iter, ifs, 0⟩] scope pos) (fun σ H Q => wi σ H fun J H1 => R J σ H1 Q) := by
  intro pins s σ H Q I h
  rw [eval_ListComp]
  refine lc_core caps hR hi hg hf he hc hclos hcl hcap hkind hcell hfree hcf hnames hs I h fun acc C s6 m r0 hm fC fin => ⟨m, hm, fun h' hs' => ?_⟩
  obtain ⟨v, Hf, If, rf, qf, _⟩ := fin h' hs'
  exact ⟨v, Hf, If, rf, qf⟩
theorem pe_lc {X : Cx} {elt iter : Expr} {x : Str} {px pos : Pos} {ifs : List Expr} {scope : Scope} {cl : List (Str × Addr)} {wi : TI} {tc : TT} {te : TE} {cns : List Str} (caps : List Nat)
    (hi : PI X (.Name x px) iter wi)
    (hf : ∀ C s H ex pn, PF (cxLC X scope cl (x :: cns) C s H ex pn) ifs tc) (he : ∀ C s H ex pn, PE (cxLC X scope cl (x :: cns) C s H ex pn) elt te) (hc : X.calm = true)
    (hclos : closureFor scope X.env = pure cl) (hcl : AllIn X.env.cells cl) (hcap : CapOk X cns caps)
    (hkind : scope.kind = .function) (hcell : (scope.names.all fun p => p.2 != .cell) = true) (hfree : (scope.names.all fun p => p.2 != .free || (cl.lookup p.1).isSome) = true)
    (hcf : (cns.all fun y => scope.names.lookup y == some .free) = true) (hnames : ∀ y ∈ scope.names, y.2 = .local → scope.names.lookup y.1 = some .local) (hx : scope.names.lookup x = some .local) (hnd : (x :: cns).Nodup)
    (hs : ∀ v, foldedSetIterable iter X.env v = pure v := by intro _; rfl) :
    PE X (.ListComp elt [⟨.Name x px, iter, ifs, 0⟩] scope pos) (tLC wi caps tc te) := by
  refine pe_lcG (ns := [x]) (gt := gName 0) caps (fun J σ H Q h => ?_) hi (fun C s H ex pn => pg_name hnd rfl (.inl (lookup_relabel_local hx)) (.inr (lookup_relabel_local hx))) hf he hc hclos hcl hcap hkind hcell hfree hcf hnames hs
  obtain ⟨W, w0, turn⟩ := h
  refine ⟨W, w0, fun i m ys H hw => (turn i m ys H hw).imp id fun ⟨g, l, st⟩ => ⟨g, l, fun z H' y vs hv => ?_⟩⟩
  match vs, hv with
  | [v], _ => exact ⟨[some z], rfl, ⟨rfl, rfl⟩, st z H' y⟩
end G
namespace G
open PySem L2 PySem.Spec PyProof.Rows
def CXe (P : Program) (w : World) : CXT := fun outer H s E e s' =>
  ∃ (ea : Addr) (cls a0 : Value) (B : Heap) (H' : Hp), e = .ref ea ∧ s'.os = s.os ∧ AllBare s'.gens ∧ Un (frs outer) [] H H' s.heap s'.heap ∧ HOk P w H' s'.heap ∧ Heap.FlyingW B outer ea cls a0 s'.heap ∧
    (∀ b o, s'.heap.get? b = some o → ((∃ v, s.heap.get? b = some v) ∨ ∃ v, H' b = some v) → b ∉ frs outer → B.get? b = some o) ∧ E cls none H'
theorem passE0 {P : Program} {w : World} {X : Cx} : Passes (CXe P w) X E0 := fun _ _ _ _ _ _ _ h => by
  obtain ⟨_, _, _, _, _, _, _, _, _, _, _, _, z⟩ := h
  exact z.elim
section
variable {P : Program} {w : World} {K : PySem.W.Frag} {mg : Str → Option Value} {base : Heap} {N : List Str} {qual : Str} {scope : Scope} {f : Addr} {cd : Value} {A : Around} {outer : List Env} {s : Shared} {H : Hp} {E : XK}
end
section
variable {X : Cx} {x : Str} {C : Addr} {np cpos pos : Pos} {e : Expr} {es : List Expr} {ta : TA} {E : XK}
end
end G
namespace G
open PySem L2 PySem.Spec PyProof.Rows
section
variable {X : Cx} {CX : CXT} {k : Nat} {f C : Addr} {fd : FuncData} {ps : List Str} {sp : Sp} {dvs : List V} {ds : List Value} {E : L2.St → XK} {x m : Str} {p pos apos : Pos} {e o : Expr} {es : List Expr} {ta : TE} {t : TA}
end
section
variable {X : Cx} {pins : List (Addr × Obj)} {σ : L2.St} {H : Hp} {s : Shared}
end
section
variable {X : Cx} {x : Str} {C : Addr} {np pos hpos : Pos} {body suite : List Stmt} {b₀ : Stmt} {Mt : Value → Prop} {tb : (L2.St → XK) → TS} {th : TS}
end
end G
namespace G
open PySem L2 PySem.Spec PyProof.Rows
section
variable {P : Program} {w : World} {K : PySem.W.Frag} {mg : Str → Option Value} {base : Heap} {x qual : Str} {st : Stmt} {f : Addr} {fd : FuncData} {N ps : List Str} {k : Nat} {sp : Sp}
theorem fok (F : Fun K x qual st f fd) (S : FnScope N ps (defScope st)) (len : ∀ vs H Q E, sp vs H Q E → vs.length = ps.length)
    (hbody : ∀ (cdv : Value) (A : Around) (outer : List Env) (s : Shared) (H : Hp) (vs : List V) (Q : VK) (E : XK), Room k (A.deeper (envOfC qual (defScope st) s.heap.objs.size f cdv)) → sp vs H Q E →
      ∃ t, PSs (cxOf (CXe P w) P w K mg base N qual (defScope st) f cdv A outer s H E).nox (defBody st) t ∧ t { nx := fun _ H' => Q .non H', rt := Q } (start N vs) H) : FnOk P w K mg base (CXe P w) (k + 1) f fd ps sp := by
  obtain ⟨oc, od, kV, doc, pm, an, cdv, ct, osl, rfl, lk, hcd⟩ := F.ex
  refine fn_of lk hcd S len fun A outer s H vs Q E hr hsp => ?_
  obtain ⟨t, h, q⟩ := hbody cdv A outer s H vs Q E hr hsp
  exact ⟨t, h.nox, q⟩
theorem fokD (F : FunD K x qual st f fd) (S : FnScope N ps (defScope st)) (len : ∀ vs H Q E, sp vs H Q E → vs.length = ps.length)
    (hbody : ∀ (cdv : Value) (A : Around) (outer : List Env) (s : Shared) (H : Hp) (vs : List V) (Q : VK) (E : XK), Room k (A.deeper (envOfC qual (defScope st) s.heap.objs.size f cdv)) → sp vs H Q E →
      ∃ t, PSs (cxOf (CXe P w) P w K mg base N qual (defScope st) f cdv A outer s H E).nox (defBody st) t ∧ t { nx := fun _ H' => Q .non H', rt := Q } (start N vs) H) : FnOk P w K mg base (CXe P w) (k + 1) f fd ps sp := by
  obtain ⟨oc, od, dV, kV, doc, pm, an, cdv, ct, osl, rfl, lk, hcd⟩ := F.ex
  refine fn_of lk hcd S len fun A outer s H vs Q E hr hsp => ?_
  obtain ⟨t, h, q⟩ := hbody cdv A outer s H vs Q E hr hsp
  exact ⟨t, h.nox, q⟩
end
end G
namespace G
open PySem L2 PySem.Spec PyProof.Rows
structure ExcI (K : PySem.W.Frag) (C : Addr) : Prop where
  ga : PySem.W.findIn K (.ref C) "__getattribute__" = some (some (.builtin "BaseException.__getattribute__"))
  no : PySem.W.findIn K (.ref C) "__getattr__" = some none
  cl : PySem.W.findIn K (.ref C) "__class__" = some (some (.builtin "object.__class__"))
  so : PySem.W.mroIn K C (.type "object") = some true
  sb : PySem.W.mroIn K C (.type "BaseException") = some true
  is : PySem.W.hasDictIn K C = true
section
variable {prog : Program} {w : World} {A : Around} {E : Value → Shared → Prop} {h : Heap} {g : Array GenState} {d : Drawn} {t : Nat} {os : OsState} {a : Addr} {o : Obj} {C : Addr} {K : PySem.W.Frag}
end
section
variable {X : Cx}
theorem call_listL : CallR X (.type "list") (cListL X.K) := by
  intro pins s σ H xs us Q I r h
  obtain ⟨p, ys, rfl, hs, q⟩ := h
  exact call_list_of pins s σ H [.ref p] us Q I r ⟨p, ys, rfl, .inl hs, q⟩
end
end G
namespace G
open PySem L2 PySem.Spec PyProof.Rows
section
variable {K : PySem.W.Frag} {A : Around} {a C : Addr} {o : Obj}
end
section
variable {X : Cx}
end
end G
namespace G
open PySem L2
def tMake0 (C : Addr) : TE := fun _ H Q => ∀ x dx, H x = none → H dx = none → dx ≠ x → Q (.ref x) (upd (upd H dx (.own x)) x (.ins C dx []))
theorem i_make0 {C : Addr} {σ : St} {H : Hp} {Q : VK} (h : ∀ x dx, H x = none → H dx = none → dx ≠ x → Q (.ref x) (upd (upd H dx (.own x)) x (.ins C dx []))) : tMake0 C σ H Q := h
def tOrE (t u : TE) : TE := fun σ H Q => t σ H Q ∨ u σ H Q
theorem i_orL {t u : TE} {σ : St} {H : Hp} {Q : VK} (h : t σ H Q) : tOrE t u σ H Q := .inl h
theorem i_orR {t u : TE} {σ : St} {H : Hp} {Q : VK} (h : u σ H Q) : tOrE t u σ H Q := .inr h
end G
namespace G
open PySem L2 PySem.Spec PyProof.Rows
section
variable {X : Cx}
theorem pe_eith {e : Expr} {t u : TE} (h1 : PE X e t) (h2 : PE X e u) : PE X e (tOrE t u) := by
  intro pins s σ H Q I h
  rcases h with h | h
  · exact h1 pins s σ H Q I h
  · exact h2 pins s σ H Q I h
structure Mk0 (K : PySem.W.Frag) (C : Addr) : Prop where
  makes : PySem.W.makesIn K C = true
  init : PySem.W.findIn K (.ref C) "__init__" = some (some (.builtin "object.__init__"))
  kp : PySem.W.keepIn K (.ref C) = true
theorem run_make00 {C : Addr} {pins : List (Addr × Obj)} {σ : L2.St} {H : Hp} {s : Shared} {Q : VK} (M : Mk0 X.K C) (I : Inv X pins σ H s)
    (h : ∀ x dx, H x = none → H dx = none → dx ≠ x → Q (.ref x) (upd (upd H dx (.own x)) x (.ins C dx []))) : wpAny (model X.prog X.w) X.A (call (.ref C) []) (EP X pins σ Q) X.xe s := by
  have hq := h (s.heap.objs.size + 1) s.heap.objs.size (I.hok.fresh (Nat.le_succ _)) (I.hok.fresh (Nat.le_refl _)) (Nat.ne_of_lt (Nat.lt_succ_self _))
  have I2 := Inv.made (C := C) I
  have Y := PySem.W.makes_of (M := model X.prog X.w) I.kIn M.makes
  refine wpAny_call (make_map0 I.kIn M.makes M.init (fun self => PySem.W.Looks.of_pure (PySem.W.oi_bind self)) ?_)
  have e2 : ((s.heap.push PySem.W.emptyDict).push (PySem.W.instObj C s.heap.objs.size)).get? (s.heap.objs.size + 1) = some (PySem.W.instObj C s.heap.objs.size) := by
    have := Heap.get?_push_size (s.heap.push PySem.W.emptyDict) (o := PySem.W.instObj C s.heap.objs.size) rfl
    rw [Heap.size_push] at this
    exact this
  have t1 : PySem.W.Looks (model X.prog X.w) ((s.heap.push PySem.W.emptyDict).push (PySem.W.instObj C s.heap.objs.size)) (typeOf (.ref (s.heap.objs.size + 1))) (.ref C) := (PySem.W.Looks.ld e2).andThen .now
  have t2 : PySem.W.Looks (model X.prog X.w) ((s.heap.push PySem.W.emptyDict).push (PySem.W.instObj C s.heap.objs.size)) (isInstance (.ref (s.heap.objs.size + 1)) (.type "object")) true := t1.andThen (Y.top.keeps fun b o e => Heap.get?_push_of_some _ (Heap.get?_push_of_some _ e))
  refine codeAny_call_builtin PySem.W.oi_plain PySem.W.entry_oi (@PySem.W.check_slot (model X.prog X.w) _ _ _ "object.__init__" "object" "__init__" (.ref (s.heap.objs.size + 1)) [] [] _ PySem.W.oi_kind PySem.W.oi_split t2 (PySem.W.oi_args (.ref (s.heap.objs.size + 1))) ?_)
  rw [PySem.W.oi_run]
  exact wpAny_pure (And.intro rfl ⟨V.ref (s.heap.objs.size + 1), _, I2, rfl, hq⟩)
theorem pe_make00 {C : Addr} {x : Str} {p pos : Pos} (M : Mk0 X.K C) (hg : Gl X x) (hm : X.mg x = some (.ref C)) (hdb : (x == ("__debug__" : Str)) = false := by decide) : PE X (.Call (.Name x p) [] [] pos) (tMake0 C) := by
  intro pins s σ H Q I h
  refine wpAny_Call_Name_kw (ld_glob I hg hm ?_ hdb)
  exact PySem.W.callWith_K0 I.kIn M.kp (run_make00 M I h)
structure InsI (K : PySem.W.Frag) (C : Addr) : Prop where
  pg : PySem.W.plainGet K C "__class__" = true
  hd : PySem.W.hasDictIn K C = true
  cl : PySem.W.findIn K (.ref C) "__class__" = some (some (.builtin "object.__class__"))
  sp : PySem.W.specialIn K (.builtin "object.__class__") "__get__" = some (some (.builtin "getset_descriptor.__get__"))
  tk : PySem.W.takesIn K (.builtin "object.__class__") = some true
  so : PySem.W.mroIn K C (.type "object") = some true
end
end G
namespace G
open PySem L2
end G
namespace G
open PySem L2 PySem.Spec PyProof.Rows
end G
namespace G
open PySem L2 PySem.Spec PyProof.Rows
section
variable {σ : L2.St} {H : Hp} {Q : VK} {td ty tv : TE} {n bk ct : L2.St → Hp → Prop} {r : VK}
end
end G
namespace G
open PySem L2 PySem.Spec PyProof.Rows
def LCg2 (K : PySem.W.Frag) (J : It) (caps : List Nat) (tc : TT) (te : TE) (σ : L2.St) (H1 : Hp) (Q : VK) : Prop := ∃ W : Nat → Nat → List V → Hp → Prop, (∃ m, W 0 m [] H1) ∧ ∀ i m ys H, W i m ys H →
  (J.stop i H ∧ ∀ p, H p = none → Q (.ref p) (upd H p (.lst ys))) ∨
  (J.go i H ∧ ys.length < sizeLine ∧ ∀ x H', J.yld i H x H' → ∃ a u v, x = .ref a ∧ SqT K H' a [u, v] ∧ tc (some u :: some v :: caps.map (pick σ)) H' fun k H2 => if k = true then te (some u :: some v :: caps.map (pick σ)) H2 (fun y H3 => ∃ m', m' < m ∧ W (i + 1) m' (ys ++ [y]) H3) else ∃ m', m' < m ∧ W (i + 1) m' ys H2)
def tLC2 (K : PySem.W.Frag) (wi : TI) (caps : List Nat) (tc : TT) (te : TE) : TE := fun σ H Q => wi σ H fun J H1 => LCg2 K J caps tc te σ H1 Q
theorem i_lcg2 {K : PySem.W.Frag} {wi : TI} {caps : List Nat} {tc : TT} {te : TE} {σ : L2.St} {H : Hp} {Q : VK} (h : wi σ H fun J H1 => LCg2 K J caps tc te σ H1 Q) : tLC2 K wi caps tc te σ H Q := h
def tUnp (K : PySem.W.Frag) (te : TE) : TE := fun σ H Q => ∃ a u v r, σ = some (.ref a) :: r ∧ SqT K H a [u, v] ∧ te (some u :: some v :: r) H Q
theorem lcg2_of {K : PySem.W.Frag} {J : It} {caps : List Nat} {te : TE} {σ : L2.St} {H : Hp} {Q : VK} (h : LCg J caps tTrue (tUnp K te) σ H Q) : LCg2 K J caps tTrue te σ H Q := by
  obtain ⟨W, w0, step⟩ := h
  refine ⟨W, w0, fun i m ys H hw => ?_⟩
  rcases step i m ys H hw with z | ⟨g, l, st⟩
  · exact .inl z
  · refine .inr ⟨g, l, fun x H' y => ?_⟩
    have h1 := st x H' y
    simp only [tTrue, ↓reduceIte] at h1
    obtain ⟨a, u, v, r, e, hs, q⟩ := h1
    cases e
    refine ⟨a, u, v, rfl, hs, ?_⟩
    simp only [tTrue, ↓reduceIte]
    exact q
theorem pe_lc2 {X : Cx} {elt iter : Expr} {x y : Str} {px py pt pos : Pos} {kt : Nat} {ifs : List Expr} {scope : Scope} {cl : List (Str × Addr)} {wi : TI} {tc : TT} {te : TE} {cns : List Str} (caps : List Nat)
    (hi : PI X (.Tuple [.Name x px, .Name y py] kt pt) iter wi)
    (hf : ∀ C s H ex pn, PF (cxLC X scope cl (x :: y :: cns) C s H ex pn) ifs tc) (he : ∀ C s H ex pn, PE (cxLC X scope cl (x :: y :: cns) C s H ex pn) elt te) (hc : X.calm = true)
    (hclos : closureFor scope X.env = pure cl) (hcl : AllIn X.env.cells cl) (hcap : CapOk X cns caps)
    (hkind : scope.kind = .function) (hcell : (scope.names.all fun p => p.2 != .cell) = true) (hfree : (scope.names.all fun p => p.2 != .free || (cl.lookup p.1).isSome) = true)
    (hcf : (cns.all fun y => scope.names.lookup y == some .free) = true) (hnames : ∀ y ∈ scope.names, y.2 = .local → scope.names.lookup y.1 = some .local) (hx : scope.names.lookup x = some .local) (hy : scope.names.lookup y = some .local) (hnd : (x :: y :: cns).Nodup)
    (hs : ∀ v, foldedSetIterable iter X.env v = pure v := by intro _; rfl) :
    PE X (.ListComp elt [⟨.Tuple [.Name x px, .Name y py] kt pt, iter, ifs, 0⟩] scope pos) (tLC2 X.K wi caps tc te) := by
  refine pe_lcG (ns := [x, y]) (gt := gTup X.K 2 (gCons (gName 0) (gCons (gName 1) gNil))) caps (fun J σ H Q h => ?_) hi (fun C s H ex pn => pg_tup hc (pgs_cons (pg_name hnd rfl (.inl (lookup_relabel_local hx)) (.inr (lookup_relabel_local hx))) (pgs_cons (pg_name hnd rfl (.inl (lookup_relabel_local hy)) (.inr (lookup_relabel_local hy))) pgs_nil))) hf he hc hclos hcl hcap hkind hcell hfree hcf hnames hs
  obtain ⟨W, w0, turn⟩ := h
  refine ⟨W, w0, fun i m ys H hw => (turn i m ys H hw).imp id fun ⟨g, l, st⟩ => ⟨g, l, fun z H' y vs hv => ?_⟩⟩
  obtain ⟨ta, u1, u2, ez, hst, st⟩ := st z H' y
  match vs, hv with
  | [v, v'], _ => exact ⟨[some u1, some u2], rfl, ⟨ta, _, ez, hst, rfl, _, _, rfl, _, _, rfl, rfl, rfl, rfl⟩, st⟩
end G
namespace G
open PySem L2 PySem.Spec PyProof.Rows
end G
namespace G
open PySem L2 PySem.Spec PyProof.Rows
def BitsOk (ns : List Int) : Prop := ∀ i ∈ ns, Builtin.Int.intBits i ≤ 2 ^ 20
theorem bits_int {i : Int} (h : (PySem.W.WData.int i).layable = true) : Builtin.Int.intBits i ≤ 2 ^ 20 := by
  unfold PySem.W.WData.layable at h
  simp only [Bool.and_eq_true, decide_eq_true_eq] at h
  have := h.2
  simp [PySem.W.WData.weight] at this
  unfold Builtin.Int.intBits
  simpa using this
theorem walk_ofB {l : PySem.W.OpenLaw} {n k : Nat} {q : Program} {loose : List Str} {XP : (Str → Option Value) → Heap → Prop} {YP : World → Heap → Prop} {d : DefRec} {K : Params → PySem.W.Frag} {CX : World → CXT} {sp : World → Sp} {x : Str}
    (hn : l.most = some n) (hn2 : n ≤ sizeLine) (hdf : d.params.defaults = []) (hr : Room k callerA)
    (hY : ∀ (w : World) (h : Heap), YP w h → (K w.params).In h)
    (F : ∀ (w : World) (mg : Str → Option Value) (fa : Addr) (h : Heap), (K w.params).In h → h.Ns mainGlobals mg → mg d.name = some (.ref fa) →
      ∃ fd : FuncData, (∀ (s : Shared) (u : Value), BindsTo s fd ⟨[u], []⟩ [(x, u)]) ∧
        ∀ base : Heap, (K w.params).In base → base.Ns mainGlobals mg → FnOk l.prog w (K w.params) mg base (CX w) k fa fd [x] (sp w))
    (hsp : ∀ (w : World) (H : Hp) (a : Addr) (ns : List Int), ns.length ≤ n → Only H → SqL (K w.params) H a (ns.map V.int) → BitsOk ns → sp w [.ref a] H (fun v _ => v = .bl true) fun _ _ _ => False)
    (hCX : ∀ (w : World) (H : Hp) (s : Shared) (e : Value) (s' : Shared), CX w [] H s (fun _ _ _ => False) e s' → False) :
    PySem.W.WalkO q loose XP YP l.row.toRowW d [] (fun f vs => PySem.call f vs) := by
  intro w s₀ s₁ mg mb G Y fa o pm cd doc dV kV ho hd hcd hD hmg hg args vals as hpre hlay hrd hwl hlo
  obtain rfl : dV = .none := PySem.W.Dflts.none hD hdf
  obtain rfl : kV = .none := PySem.W.Dflts.noKw hD
  obtain ⟨a, vs, ns, rfl, rfl, hobj, hints, hlen⟩ := Att.script_of hn hpre hwl
  have hb : BitsOk ns := fun i hi => by
    unfold PySem.W.WData.layableAll at hlay
    rw [List.all_cons, Bool.and_eq_true] at hlay
    exact bits_int (PySem.W.layableW_item hlay.1 _ (List.mem_map.mpr ⟨i, hi, rfl⟩))
  have KX := hY w _ Y
  obtain ⟨fd, hbd, hF⟩ := F w mg fa _ KX G.T.g hmg
  refine PySem.W.enter_call (codeAny_mono (law_call KX G.T.g G.T.b G.T.builtins G.T.nolimit hg hobj hints (Nat.le_trans hlen hn2) hr hF hbd (fun H hO hS => hsp w H a ns hlen hO hS hb) fun H e s' => hCX w H s₁ e s') fun r s' hq => ?_)
  obtain ⟨rfl, h2, h3, h4⟩ := hq
  exact ⟨.inl ⟨.bool true, .bool true, [], rfl, fun _ => rfl, .bool true, Att.post_true l _, fun _ => ⟨List.Pairwise.nil, fun _ hm => (nomatch hm)⟩⟩, h2, h3, h4⟩
theorem op_mulW {X : Cx} : OpR X (binaryOp .Mult) (rI IntMulOk fun i j => .int (i * j)) := opI fun _ _ _ _ _ _ _ hc q => mul_int q hc
end G
namespace G
open PySem L2
def Ite (K : PySem.W.Frag) (a : Addr) : It :=
  ⟨fun i H => ∃ xs x, SqL K H a xs ∧ xs[i]? = some x, fun i H x H' => ∃ t v, x = .ref t ∧ H t = none ∧ H' = upd H t (.tup [.int i, v]) ∧ ∀ xs, SqL K H a xs → xs[i]? = some v, fun i H => ∃ xs, SqL K H a xs ∧ xs.length ≤ i⟩
def iEnum (K : PySem.W.Frag) (ta : TA) : TI := fun σ H R => ta σ H fun vs H1 => ∃ a, vs = [.ref a] ∧ (∃ xs, SqL K H1 a xs) ∧ R (Ite K a) H1
theorem i_iE {K : PySem.W.Frag} {ta : TA} {σ : L2.St} {H : Hp} {R : It → Hp → Prop} (h : ta σ H fun vs H1 => ∃ a, vs = [.ref a] ∧ (∃ xs, SqL K H1 a xs) ∧ R (Ite K a) H1) : iEnum K ta σ H R := h
def cTupL (K : PySem.W.Frag) : List V → Hp → VK → Prop := fun xs H Q => ∃ p ys, xs = [.ref p] ∧ ((SqL K H p ys ∧ ∀ l, H l = none → Q (.ref l) (upd H l (.tup ys))) ∨ (SqT K H p ys ∧ Q (.ref p) H))
section
variable {K : PySem.W.Frag} {a : Addr} {g : TG} {tb : TS} {σ : L2.St} {H : Hp} {n : L2.St → Hp → Prop} {r : VK}
end
end G
namespace G
open PySem L2 PySem.Spec PyProof.Rows
theorem inv_turn2 {X : Cx} {pins : List (Addr × Obj)} {σ : L2.St} {H : Hp} {s : Shared} {h' : Heap} {t' : Nat} {e it : Addr} (I : Inv X pins σ H s) (k : ∀ b u, b ≠ e → b ≠ it → s.heap.get? b = some u → h'.get? b = some u) (fe : FpOk X pins H e) (fi : FpOk X pins H it) :
    Inv X pins σ H { s with heap := h', toks := t' } := by
  have ne : ∀ b u, H b = some u → b ≠ e := fun b u q z => by rw [z, fe.1] at q; cases q
  have ni : ∀ b u, H b = some u → b ≠ it := fun b u q z => by rw [z, fi.1] at q; cases q
  have nm : ∀ b, b ∉ [e, it] → b ≠ e ∧ b ≠ it := fun b hb => ⟨fun z => hb (by simp [z]), fun z => hb (by simp [z])⟩
  refine I.step (g' := s.gens) (d' := s.drawn) (ch := [e, it]) (fun b hb => ?_) (fun b o _ _ hc q _ => k b o (nm b hc).1 (nm b hc).2 q) (fun b o _ _ hc q _ => ⟨o.slots, k b o (nm b hc).1 (nm b hc).2 q⟩) (fun _ _ _ _ n => n)
    (fun b o hc q => ⟨o, k b o (nm b hc).1 (nm b hc).2 q⟩) (fun _ _ q => q) (fun _ _ _ q => q) (fun b ps q => ⟨#[], by rw [q]; simp⟩) (fun m hm => ?_) (fun b u q => ?_) I.bare
  · rcases List.mem_cons.mp hb with z | z
    · rw [z]; exact ⟨fe.2.2.2.1, fe.2.1, fe.2.2.2.2.1, fe.2.2.2.2.2⟩
    · have z' : b = it := by simpa using z
      rw [z']; exact ⟨fi.2.2.2.1, fi.2.1, fi.2.2.2.2.1, fi.2.2.2.2.2⟩
  · obtain ⟨o, es, ep, ho, r⟩ := hm
    exact ⟨o, es, ep, k _ o (Ne.symm fe.2.1) (Ne.symm fi.2.1) ho, r⟩
  · refine (I.hok b u q).stay (fun c v hc z => ?_) (fun _ z => z) fun _ _ z => z
    rcases hc with y | y
    · rw [y] at z ⊢; exact k b v (ne b u q) (ni b u q) z
    · exact k c v (ne c _ y) (ni c _ y) z
theorem inv_turn2_laid {X : Cx} {pins : List (Addr × Obj)} {σ : L2.St} {H : Hp} {s : Shared} {h' : Heap} {t' : Nat} {e it a : Addr} {o : HO} (I : Inv X pins σ H s) (k : ∀ b u, b ≠ e → b ≠ it → s.heap.get? b = some u → h'.get? b = some u) (fe : FpOk X pins H e) (fi : FpOk X pins H it)
    (ha : s.heap.objs.size ≤ a) (new : ObjOk X.prog X.w (upd H a o) h' a o) : Inv X pins σ (upd H a o) { s with heap := h', toks := t' } := by
  have hn := I.hok.fresh ha
  have ne : ∀ b u, H b = some u → b ≠ e := fun b u q z => by rw [z, fe.1] at q; cases q
  have ni : ∀ b u, H b = some u → b ≠ it := fun b u q z => by rw [z, fi.1] at q; cases q
  have nm : ∀ b, b ∉ [e, it] → b ≠ e ∧ b ≠ it := fun b hb => ⟨fun z => hb (by simp [z]), fun z => hb (by simp [z])⟩
  have na : ∀ b u, s.heap.get? b = some u → b ≠ a := fun b u q => Nat.ne_of_lt (Nat.lt_of_lt_of_le (Heap.lt_size q) ha)
  refine I.step (g' := s.gens) (d' := s.drawn) (ch := [e, it]) (fun b hb => ?_) (fun b o _ _ hc q _ => k b o (nm b hc).1 (nm b hc).2 q) (fun b o _ _ hc q _ => ⟨o.slots, k b o (nm b hc).1 (nm b hc).2 q⟩) (fun b u _ q n => (upd_ne (na b u q)).trans n)
    (fun b o hc q => ⟨o, k b o (nm b hc).1 (nm b hc).2 q⟩) (fun b xs q => (upd_ne (ne_of_none q hn)).trans q) (fun b o xs q => (upd_ne (ne_of_none q hn)).trans q) (fun b ps q => ⟨#[], by rw [upd_ne (ne_of_none q hn), q]; simp⟩) (fun m hm => ?_) (fun b u q => ?_) I.bare
  · rcases List.mem_cons.mp hb with z | z
    · rw [z]; exact ⟨fe.2.2.2.1, fe.2.1, fe.2.2.2.2.1, fe.2.2.2.2.2⟩
    · have z' : b = it := by simpa using z
      rw [z']; exact ⟨fi.2.2.2.1, fi.2.1, fi.2.2.2.2.1, fi.2.2.2.2.2⟩
  · obtain ⟨o, es, ep, ho, r⟩ := hm
    exact ⟨o, es, ep, k _ o (Ne.symm fe.2.1) (Ne.symm fi.2.1) ho, r⟩
  · by_cases hb : b = a
    · subst hb; rw [upd_same] at q; cases q; exact new
    · rw [upd_ne hb] at q
      refine (I.hok b u q).stay (fun c v hc z => ?_) (fun c z => by rw [upd_ne (ne_of_none z hn)]; exact z) fun c xs z => by rw [upd_ne (ne_of_none z hn)]; exact z
      rcases hc with y | y
      · rw [y] at z ⊢; exact k b v (ne b u q) (ni b u q) z
      · exact k c v (ne c _ y) (ni c _ y) z
theorem turn_enum {P : Program} {w : World} {K : PySem.W.Frag} {elts : List Expr} {x1 : Nat} {pt : Pos} (a e it : Addr) (hne : e ≠ it) :
    Turn P w K (.Tuple elts x1 pt) (Ite K a) [e, it] e (fun i h => (∃ old, IsEnum h e it ((i : Nat) : Int) old) ∧ h.IsListIter it a i) where
  mem := by simp
  obj := fun i h st b hb => by
    obtain ⟨⟨old, he⟩, o, ho, c, d⟩ := st
    rcases List.mem_cons.mp hb with z | z
    · rw [z]; exact ⟨_, he, fun v z => by cases z⟩
    · have z' : b = it := by simpa using z
      rw [z']; exact ⟨o, ho, fun v z => by rw [d] at z; cases z⟩
  keep := fun i h h' st k => ⟨let ⟨old, he⟩ := st.1; ⟨old, k e (by simp) _ he⟩, st.2.at fun o q => k it (by simp) o q⟩
  item := by
    intro X hP hw hK hc i pins s σ H E I hf st hg
    subst hP hw hK
    obtain ⟨xs, x, hq, hx⟩ := hg
    obtain ⟨its, rv, p, hz⟩ := I.list hq
    obtain ⟨u, hu, ru⟩ := rv.get hx
    obtain ⟨⟨old, he⟩, hit⟩ := st
    have fe := hf e (by simp)
    have fi := hf it (by simp)
    have hes : e < s.heap.objs.size := Heap.lt_size he
    have his : it < s.heap.objs.size := by obtain ⟨o, q, _⟩ := hit; exact Heap.lt_size q
    refine wpAny_pyNext_enum_item he hit p.isList (x := u) (by simpa using hu) hne fun h1 ho1 hit1 ht1 hz1 hk1 => ?_
    refine ⟨_, rfl, wpAny_letOwnedTupleGo_enum (s := { s with heap := h1, toks := s.toks + 1 }) ho1 fun h2 he2 hs2 => ?_⟩
    replace hs2 : Heap.SameBut e h1 h2 := hs2
    have hn : H s.heap.objs.size = none := I.hok.fresh (Nat.le_refl _)
    have I2 : Inv X pins σ (upd H s.heap.objs.size (.tup [.int ((i : Nat) : Int), x])) { s with heap := h2, toks := s.toks + 1 } := by
      refine inv_turn2_laid I (fun b v hb hb' q => hs2.extBut b v hb (hk1 b v hb hb' q)) fe fi (Nat.le_refl _) ?_
      refine ⟨by show 2 ≤ sizeLine; decide, [.int ((i : Nat) : Int) s.toks, u], .cons ⟨_, rfl⟩ (.cons ru .nil), ⟨_, hs2.extBut _ _ (Nat.ne_of_gt hes) ht1, rfl, _, rfl⟩⟩
    refine ⟨.ref s.heap.objs.size, _, I2, rfl, ⟨_, x, rfl, hn, rfl, fun ys hy => by rw [I.list_inj hy hq]; exact hx⟩, ⟨⟨u, ?_⟩, hit1.extBut hs2.extBut (Ne.symm hne)⟩, fun b hb => ?_⟩
    · have e1 : (((i + 1 : Nat)) : Int) = (i : Int) + 1 := by omega
      show IsEnum h2 e it (((i + 1 : Nat)) : Int) u
      rw [e1]; exact he2
    · rcases List.mem_cons.mp hb with z | z
      · rw [z, upd_ne (Nat.ne_of_lt hes)]; exact fe.1
      · have z' : b = it := by simpa using z
        rw [z', upd_ne (Nat.ne_of_lt his)]; exact fi.1
  done := by
    intro X hP hw hK hc i pins s σ H E I hf st hg
    subst hP hw hK
    obtain ⟨xs, hq, hx⟩ := hg
    obtain ⟨its, rv, p, hz⟩ := I.list hq
    obtain ⟨⟨old, he⟩, hit⟩ := st
    have hl := rv.length
    exact wpAny_pyNext_enum_end (I.ok.hd hc) he hit p.isList (by simp; omega) fun h' hx' => ⟨rfl, inv_turn2 (t' := s.toks) I (fun b o _ hb' q => hx' b o hb' q) (hf e (by simp)) (hf it (by simp))⟩
  self := fun A i s Q E st h => let ⟨_, he⟩ := st.1; wpAny_pyIter_enum he h
theorem pi_enum {X : Cx} {elts : List Expr} {x1 : Nat} {pt : Pos} {l : Expr} {ta : TA} {p pos : Pos} (hg : Gl X "enumerate") (hm : X.mg "enumerate" = none) (ha : PA X [l] ta) (hs : starEach [l] X.env = [(false, eval l X.env)] := by rfl) :
    PI X (.Tuple elts x1 pt) (.Call (.Name "enumerate" p) [l] [] pos) (iEnum X.K ta) := by
  intro pins s σ H R I h
  refine Call_ (ld_blt I hg hm boot_enumerate (PyProof.Rows.callWith_type1 (thn (ha pos pins s σ H _ I h) fun us s1 ⟨vs, H1, I1, r1, q1⟩ => ?_) hs rfl))
  obtain ⟨a, e, ⟨xs, hq⟩, q⟩ := q1
  subst e
  cases r1 with
  | cons r rr =>
    cases rr
    obtain rfl : _ = Value.ref a := r
    obtain ⟨its, rv, pl, hz⟩ := I1.list hq
    refine call_enumerate_list pl.isList fun h' he hit hsz hk => ?_
    have I2 : Inv X pins σ H1 { s1 with heap := h' } := I1.kept (t' := s1.toks) hk
    refine wpAny_pyIter_enum (s := { s1 with heap := h' }) he ?_
    have hf : ∀ b, s1.heap.objs.size ≤ b → FpOk X pins H1 b := fun b hb => I1.fpOk hb (I1.hok.fresh hb)
    refine ⟨_, [s1.heap.objs.size + 1, s1.heap.objs.size], _, _, H1, rfl, I2, turn_enum a _ _ (Nat.succ_ne_self _), ⟨⟨_, he⟩, hit⟩, fun b hb => ?_, q⟩
    rcases List.mem_cons.mp hb with z | z
    · rw [z]; exact hf _ (Nat.le_succ _)
    · have z' : b = s1.heap.objs.size := by simpa using z
      rw [z']; exact hf _ (Nat.le_refl _)
end G
namespace G
open PySem L2 PySem.Spec PyProof.Rows
section
variable {X : Cx} {i o : Expr} {ty td : TE}
end
end G
namespace G
open PySem L2 PySem.Spec PyProof.Rows
section
variable {X : Cx}
end
end G
namespace G
open PySem L2 PySem.Spec PyProof.Rows
def Itz (K : PySem.W.Frag) (a b : Addr) : It :=
  ⟨fun i H => ∃ xs ys x y, SqL K H a xs ∧ SqL K H b ys ∧ xs[i]? = some x ∧ ys[i]? = some y,
   fun i H v H' => ∃ t x y, v = .ref t ∧ H t = none ∧ H' = upd H t (.tup [x, y]) ∧ (∀ xs, SqL K H a xs → xs[i]? = some x) ∧ ∀ ys, SqL K H b ys → ys[i]? = some y,
   fun i H => ∃ xs ys, SqL K H a xs ∧ SqL K H b ys ∧ (xs.length ≤ i ∨ ys.length ≤ i)⟩
def iZip (K : PySem.W.Frag) (ta : TA) : TI := fun σ H R => ta σ H fun vs H1 => ∃ a b, vs = [.ref a, .ref b] ∧ (∃ xs, SqL K H1 a xs) ∧ (∃ ys, SqL K H1 b ys) ∧ R (Itz K a b) H1
theorem i_iZ {K : PySem.W.Frag} {ta : TA} {σ : L2.St} {H : Hp} {R : It → Hp → Prop} (h : ta σ H fun vs H1 => ∃ a b, vs = [.ref a, .ref b] ∧ (∃ xs, SqL K H1 a xs) ∧ (∃ ys, SqL K H1 b ys) ∧ R (Itz K a b) H1) : iZip K ta σ H R := h
section
variable {X : Cx} {pins : List (Addr × Obj)} {σ : L2.St} {H : Hp} {s : Shared} {h' : Heap} {t' : Nat} {ch : List Addr}
theorem inv_turns (I : Inv X pins σ H s) (k : ∀ b u, b ∉ ch → s.heap.get? b = some u → h'.get? b = some u) (f : ∀ e ∈ ch, FpOk X pins H e) : Inv X pins σ H { s with heap := h', toks := t' } := by
  have ne : ∀ b u, H b = some u → b ∉ ch := fun b u q z => by rw [(f b z).1] at q; cases q
  refine I.step (g' := s.gens) (d' := s.drawn) (ch := ch) (fun b hb => ⟨(f b hb).2.2.2.1, (f b hb).2.1, (f b hb).2.2.2.2.1, (f b hb).2.2.2.2.2⟩) (fun b o _ _ hc q _ => k b o hc q) (fun b o _ _ hc q _ => ⟨o.slots, k b o hc q⟩) (fun _ _ _ _ n => n)
    (fun b o hc q => ⟨o, k b o hc q⟩) (fun _ _ q => q) (fun _ _ _ q => q) (fun b ps q => ⟨#[], by rw [q]; simp⟩) (fun m hm => ?_) (fun b u q => ?_) I.bare
  · obtain ⟨o, es, ep, ho, r⟩ := hm
    exact ⟨o, es, ep, k _ o (fun z => (f _ z).2.1 rfl) ho, r⟩
  · refine (I.hok b u q).stay (fun c v hc z => ?_) (fun _ z => z) fun _ _ z => z
    rcases hc with y | y
    · rw [y] at z ⊢; exact k b v (ne b u q) z
    · exact k c v (ne c _ y) z
theorem inv_turns_laid {a : Addr} {o : HO} (I : Inv X pins σ H s) (k : ∀ b u, b ∉ ch → s.heap.get? b = some u → h'.get? b = some u) (f : ∀ e ∈ ch, FpOk X pins H e) (ha : s.heap.objs.size ≤ a) (new : ObjOk X.prog X.w (upd H a o) h' a o) : Inv X pins σ (upd H a o) { s with heap := h', toks := t' } := by
  have hn := I.hok.fresh ha
  have ne : ∀ b u, H b = some u → b ∉ ch := fun b u q z => by rw [(f b z).1] at q; cases q
  have na : ∀ b u, s.heap.get? b = some u → b ≠ a := fun b u q => Nat.ne_of_lt (Nat.lt_of_lt_of_le (Heap.lt_size q) ha)
  refine I.step (g' := s.gens) (d' := s.drawn) (ch := ch) (fun b hb => ⟨(f b hb).2.2.2.1, (f b hb).2.1, (f b hb).2.2.2.2.1, (f b hb).2.2.2.2.2⟩) (fun b o _ _ hc q _ => k b o hc q) (fun b o _ _ hc q _ => ⟨o.slots, k b o hc q⟩) (fun b u _ q n => (upd_ne (na b u q)).trans n)
    (fun b o hc q => ⟨o, k b o hc q⟩) (fun b xs q => (upd_ne (ne_of_none q hn)).trans q) (fun b o xs q => (upd_ne (ne_of_none q hn)).trans q) (fun b ps q => ⟨#[], by rw [upd_ne (ne_of_none q hn), q]; simp⟩) (fun m hm => ?_) (fun b u q => ?_) I.bare
  · obtain ⟨o, es, ep, ho, r⟩ := hm
    exact ⟨o, es, ep, k _ o (fun z => (f _ z).2.1 rfl) ho, r⟩
  · by_cases hb : b = a
    · subst hb; rw [upd_same] at q; cases q; exact new
    · rw [upd_ne hb] at q
      refine (I.hok b u q).stay (fun c v hc z => ?_) (fun c z => by rw [upd_ne (ne_of_none z hn)]; exact z) fun c xs z => by rw [upd_ne (ne_of_none z hn)]; exact z
      rcases hc with y | y
      · rw [y] at z ⊢; exact k b v (ne b u q) z
      · exact k c v (ne c _ y) z
end
structure Zd (z TI TO i1 i2 : Addr) : Prop where
  TIz : TI ≠ z
  TOz : TO ≠ z
  i1z : i1 ≠ z
  i2z : i2 ≠ z
  TITO : TI ≠ TO
  TIi1 : TI ≠ i1
  TIi2 : TI ≠ i2
  TOi1 : TO ≠ i1
  TOi2 : TO ≠ i2
  i12 : i1 ≠ i2
def ZipSt (a b z TI TO i1 i2 : Addr) (i : Nat) (h : Heap) : Prop := IsZip h z TI TO .none ∧ IsPair h TI (.ref i1) (.ref i2) ∧ (∃ u v, IsPair h TO u v) ∧ h.IsListIter i1 a i ∧ h.IsListIter i2 b i
theorem zip_apart {a b z TI TO i1 i2 : Addr} {i : Nat} {h : Heap} {xs ys : Array Value} (d : Zd z TI TO i1 i2) (st : ZipSt a b z TI TO i1 i2 i h) (ha : h.IsList a xs) (hb : h.IsList b ys) : ZipApart z TI TO i1 i2 a b := by
  obtain ⟨hz, hTI, ⟨u, v, hTO⟩, h1, h2⟩ := st
  have A : ∀ {c : Addr} {vs : Array Value}, h.IsList c vs → c ≠ z ∧ c ≠ TO ∧ c ≠ i1 ∧ c ≠ i2 := fun {c vs} hc => by
    obtain ⟨o, ho, hcl, hd⟩ := hc
    refine ⟨fun e => ?_, fun e => ?_, fun e => ?_, fun e => ?_⟩
    · subst e; rw [hz] at ho; cases ho; simp at hcl
    · subst e; rw [hTO] at ho; cases ho; simp at hcl
    · subst e; obtain ⟨o2, q, c2, d2⟩ := h1; rw [q] at ho; cases ho; rw [hcl] at c2; simp at c2
    · subst e; obtain ⟨o2, q, c2, d2⟩ := h2; rw [q] at ho; cases ho; rw [hcl] at c2; simp at c2
  have a1 := A ha
  have b1 := A hb
  exact ⟨d.TIz, d.TOz, d.i1z, d.i2z, d.TITO, d.TIi1, d.TIi2, d.TOi1, d.TOi2, d.i12, a1.1, a1.2.1, a1.2.2.1, a1.2.2.2, b1.1, b1.2.1, b1.2.2.1, b1.2.2.2⟩
theorem turn_zip {P : Program} {w : World} {K : PySem.W.Frag} {elts : List Expr} {x1 : Nat} {pt : Pos} (a b z TI TO i1 i2 : Addr) (D : Zd z TI TO i1 i2) :
    Turn P w K (.Tuple elts x1 pt) (Itz K a b) [z, TI, TO, i1, i2] z (ZipSt a b z TI TO i1 i2) where
  mem := by simp
  obj := fun i h st c hc => by
    obtain ⟨hz, hTI, ⟨u, v, hTO⟩, ⟨o1, q1, c1, d1⟩, ⟨o2, q2, c2, d2⟩⟩ := st
    simp only [List.mem_cons, List.not_mem_nil, or_false] at hc
    rcases hc with e | e | e | e | e
    · rw [e]; exact ⟨_, hz, fun v z => by cases z⟩
    · rw [e]; exact ⟨_, hTI, fun v z => by cases z⟩
    · rw [e]; exact ⟨_, hTO, fun v z => by cases z⟩
    · rw [e]; exact ⟨o1, q1, fun v z => by rw [d1] at z; cases z⟩
    · rw [e]; exact ⟨o2, q2, fun v z => by rw [d2] at z; cases z⟩
  keep := fun i h h' st k => by
    obtain ⟨hz, hTI, ⟨u, v, hTO⟩, h1, h2⟩ := st
    exact ⟨k z (by simp) _ hz, k TI (by simp) _ hTI, ⟨u, v, k TO (by simp) _ hTO⟩, h1.at fun o q => k i1 (by simp) o q, h2.at fun o q => k i2 (by simp) o q⟩
  item := by
    intro X hP hw hK hc i pins s σ H E I hf st hg
    subst hP hw hK
    obtain ⟨xs, ys, x, y, hq, hr, hx, hy⟩ := hg
    obtain ⟨its, rv, p, hzl⟩ := I.list hq
    obtain ⟨jts, rw', p2, hzl2⟩ := I.list hr
    obtain ⟨u, hu, ru⟩ := rv.get hx
    obtain ⟨v, hv, rv2⟩ := rw'.get hy
    have AP := zip_apart D st p.isList p2.isList
    obtain ⟨hz, hTI, ⟨o1, o2, hTO⟩, h1, h2⟩ := st
    have lt : ∀ {c o}, s.heap.get? c = some o → c < s.heap.objs.size := fun e => Heap.lt_size e
    have l1 : i1 < s.heap.objs.size := by obtain ⟨_, e, _⟩ := h1; exact lt e
    have l2 : i2 < s.heap.objs.size := by obtain ⟨_, e, _⟩ := h2; exact lt e
    refine wpAny_pyNext_zip_item AP hz hTI hTO h1 h2 p.isList p2.isList (x := u) (y := v) (by simpa using hu) (by simpa using hv) fun h' a1 a2 a3 a4 a5 a6 hk => ?_
    refine ⟨_, rfl, wpAny_letOwnedTupleGo_zip (s := { s with heap := h' }) a1 fun h2' hz2 hs2 => ?_⟩
    replace hs2 : Heap.SameBut z h' h2' := hs2
    have hn : H s.heap.objs.size = none := I.hok.fresh (Nat.le_refl _)
    have I2 : Inv X pins σ (upd H s.heap.objs.size (.tup [x, y])) { s with heap := h2', toks := s.toks } := by
      refine inv_turns_laid (ch := [z, TI, TO, i1, i2]) I (fun c o hcn q => ?_) hf (Nat.le_refl _) ?_
      · simp only [List.mem_cons, List.not_mem_nil, or_false, not_or] at hcn
        exact hs2.extBut c o hcn.1 (hk c o hcn.1 hcn.2.2.1 hcn.2.2.2.1 hcn.2.2.2.2 q)
      · exact ⟨by show 2 ≤ sizeLine; decide, [u, v], .cons ru (.cons rv2 .nil), ⟨_, hs2.extBut _ _ (Nat.ne_of_gt (lt hz)) a5, rfl, _, rfl⟩⟩
    refine ⟨.ref s.heap.objs.size, _, I2, rfl, ⟨_, x, y, rfl, hn, rfl, fun zs h => by rw [I.list_inj h hq]; exact hx, fun zs h => by rw [I.list_inj h hr]; exact hy⟩, ⟨hz2, ?_, ?_, ?_, ?_⟩, fun c hcm => ?_⟩
    · exact hs2.extBut _ _ D.TIz (hk TI _ D.TIz D.TITO D.TIi1 D.TIi2 hTI)
    · exact ⟨u, v, hs2.extBut _ _ D.TOz a2⟩
    · exact a3.extBut hs2.extBut D.i1z
    · exact a4.extBut hs2.extBut D.i2z
    · have lc : c < s.heap.objs.size := by
        simp only [List.mem_cons, List.not_mem_nil, or_false] at hcm
        rcases hcm with e | e | e | e | e
        · rw [e]; exact lt hz
        · rw [e]; exact lt hTI
        · rw [e]; exact lt hTO
        · rw [e]; exact l1
        · rw [e]; exact l2
      rw [upd_ne (Nat.ne_of_lt lc)]; exact (hf c hcm).1
  done := by
    intro X hP hw hK hc i pins s σ H E I hf st hg
    subst hP hw hK
    obtain ⟨xs, ys, hq, hr, hx⟩ := hg
    obtain ⟨its, rv, p, hzl⟩ := I.list hq
    obtain ⟨jts, rw', p2, hzl2⟩ := I.list hr
    have AP := zip_apart D st p.isList p2.isList
    obtain ⟨hz, hTI, ⟨o1, o2, hTO⟩, h1, h2⟩ := st
    have e1 := rv.length
    have e2 := rw'.length
    refine wpAny_pyNext_zip_end (I.ok.hd hc) AP hz hTI hTO h1 h2 p.isList p2.isList ?_ fun h' hk => ⟨rfl, inv_turns (ch := [z, TI, TO, i1, i2]) (t' := s.toks) I (fun c o hcn q => ?_) hf⟩
    · rcases hx with hx | hx
      · exact .inl (by simp; omega)
      · exact .inr (by simp; omega)
    · simp only [List.mem_cons, List.not_mem_nil, or_false, not_or] at hcn
      exact hk c o hcn.1 hcn.2.2.1 hcn.2.2.2.1 hcn.2.2.2.2 q
  self := fun A i s Q E st h => wpAny_pyIter_zip st.1 h
theorem zd_of (n : Nat) : Zd (n + 4) (n + 2) (n + 3) n (n + 1) := ⟨(by omega : ((n + 2 : Nat) ≠ (n + 4 : Nat))), (by omega : ((n + 3 : Nat) ≠ (n + 4 : Nat))), (by omega : ((n : Nat) ≠ (n + 4 : Nat))), (by omega : ((n + 1 : Nat) ≠ (n + 4 : Nat))), (by omega : ((n + 2 : Nat) ≠ (n + 3 : Nat))), (by omega : ((n + 2 : Nat) ≠ (n : Nat))), (by omega : ((n + 2 : Nat) ≠ (n + 1 : Nat))), (by omega : ((n + 3 : Nat) ≠ (n : Nat))), (by omega : ((n + 3 : Nat) ≠ (n + 1 : Nat))), (by omega : ((n : Nat) ≠ (n + 1 : Nat)))⟩
theorem pi_zip {X : Cx} {elts : List Expr} {x1 : Nat} {pt : Pos} {l r : Expr} {ta : TA} {p pos : Pos} (hg : Gl X "zip") (hm : X.mg "zip" = none) (ha : PA X [l, r] ta) (hs : starEach [l, r] X.env = (false, eval l X.env) :: starEach [r] X.env := by rfl) (hp : (backTo pos (starEach [r] X.env)).any (·.1) = false := by rfl) :
    PI X (.Tuple elts x1 pt) (.Call (.Name "zip" p) [l, r] [] pos) (iZip X.K ta) := by
  intro pins s σ H R I h
  refine Call_ (ld_blt I hg hm boot_zip (PyProof.Rows.callWith_type1 (thn (ha pos pins s σ H _ I h) fun us s1 ⟨vs, H1, I1, r1, q1⟩ => ?_) hs hp))
  obtain ⟨a, b, e, ⟨xs, hq⟩, ⟨ys, hr⟩, q⟩ := q1
  subst e
  cases r1 with
  | cons ra rr =>
    cases rr with
    | cons rb rr =>
      cases rr
      obtain rfl : _ = Value.ref a := ra
      obtain rfl : _ = Value.ref b := rb
      obtain ⟨its, rv, pl, hz⟩ := I1.list hq
      obtain ⟨jts, rv2, pl2, hz2⟩ := I1.list hr
      refine call_zip_2 pl.isList pl2.isList fun h' hzp hTI hTO h1 h2 hsz hk => ?_
      have I2 : Inv X pins σ H1 { s1 with heap := h' } := I1.kept (t' := s1.toks) hk
      refine wpAny_pyIter_zip (s := { s1 with heap := h' }) hzp ?_
      have hf : ∀ b, s1.heap.objs.size ≤ b → FpOk X pins H1 b := fun b hb => I1.fpOk hb (I1.hok.fresh hb)
      refine ⟨_, [s1.heap.objs.size + 4, s1.heap.objs.size + 2, s1.heap.objs.size + 3, s1.heap.objs.size, s1.heap.objs.size + 1], _, _, H1, rfl, I2, turn_zip a b _ _ _ _ _ (zd_of _), ⟨hzp, hTI, ⟨_, _, hTO⟩, h1, h2⟩, fun c hc => ?_, q⟩
      simp only [List.mem_cons, List.not_mem_nil, or_false] at hc
      have hc2 : (s1.heap.objs.size : Nat) ≤ (c : Nat) := by
        rcases hc with e | e | e | e | e <;> rw [e]
        · exact Nat.le_add_right _ _
        · exact Nat.le_add_right _ _
        · exact Nat.le_add_right _ _
        · exact Nat.le_refl _
        · exact Nat.le_add_right _ _
      exact hf c hc2
section
variable {K : PySem.W.Frag} {a b : Addr} {g : TG} {tb : TS} {σ : L2.St} {H : Hp} {n : L2.St → Hp → Prop} {r : VK}
theorem forZ (xs ys : List V) (hlen : xs.length = ys.length) (Pv : Nat → L2.St → Hp → Prop) (h0 : Pv 0 σ H) (hl : ∀ i σ H, i ≤ xs.length → Pv i σ H → SqL K H a xs ∧ SqL K H b ys)
    (hs : ∀ i x y t σ H, xs[i]? = some x → ys[i]? = some y → Pv i σ H → H t = none → g (.ref t) σ (upd H t (.tup [x, y])) fun σ2 H2 => tb ⟨Pv (i + 1), r, n, Pv (i + 1)⟩ σ2 H2) (hd : ∀ σ H, Pv xs.length σ H → n σ H) :
    ∃ W : Nat → Nat → L2.St → Hp → Prop, (∃ m, W 0 m σ H) ∧ ∀ i m σ H, W i m σ H →
      ((Itz K a b).stop i H ∧ n σ H) ∨ ((Itz K a b).go i H ∧ ∃ N : L2.St → Hp → Prop, (∀ σ' H', N σ' H' → ∃ m', m' < m ∧ W (i + 1) m' σ' H') ∧ ∀ x H', (Itz K a b).yld i H x H' → g x σ H' fun σ2 H2 => tb ⟨N, r, n, N⟩ σ2 H2) := by
  refine ⟨fun i m σ H => i ≤ xs.length ∧ m = xs.length - i ∧ Pv i σ H, ⟨xs.length, Nat.zero_le _, rfl, h0⟩, ?_⟩
  rintro i m σ H ⟨hi, rfl, p⟩
  obtain ⟨hq, hr⟩ := hl i σ H hi p
  by_cases hk : i = xs.length
  · subst hk
    exact .inl ⟨⟨xs, ys, hq, hr, .inl (Nat.le_refl _)⟩, hd σ H p⟩
  · have hlt : i < xs.length := by omega
    have hx : xs[i]? = some xs[i] := List.getElem?_eq_getElem hlt
    have hy : ys[i]? = some (ys[i]'(by omega)) := List.getElem?_eq_getElem (by omega)
    refine .inr ⟨⟨xs, ys, _, _, hq, hr, hx, hy⟩, Pv (i + 1), fun σ' H' p' => ⟨xs.length - (i + 1), by omega, by omega, rfl, p'⟩, ?_⟩
    rintro v H' ⟨t, x, y, rfl, ht, rfl, h1, h2⟩
    exact hs i x y t σ H (h1 xs hq) (h2 ys hr) p ht
end
end G
namespace G
open PySem L2 PySem.Spec PyProof.Rows
section
variable {X : Cx}
end
end G
namespace G
open PySem L2 PySem.Spec PyProof.Rows PySem.Builtin PySem.Builtin.Str
theorem vals_strs : ∀ l : List (Str × Tok), Vals ((l.map (·.1)).map V.str) (strValues l)
  | [] => .nil
  | p :: l => .cons ⟨p.2, rfl⟩ (vals_strs l)
theorem strs_are : ∀ {ys : List Str} {us : List Value}, Vals (ys.map V.str) us → StrsAre us ys
  | [], _, .nil => .nil
  | y :: ys, _, .cons ⟨t, e⟩ r => by subst e; exact .cons y t (strs_are r)
theorem split_raw {prog : Program} {w : World} {A : Around} {E : Value → Shared → Prop} {s : Shared} {x y : Str} {t u : Tok} {Q : Value → Shared → Prop} (hy : (y.length == 0) = false)
    (h : ∀ (l : List (Str × Tok)) (k : Nat), l.map (·.1) = Txt.split x y → Q (.ref s.heap.objs.size) { s with heap := s.heap.push { cls := .type "list", data := .seq (strValues l).toArray }, toks := k })
    (hsz : x.length + 2 ≤ sizeLine) : wpAny (model prog w) A (call (.builtin "str.split") [.str x t, .str y u]) Q E s := by
  have hn : (partsBetween x (occurrences x y 0 x.length (x.length + 1)) y.length).length ≤ sizeLine := by
    have := StrLaws.occ_length_le x y 0 x.length (x.length + 1)
    rw [length_partsBetween]; omega
  cases h1 : (decide (x.length < y.length) || decide (strKind x < strKind y)) with
  | false =>
    cases hf : (occurrences x y 0 x.length (x.length + 1)).isEmpty with
    | false =>
      refine call_meets PySem.F.slot_str_split (typeIs_str _ _ _) PySem.F.entry_str_split (PySem.F.args_str_split_2 _ _) (meets_str_split_sep x y t u h1 hy hf (by omega) hn) ?_
      show wants Q E _ { s with toks := _, heap := s.heap.push { cls := .type "list", data := .seq (strsFrom s.toks (partsBetween x (occurrences x y 0 x.length (x.length + 1)) y.length)).toArray } }
      rw [strsFrom_eq]
      exact h (numbered s.toks _) _ ((numbered_texts _ _).trans ((if_neg (ne_true_of_eq_false h1)).trans (if_neg (ne_true_of_eq_false hf))).symm)
    | true =>
      exact call_meets PySem.F.slot_str_split (typeIs_str _ _ _) PySem.F.entry_str_split (PySem.F.args_str_split_2 _ _) (meets_str_split_not_found x y t u h1 hy hf)
        (h [(x, t)] s.toks ((if_neg (ne_true_of_eq_false h1)).trans (if_pos hf)).symm)
  | true =>
    exact call_meets PySem.F.slot_str_split (typeIs_str _ _ _) PySem.F.entry_str_split (PySem.F.args_str_split_2 _ _) (meets_str_split_cannot_occur x y t u h1)
      (h [(x, t)] s.toks (if_pos h1).symm)
def r_split : V → List V → Hp → VK → Prop := fun x xs H Q => ∃ z y, x = .str z ∧ xs = [.str y] ∧ (y.length == 0) = false ∧ z.length ≤ 1000000 ∧ ∀ l, H l = none → Q (.ref l) (upd H l (.lst ((Txt.split z y).map V.str)))
def r_join (K : PySem.W.Frag) : V → List V → Hp → VK → Prop := fun x xs H Q => ∃ z a ys, x = .str z ∧ xs = [.ref a] ∧ SqL K H a (ys.map V.str) ∧ z.length ≤ 16 ∧ (ys.map (·.length)).sum + ys.length ≤ 1048576 ∧ Q (.str (Txt.join z ys)) H
section
variable {X : Cx}
theorem mt_split : MtM X "str.split" r_split := by
  intro pins s σ H x xs v us Q I rx rv h
  obtain ⟨z, y, rfl, rfl, hy, hz, q⟩ := h
  obtain ⟨t, rfl⟩ := rx
  obtain ⟨u, rfl, ru⟩ := rv.one
  obtain ⟨t', rfl⟩ := ru
  have hsz : z.length + 2 ≤ sizeLine := by rw [sizeLine_eq]; omega
  refine split_raw hy (fun l k e => ?_) hsz
  have hn := I.hok.fresh (Nat.le_refl s.heap.objs.size)
  have hl := split_le z y
  have I1 : Inv X pins σ (upd H s.heap.objs.size (.lst ((Txt.split z y).map V.str))) { s with heap := s.heap.push { cls := .type "list", data := .seq (strValues l).toArray }, toks := k } :=
    I.laid (fun b u e => Heap.get?_push_of_some _ e) (Nat.le_refl _) ⟨by rw [List.length_map]; omega, strValues l, 0, by rw [← e]; exact vals_strs l, Heap.get?_push_size _ rfl⟩
  exact ⟨.ref s.heap.objs.size, _, I1, rfl, q _ hn⟩
theorem mt_join : MtM X "str.join" (r_join X.K) := by
  intro pins s σ H x xs v us Q I rx rv h
  obtain ⟨z, a, ys, rfl, rfl, hq, hz, hw, q⟩ := h
  obtain ⟨t, rfl⟩ := rx
  obtain ⟨u, rfl, ru⟩ := rv.one
  obtain rfl : u = Value.ref a := ru
  obtain ⟨its, r, pl, _⟩ := I.list hq
  exact join_listW pl.isList (strs_are r) hz hw fun t' k => ⟨.str (Txt.join z ys), H, I.tok _, ⟨t', rfl⟩, q⟩
end
def cStrV : List V → Hp → VK → Prop := fun xs H Q => cStrI xs H Q ∨ ∃ z, xs = [.str z] ∧ Q (.str z) H
theorem call_strV {X : Cx} : CallR X (.type "str") cStrV := by
  intro pins s σ H xs us Q I r h
  rcases h with h | ⟨z, rfl, q⟩
  · exact call_strI pins s σ H xs us Q I r h
  · obtain ⟨u, rfl, t, rfl⟩ := vals1 r
    exact PySem.P.str_of_str ⟨.str z, H, I, ⟨t, rfl⟩, q⟩
def TupG (K : PySem.W.Frag) (a : Addr) (xs : List V) : Prop := ∀ H, SqT K H a xs
def jl (c : Nat) : List Str → List Nat
  | [] => []
  | [x] => x.cps.toList
  | x :: y :: r => x.cps.toList ++ c :: jl c (y :: r)
theorem join_jl (c : Nat) : ∀ ps : List Str, (Str.join ⟨#[c]⟩ ps).cps.toList = jl c ps
  | [] => rfl
  | [x] => rfl
  | x :: y :: r => by
    show (x ++ ⟨#[c]⟩ ++ Str.join ⟨#[c]⟩ (y :: r)).cps.toList = _
    rw [show (x ++ ⟨#[c]⟩ ++ Str.join ⟨#[c]⟩ (y :: r)).cps.toList = x.cps.toList ++ [c] ++ (Str.join ⟨#[c]⟩ (y :: r)).cps.toList from by rw [cps_toList_append, cps_toList_append], join_jl c (y :: r)]
    show _ = x.cps.toList ++ c :: jl c (y :: r)
    rw [List.append_assoc]; rfl
theorem cut_uniq {c : Nat} : ∀ {a b r r' : List Nat}, c ∉ a → c ∉ b → a ++ c :: r = b ++ c :: r' → a = b ∧ r = r'
  | [], [], _, _, _, _, e => ⟨rfl, (List.cons.inj e).2⟩
  | [], y :: b, _, _, _, hb, e => absurd (List.cons.inj e).1 (fun z => hb (by rw [z]; simp))
  | x :: a, [], _, _, ha, _, e => absurd (List.cons.inj e).1 (fun z => ha (by rw [← z]; simp))
  | x :: a, y :: b, _, _, ha, hb, e => by
    obtain ⟨e1, e2⟩ := List.cons.inj e
    obtain ⟨h1, h2⟩ := cut_uniq (fun z => ha (by simp [z])) (fun z => hb (by simp [z])) e2
    exact ⟨by rw [e1, h1], h2⟩
theorem str_ext {p q : Str} (h : p.cps.toList = q.cps.toList) : p = q := by
  cases p; cases q
  congr 1
  exact Array.toList_inj.mp h
theorem join_uniq (c : Nat) : ∀ {ps qs : List Str}, ps ≠ [] → qs ≠ [] → (∀ p ∈ ps, c ∉ p.cps.toList) → (∀ p ∈ qs, c ∉ p.cps.toList) → jl c ps = jl c qs → ps = qs
  | [], _, h, _, _, _, _ => absurd rfl h
  | _ :: _, [], _, h, _, _, _ => absurd rfl h
  | [p], [q], _, _, _, _, e => by rw [str_ext e]
  | [p], q :: q' :: qs, _, _, hp, _, e => by
    have e : p.cps.toList = q.cps.toList ++ c :: jl c (q' :: qs) := e
    exact absurd (by rw [e]; simp) (hp p (by simp))
  | p :: p' :: ps, [q], _, _, _, hq, e => by
    have e : p.cps.toList ++ c :: jl c (p' :: ps) = q.cps.toList := e
    exact absurd (by rw [← e]; simp) (hq q (by simp))
  | p :: p' :: ps, q :: q' :: qs, _, _, hp, hq, e => by
    obtain ⟨h1, h2⟩ := cut_uniq (hp p (by simp)) (hq q (by simp)) (show p.cps.toList ++ c :: jl c (p' :: ps) = q.cps.toList ++ c :: jl c (q' :: qs) from e)
    rw [str_ext h1, join_uniq c (by simp) (by simp) (fun x hx => hp x (by simp [hx])) (fun x hx => hq x (by simp [hx])) h2]
theorem split_join {c : Nat} {ps : List Str} (hn : ps ≠ []) (h : ∀ p ∈ ps, c ∉ p.cps.toList) : Txt.split (Str.join ⟨#[c]⟩ ps) ⟨#[c]⟩ = ps := by
  refine join_uniq c (fun z => ?_) hn (StrLaws.split_free _ c) h ?_
  · have := split_pos (Str.join ⟨#[c]⟩ ps) ⟨#[c]⟩
    rw [z] at this
    cases this
  · rw [← join_jl, ← join_jl, StrLaws.join_split]
end G
namespace G
open PySem L2 PySem.Spec PyProof.Rows
def SqIt (tup : Bool) (h : Heap) (it src : Addr) (k : Nat) : Prop := match tup with
  | true => h.IsTupleIter it src k
  | false => h.IsListIter it src k
def SqAt (tup : Bool) (h : Heap) (src : Addr) (items : Array Value) : Prop := match tup with
  | true => h.IsTuple src items
  | false => h.IsList src items
theorem SqIt.ext {tup : Bool} {h h' : Heap} {it src b : Addr} {k : Nat} (x : SqIt tup h it src k) (hs : Heap.ExtBut b h h') (n : it ≠ b) : SqIt tup h' it src k := by
  cases tup
  · exact Heap.IsListIter.extBut x hs n
  · exact Heap.IsTupleIter.extBut x hs n
theorem SqAt.ext {tup : Bool} {h h' : Heap} {src b : Addr} {items : Array Value} (x : SqAt tup h src items) (hs : Heap.ExtBut b h h') (n : src ≠ b) : SqAt tup h' src items := by
  cases tup
  · exact Heap.IsList.extBut x hs n
  · exact Heap.IsTuple.extBut x hs n
theorem SqIt.obj {tup : Bool} {h : Heap} {it src : Addr} {k : Nat} (x : SqIt tup h it src k) : ∃ o, h.get? it = some o ∧ ∃ fs, o.data = .fields fs := by
  cases tup
  · obtain ⟨o, ho, _, d⟩ := (show h.IsListIter it src k from x); exact ⟨o, ho, _, d⟩
  · obtain ⟨o, ho, _, d⟩ := (show h.IsTupleIter it src k from x); exact ⟨o, ho, _, d⟩
theorem SqIt.at {tup : Bool} {h h' : Heap} {it src : Addr} {k : Nat} (x : SqIt tup h it src k) (f : ∀ o, h.get? it = some o → h'.get? it = some o) : SqIt tup h' it src k := by
  cases tup
  · obtain ⟨o, ho, r⟩ := (show h.IsListIter it src k from x); exact ⟨o, f o ho, r⟩
  · obtain ⟨o, ho, r⟩ := (show h.IsTupleIter it src k from x); exact ⟨o, f o ho, r⟩
section
variable {prog : Program} {w : World} {A : Around} {E : Value → Shared → Prop} {s : Shared}
theorem next_tup {it t : Addr} {i : Nat} {items : Array Value} {x : Value} {Q : Value → Shared → Prop} (hit : s.heap.IsTupleIter it t i) (ht : s.heap.IsTuple t items) (hx : items[i]? = some x) (hQ : ∀ h', h'.IsTupleIter it t (i + 1) → Heap.SameBut it s.heap h' → Q x { s with heap := h' }) :
    wpAny (model prog w) A (Builtin.SmallTypes.nextOf (.ref it)) Q E s := by
  obtain ⟨o, ho, hc, hd⟩ := id hit
  obtain ⟨ol, hol, _, nl, hdl⟩ := ht
  unfold Builtin.SmallTypes.nextOf
  refine wpAny_bind (wpAny_callSpecial?_slot (name := Str.ofString "__next__") hit.typeIs F.slot_tuple_iterator_next (wpAny_call_entry F.slot_tuple_iterator_next hit.typeIs F.entry_tuple_iterator_next ?_ (F.args_tuple_iterator_next_1 _)))
  show wpAny _ _ (field (.ref it) 0 >>= _) _ _ s
  refine wpAny_bind (wpAny_field ho hd (x := .ref t) rfl ?_)
  show wpAny _ _ (if (Value.ref t == Value.none) = true then _ else _) _ _ s
  rw [if_neg (show ¬ ((Value.ref t == Value.none) = true) from Bool.false_ne_true)]
  show wpAny _ _ (field (.ref it) 1 >>= _) _ _ s
  refine wpAny_bind (wpAny_field ho hd (x := .int i 0) rfl ?_)
  show wpAny _ _ (seqItems? (.ref t) >>= _) _ _ s
  refine wpAny_bind (wpAny_seqItems hol hdl ?_)
  simp only [Int.toNat_natCast, hx]
  refine wpAny_bind (wpAny_setField ho hd (by simp) (wpAny_pure ⟨x, rfl, wpAny_pure (hQ _ ?_ (Heap.SameBut.update ..))⟩))
  exact ⟨_, Heap.get?_update_self _ ho (Obj.isFreed_of_fields (Obj.data_mapFields hd _)), (Obj.cls_mapFields ..).trans hc, by rw [Obj.data_mapFields hd]; simp [rawInt]⟩
theorem next_tup_end {it t : Addr} {i : Nat} {items : Array Value} {Q : Value → Shared → Prop} (hh : A.handled = none) (hit : s.heap.IsTupleIter it t i) (ht : s.heap.IsTuple t items) (hx : items[i]? = none)
    (hE : ∀ h' e, Heap.ExtBut it s.heap h' → (∃ o, h'.get? e = some o ∧ o.cls = .type "StopIteration") → E (.ref e) { s with heap := h' }) : wpAny (model prog w) A (Builtin.SmallTypes.nextOf (.ref it)) Q E s := by
  obtain ⟨o, ho, hc, hd⟩ := id hit
  obtain ⟨ol, hol, _, nl, hdl⟩ := ht
  unfold Builtin.SmallTypes.nextOf
  refine wpAny_bind (wpAny_callSpecial?_slot (name := Str.ofString "__next__") hit.typeIs F.slot_tuple_iterator_next (wpAny_call_entry F.slot_tuple_iterator_next hit.typeIs F.entry_tuple_iterator_next ?_ (F.args_tuple_iterator_next_1 _)))
  show wpAny _ _ (field (.ref it) 0 >>= _) _ _ s
  refine wpAny_bind (wpAny_field ho hd (x := .ref t) rfl ?_)
  show wpAny _ _ (if (Value.ref t == Value.none) = true then _ else _) _ _ s
  rw [if_neg (show ¬ ((Value.ref t == Value.none) = true) from Bool.false_ne_true)]
  show wpAny _ _ (field (.ref it) 1 >>= _) _ _ s
  refine wpAny_bind (wpAny_field ho hd (x := .int i 0) rfl ?_)
  show wpAny _ _ (seqItems? (.ref t) >>= _) _ _ s
  refine wpAny_bind (wpAny_seqItems hol hdl ?_)
  simp only [Int.toNat_natCast, hx]
  refine wpAny_bind (wpAny_rule (wpAny_bind (wpAny_setField ho hd (by simp) ?_)))
  show wpAny _ _ (newExc (.type "StopIteration") [] >>= _) _ _ _
  refine wpAny_bind ?_
  simp only [newExc, newTuple]
  refine wpAny_bind (wpAny_newObj_type ?_ (by size_fits))
  refine wpAny_bind (m := firstArgMember _ _) (wpAny_of_eq (a := Value.none) (by first | rfl | (simp only [firstArgMember]; rfl)) ?_)
  refine wpAny_newObj_type ?_ (by size_fits)
  simp only [raiseNew]
  refine wpAny_bind (wpAny_handled ?_)
  first | rw [show A.in1.handled = none from hh] | rw [hh]
  refine wpAny_bind (wpAny_pure (wpAny_throw ?_))
  exact hE _ _ (((Heap.SameBut.update ..).extBut.push _).push _) ⟨_, Heap.get?_push_size _ rfl, rfl⟩
theorem nx_item {tup : Bool} {it l : Addr} {i : Nat} {items : Array Value} {x : Value} {Q : Value → Shared → Prop} (hit : SqIt tup s.heap it l i) (hl : SqAt tup s.heap l items) (hx : items[i]? = some x) (hQ : ∀ h', SqIt tup h' it l (i + 1) → Heap.SameBut it s.heap h' → Q x { s with heap := h' }) :
    wpAny (model prog w) A (Builtin.SmallTypes.nextOf (.ref it)) Q E s := by
  cases tup
  · exact wpAny_nextOf_list_item hit hl hx hQ
  · exact next_tup hit hl hx hQ
theorem nx_end {tup : Bool} {it l : Addr} {i : Nat} {items : Array Value} {Q : Value → Shared → Prop} (hh : A.handled = none) (hit : SqIt tup s.heap it l i) (hl : SqAt tup s.heap l items) (hx : items[i]? = none)
    (hE : ∀ h' e, Heap.ExtBut it s.heap h' → (∃ o, h'.get? e = some o ∧ o.cls = .type "StopIteration") → E (.ref e) { s with heap := h' }) : wpAny (model prog w) A (Builtin.SmallTypes.nextOf (.ref it)) Q E s := by
  cases tup
  · exact wpAny_nextOf_list_end hh hit hl hx hE
  · exact next_tup_end hh hit hl hx hE
theorem zn_item {t1 t2 : Bool} {z TI TO i1 i2 l1 l2 : Addr} {k : Nat} {xs ys : Array Value} {x y a b : Value} {Q : Value → Shared → Prop} (D : ZipApart z TI TO i1 i2 l1 l2)
    (hz : IsZip s.heap z TI TO .none) (hTI : IsPair s.heap TI (.ref i1) (.ref i2)) (hTO : IsPair s.heap TO a b)
    (h1 : SqIt t1 s.heap i1 l1 k) (h2 : SqIt t2 s.heap i2 l2 k) (hl1 : SqAt t1 s.heap l1 xs) (hl2 : SqAt t2 s.heap l2 ys) (hx : xs[k]? = some x) (hy : ys[k]? = some y)
    (hQ : ∀ h', IsZip h' z TI TO (rawInt s.heap.objs.size) → IsPair h' TO x y → SqIt t1 h' i1 l1 (k + 1) → SqIt t2 h' i2 l2 (k + 1) → IsPair h' s.heap.objs.size x y →
      (∀ c o, c ≠ z → c ≠ TO → c ≠ i1 → c ≠ i2 → s.heap.get? c = some o → h'.get? c = some o) → Q (.ref s.heap.objs.size) { s with heap := h' }) :
    wpAny (model prog w) A (Builtin.«zip.__next__» ⟨[.ref z], []⟩) (fun fin s' => ∃ v, fin = .done (.ret v) ∧ Q v s') E s := by
  show wpAny _ _ (field (.ref z) 2 >>= _) _ _ _
  refine wpAny_bind (wpAny_field hz rfl (x := .bool false) rfl ?_)
  show wpAny _ _ (field (.ref z) 3 >>= _) _ _ _
  refine wpAny_bind (wpAny_field hz rfl (x := .ref TI) rfl (wpAny_bind (wpAny_seqItems hTI rfl ?_)))
  show wpAny _ _ (Builtin.SmallTypes.ownedTupleIsFree (.ref z) >>= _) _ _ _
  refine wpAny_bind ?_
  unfold Builtin.SmallTypes.ownedTupleIsFree
  refine wpAny_bind (wpAny_field hz rfl (x := .none) rfl (wpAny_pure ?_))
  simp only [if_true]
  refine wpAny_bind (wpAny_rule (wpAny_bind (wpAny_field hz rfl (x := .ref TO) rfl (wpAny_bind (wpAny_setField_rec hz (by simp) fun g1 q1 e1 => wpAny_bind ?_)))))
  replace q1 : IsZip g1 z TI TO .ellipsis := q1
  simp only [List.zipIdx_cons, List.zipIdx_nil, List.forIn_cons, List.forIn_nil]
  refine wpAny_bind (wpAny_bind (wpAny_onRaise ?_))
  show wpAny _ _ (Builtin.SmallTypes.nextOf (.ref i1) >>= _) _ _ _
  refine wpAny_bind (nx_item (h1.ext e1.extBut D.i1z) (hl1.ext e1.extBut D.l1z) hx fun g2 n1 e2 => wpAny_pure ?_)
  have o2 : IsPair g2 TO a b := e2.extBut _ _ D.TOi1 (e1.extBut _ _ D.TOz hTO)
  refine wpAny_bind (wpAny_seqItems o2 rfl (wpAny_bind (wpAny_updateSeq_pair o2 fun g3 o3 e3 => wpAny_bind (wpAny_letGo (wpAny_pure ?_)))))
  replace o3 : IsPair g3 TO x b := o3
  refine wpAny_bind (wpAny_bind (wpAny_onRaise ?_))
  show wpAny _ _ (Builtin.SmallTypes.nextOf (.ref i2) >>= _) _ _ _
  refine wpAny_bind (nx_item (((h2.ext e1.extBut D.i2z).ext e2.extBut D.i12.symm).ext e3.extBut D.TOi2.symm) (((hl2.ext e1.extBut D.l2z).ext e2.extBut D.l2i1).ext e3.extBut D.l2TO) hy fun g4 n2 e4 => wpAny_pure ?_)
  have o4 : IsPair g4 TO x b := e4.extBut _ _ D.TOi2 o3
  refine wpAny_bind (wpAny_seqItems o4 rfl (wpAny_bind (wpAny_updateSeq_pair o4 fun g5 o5 e5 => wpAny_bind (wpAny_letGo (wpAny_pure (wpAny_pure ?_))))))
  replace o5 : IsPair g5 TO x y := o5
  refine wpAny_bind (wpAny_seqItems o5 rfl (wpAny_bind (wpAny_newTuple ?_)))
  have sz : g5.objs.size = s.heap.objs.size := by rw [e5.1, e4.1, e3.1, e2.1, e1.1]
  have z5 : IsZip g5 z TI TO .ellipsis := e5.extBut _ _ D.TOz.symm (e4.extBut _ _ D.i2z.symm (e3.extBut _ _ D.TOz.symm (e2.extBut _ _ D.i1z.symm q1)))
  have k5 : ∀ c o, c ≠ z → c ≠ TO → c ≠ i1 → c ≠ i2 → s.heap.get? c = some o → g5.get? c = some o := fun c o c1 c2 c3 c4 e => e5.extBut _ _ c2 (e4.extBut _ _ c4 (e3.extBut _ _ c2 (e2.extBut _ _ c3 (e1.extBut _ _ c1 e))))
  have m1 : SqIt t1 g5 i1 l1 (k + 1) := ((n1.ext e3.extBut D.TOi1.symm).ext e4.extBut D.i12).ext e5.extBut D.TOi1.symm
  have m2 : SqIt t2 g5 i2 l2 (k + 1) := n2.ext e5.extBut D.TOi2.symm
  have zl : z < g5.objs.size := Heap.lt_size z5
  show wpAny _ _ (Builtin.SmallTypes.ownedTupleHandOut (.ref z) (.ref g5.objs.size) >>= _) _ _ _
  refine wpAny_bind ?_
  unfold Builtin.SmallTypes.ownedTupleHandOut
  have z6 : IsZip (g5.push { cls := .type "tuple", data := .seq #[x, y] }) z TI TO .ellipsis := Heap.get?_push_of_some _ z5
  refine wpAny_bind (wpAny_setField_rec z6 (by simp) fun g7 z7 e7 => ?_)
  replace z7 : IsZip g7 z TI TO (rawInt g5.objs.size) := z7
  refine wpAny_setField_rec z7 (by simp) fun g8 z8 e8 => ?_
  replace z8 : IsZip g8 z TI TO (rawInt g5.objs.size) := z8
  have up : ∀ c o, c ≠ z → g5.get? c = some o → g8.get? c = some o := fun c o c1 e => e8.extBut _ _ c1 (e7.extBut _ _ c1 (Heap.get?_push_of_some _ e))
  have tp : IsPair g8 g5.objs.size x y := e8.extBut _ _ (Nat.ne_of_gt zl) (e7.extBut _ _ (Nat.ne_of_gt zl) (Heap.get?_push_size _ rfl))
  rw [sz] at z8 tp
  refine wpAny_pure ⟨_, rfl, ?_⟩
  show Q (.ref g5.objs.size) _
  rw [sz]
  exact hQ g8 z8 (up _ _ D.TOz o5) (m1.at fun o e => up _ o D.i1z e) (m2.at fun o e => up _ o D.i2z e) tp fun c o c1 c2 c3 c4 e => up c o c1 (k5 c o c1 c2 c3 c4 e)
theorem zn_end {t1 t2 : Bool} {z TI TO i1 i2 l1 l2 : Addr} {k : Nat} {xs ys : Array Value} {a b : Value} {Q : Fin → Shared → Prop} (hh : A.handled = none) (D : ZipApart z TI TO i1 i2 l1 l2)
    (hz : IsZip s.heap z TI TO .none) (hTI : IsPair s.heap TI (.ref i1) (.ref i2)) (hTO : IsPair s.heap TO a b)
    (h1 : SqIt t1 s.heap i1 l1 k) (h2 : SqIt t2 s.heap i2 l2 k) (hl1 : SqAt t1 s.heap l1 xs) (hl2 : SqAt t2 s.heap l2 ys) (hend : xs[k]? = none ∨ ys[k]? = none)
    (hE : ∀ h' e, (∀ c o, c ≠ z → c ≠ TO → c ≠ i1 → c ≠ i2 → s.heap.get? c = some o → h'.get? c = some o) → (∃ o, h'.get? e = some o ∧ o.cls = .type "StopIteration") → E (.ref e) { s with heap := h' }) :
    wpAny (model prog w) A (Builtin.«zip.__next__» ⟨[.ref z], []⟩) Q E s := by
  have last : ∀ {h : Heap} {e : Addr}, IsZip h z TI TO .ellipsis → (∃ o, h.get? e = some o ∧ o.cls = .type "StopIteration") → e ≠ z := fun hz' ⟨o, ho, hc⟩ x => by subst x; rw [hz'] at ho; cases ho; simp at hc
  show wpAny _ _ (field (.ref z) 2 >>= _) _ _ _
  refine wpAny_bind (wpAny_field hz rfl (x := .bool false) rfl ?_)
  show wpAny _ _ (field (.ref z) 3 >>= _) _ _ _
  refine wpAny_bind (wpAny_field hz rfl (x := .ref TI) rfl (wpAny_bind (wpAny_seqItems hTI rfl ?_)))
  show wpAny _ _ (Builtin.SmallTypes.ownedTupleIsFree (.ref z) >>= _) _ _ _
  refine wpAny_bind ?_
  unfold Builtin.SmallTypes.ownedTupleIsFree
  refine wpAny_bind (wpAny_field hz rfl (x := .none) rfl (wpAny_pure ?_))
  simp only [if_true]
  refine wpAny_bind (wpAny_rule (wpAny_bind (wpAny_field hz rfl (x := .ref TO) rfl (wpAny_bind (wpAny_setField_rec hz (by simp) fun g1 q1 e1 => wpAny_bind ?_)))))
  replace q1 : IsZip g1 z TI TO .ellipsis := q1
  simp only [List.zipIdx_cons, List.zipIdx_nil, List.forIn_cons, List.forIn_nil]
  refine wpAny_bind (wpAny_bind (wpAny_onRaise ?_))
  show wpAny _ _ (Builtin.SmallTypes.nextOf (.ref i1) >>= _) _ _ _
  cases hx : xs[k]? with
  | none =>
    refine wpAny_bind (nx_end hh (h1.ext e1.extBut D.i1z) (hl1.ext e1.extBut D.l1z) hx fun g2 e e2 he => ?_)
    have q2 : IsZip g2 z TI TO .ellipsis := e2 _ _ D.i1z.symm q1
    have ez := last q2 he
    obtain ⟨oe, hoe, hce⟩ := he
    exact wpAny_setField_rec q2 (by simp) fun g3 _ e3 => hE g3 e (fun c o c1 _ c3 _ x => e3.extBut _ _ c1 (e2 _ _ c3 (e1.extBut _ _ c1 x))) ⟨oe, e3.extBut _ _ ez hoe, hce⟩
  | some x =>
    have hy : ys[k]? = none := by rcases hend with h | h; rw [hx] at h; cases h; exact h
    refine wpAny_bind (nx_item (h1.ext e1.extBut D.i1z) (hl1.ext e1.extBut D.l1z) hx fun g2 n1 e2 => wpAny_pure ?_)
    have o2 : IsPair g2 TO a b := e2.extBut _ _ D.TOi1 (e1.extBut _ _ D.TOz hTO)
    refine wpAny_bind (wpAny_seqItems o2 rfl (wpAny_bind (wpAny_updateSeq_pair o2 fun g3 o3 e3 => wpAny_bind (wpAny_letGo (wpAny_pure ?_)))))
    refine wpAny_bind (wpAny_bind (wpAny_onRaise ?_))
    show wpAny _ _ (Builtin.SmallTypes.nextOf (.ref i2) >>= _) _ _ _
    refine wpAny_bind (nx_end hh (((h2.ext e1.extBut D.i2z).ext e2.extBut D.i12.symm).ext e3.extBut D.TOi2.symm) (((hl2.ext e1.extBut D.l2z).ext e2.extBut D.l2i1).ext e3.extBut D.l2TO) hy fun g4 e e4 he => ?_)
    have q4 : IsZip g4 z TI TO .ellipsis := e4 _ _ D.i2z.symm (e3.extBut _ _ D.TOz.symm (e2.extBut _ _ D.i1z.symm q1))
    have ez := last q4 he
    obtain ⟨oe, hoe, hce⟩ := he
    exact wpAny_setField_rec q4 (by simp) fun g5 _ e5 => hE g5 e (fun c o c1 c2 c3 c4 x => e5.extBut _ _ c1 (e4 _ _ c4 (e3.extBut _ _ c2 (e2.extBut _ _ c3 (e1.extBut _ _ c1 x))))) ⟨oe, e5.extBut _ _ ez hoe, hce⟩
theorem pz_item {t1 t2 : Bool} {z TI TO i1 i2 l1 l2 : Addr} {k : Nat} {xs ys : Array Value} {x y a b : Value} {Q : Option Value → Shared → Prop} (D : ZipApart z TI TO i1 i2 l1 l2)
    (hz : IsZip s.heap z TI TO .none) (hTI : IsPair s.heap TI (.ref i1) (.ref i2)) (hTO : IsPair s.heap TO a b)
    (h1 : SqIt t1 s.heap i1 l1 k) (h2 : SqIt t2 s.heap i2 l2 k) (hl1 : SqAt t1 s.heap l1 xs) (hl2 : SqAt t2 s.heap l2 ys) (hx : xs[k]? = some x) (hy : ys[k]? = some y)
    (hQ : ∀ h', IsZip h' z TI TO (rawInt s.heap.objs.size) → IsPair h' TO x y → SqIt t1 h' i1 l1 (k + 1) → SqIt t2 h' i2 l2 (k + 1) → IsPair h' s.heap.objs.size x y →
      (∀ c o, c ≠ z → c ≠ TO → c ≠ i1 → c ≠ i2 → s.heap.get? c = some o → h'.get? c = some o) → Q (some (.ref s.heap.objs.size)) { s with heap := h' }) :
    wpAny (model prog w) A (pyNext (.ref z)) Q E s := by
  have hT : s.TypeIs (.ref z) "zip" := ⟨_, hz, rfl⟩
  unfold pyNext
  exact wpAny_bind (wpAny_attempt (wpAny_callSpecial?_slot (name := Str.ofString "__next__") hT F.slot_zip_next (wpAny_call_entry F.slot_zip_next hT F.entry_zip_next (zn_item D hz hTI hTO h1 h2 hl1 hl2 hx hy fun h' a1 a2 a3 a4 a5 a6 => wpAny_pure (hQ h' a1 a2 a3 a4 a5 a6)) (F.args_zip_next_1 _))))
theorem pz_end {t1 t2 : Bool} {z TI TO i1 i2 l1 l2 : Addr} {k : Nat} {xs ys : Array Value} {a b : Value} {Q : Option Value → Shared → Prop} (hh : A.handled = none) (D : ZipApart z TI TO i1 i2 l1 l2)
    (hz : IsZip s.heap z TI TO .none) (hTI : IsPair s.heap TI (.ref i1) (.ref i2)) (hTO : IsPair s.heap TO a b)
    (h1 : SqIt t1 s.heap i1 l1 k) (h2 : SqIt t2 s.heap i2 l2 k) (hl1 : SqAt t1 s.heap l1 xs) (hl2 : SqAt t2 s.heap l2 ys) (hend : xs[k]? = none ∨ ys[k]? = none)
    (hQ : ∀ h', (∀ c o, c ≠ z → c ≠ TO → c ≠ i1 → c ≠ i2 → s.heap.get? c = some o → h'.get? c = some o) → Q none { s with heap := h' }) : wpAny (model prog w) A (pyNext (.ref z)) Q E s := by
  have hT : s.TypeIs (.ref z) "zip" := ⟨_, hz, rfl⟩
  unfold pyNext
  refine wpAny_bind (wpAny_attempt (wpAny_callSpecial?_slot (name := Str.ofString "__next__") hT F.slot_zip_next (wpAny_call_entry F.slot_zip_next hT F.entry_zip_next (zn_end hh D hz hTI hTO h1 h2 hl1 hl2 hend fun h' e hk he => ?_) (F.args_zip_next_1 _))))
  obtain ⟨o, ho, hc⟩ := he
  exact wpAny_bind (wpAny_isInstance (T := "StopIteration") (b := true) ⟨o, ho, hc⟩ isSubtype_stop (wpAny_pure (hQ _ hk)))
def itN : Bool → String
  | true => "tuple_iterator"
  | false => "list_iterator"
def itO (tup : Bool) (l : Addr) : Obj := { cls := .type (itN tup), data := .fields #[.ref l, .int 0 0] }
theorem it_new {tup : Bool} {l : Addr} {xs : Array Value} {Q : Value → Shared → Prop} (hl : SqAt tup s.heap l xs) (hQ : Q (.ref s.heap.objs.size) { s with heap := s.heap.push (itO tup l) }) : wpAny (model prog w) A (pyIter (.ref l)) Q E s := by
  cases tup
  · exact wpAny_pyIter_list hl hQ
  · exact wpAny_pyIter_tuple hl hQ
theorem itO_at {tup : Bool} {h : Heap} {it l : Addr} (e : h.get? it = some (itO tup l)) : SqIt tup h it l 0 := by
  cases tup
  · exact ⟨_, e, rfl, rfl⟩
  · exact ⟨_, e, rfl, rfl⟩
theorem SqAt.push {tup : Bool} {h : Heap} {l : Addr} {xs : Array Value} (x : SqAt tup h l xs) (o : Obj) : SqAt tup (h.push o) l xs := by
  cases tup
  · exact Heap.IsList.push x o
  · exact Heap.IsTuple.push x o
end
abbrev zh2 (t1 t2 : Bool) (h : Heap) (l1 l2 : Addr) : Heap := (h.push (itO t1 l1)).push (itO t2 l2)
abbrev zh4 (t1 t2 : Bool) (h : Heap) (l1 l2 : Addr) : Heap := ((zh2 t1 t2 h l1 l2).push { cls := .type "tuple", data := .seq #[.ref h.objs.size, .ref (h.push (itO t1 l1)).objs.size] }).push { cls := .type "tuple", data := .seq #[.none, .none] }
theorem zip_new2 (t1 t2 : Bool) (l1 l2 : Addr) (xs ys : Array Value) :
    Meets (Builtin.«zip.__new__» ⟨[.type "zip", .ref l1, .ref l2], []⟩) (fun _ R s => SqAt t1 s.heap l1 xs ∧ SqAt t2 s.heap l2 ys ∧
      R (.ok (.ret (.ref (zh4 t1 t2 s.heap l1 l2).objs.size))) { s with heap := (zh4 t1 t2 s.heap l1 l2).push { cls := .type "zip", data := .fields #[.none, .bool false, .bool false, .ref (zh2 t1 t2 s.heap l1 l2).objs.size, .ref ((zh2 t1 t2 s.heap l1 l2).push { cls := .type "tuple", data := .seq #[.ref s.heap.objs.size, .ref (s.heap.push (itO t1 l1)).objs.size] }).objs.size] } }) :=
  .of_wp fun prog w A R s h => by
    obtain ⟨hp, g, d, tk, os⟩ := s; obtain ⟨hl1, hl2, h⟩ := h
    have hsub := sub_zip
    have hL1 : SqAt t1 (Shared.heap ⟨hp, g, d, tk, os⟩) l1 xs := hl1
    have hL2 : SqAt t2 (Shared.heap ⟨hp.push (itO t1 l1), g, d, tk, os⟩) l2 ys := hl2.push _
    wp_walk using it_new hL1, it_new hL2
    exact ⟨_, rfl, h⟩
theorem call_zip2 {prog : Program} {w : World} {A : Around} {E : Value → Shared → Prop} {s : Shared} {t1 t2 : Bool} {l1 l2 : Addr} {xs ys : Array Value} {Q : Value → Shared → Prop} (hl1 : SqAt t1 s.heap l1 xs) (hl2 : SqAt t2 s.heap l2 ys)
    (h : ∀ h', IsZip h' (s.heap.objs.size + 4) (s.heap.objs.size + 2) (s.heap.objs.size + 3) .none → IsPair h' (s.heap.objs.size + 2) (.ref s.heap.objs.size) (.ref (s.heap.objs.size + 1)) →
      IsPair h' (s.heap.objs.size + 3) .none .none → SqIt t1 h' s.heap.objs.size l1 0 → SqIt t2 h' (s.heap.objs.size + 1) l2 0 → (∀ c o, s.heap.get? c = some o → h'.get? c = some o) → Q (.ref (s.heap.objs.size + 4)) { s with heap := h' }) :
    wpAny (model prog w) A (call (.type "zip") [.ref l1, .ref l2]) Q E s := by
  refine callType_new F.called_zip (by decide) (F.typeCall_zip_2 _ _) (F.newCall_zip_2 _ _) (fun obj => F.args_object_init_3 obj _ _) F.entry_zip_new (zip_new2 t1 t2 l1 l2 xs ys) ⟨hl1, hl2, ?_⟩
  show _ ∧ _
  unfold zh4
  have z1 : (s.heap.push (itO t1 l1)).objs.size = s.heap.objs.size + 1 := Heap.size_push ..
  have z2 : (zh2 t1 t2 s.heap l1 l2).objs.size = s.heap.objs.size + 2 := by rw [Heap.size_push, z1]
  generalize hA : ({ cls := .type "tuple", data := .seq #[.ref s.heap.objs.size, .ref (s.heap.push (itO t1 l1)).objs.size] } : Obj) = oA
  have z3 : ((zh2 t1 t2 s.heap l1 l2).push oA).objs.size = s.heap.objs.size + 3 := by rw [Heap.size_push, z2]
  generalize hB : ({ cls := .type "tuple", data := .seq #[.none, .none] } : Obj) = oB
  have z4 : (((zh2 t1 t2 s.heap l1 l2).push oA).push oB).objs.size = s.heap.objs.size + 4 := by rw [Heap.size_push, z3]
  generalize hC : ({ cls := .type "zip", data := .fields #[.none, .bool false, .bool false, .ref (zh2 t1 t2 s.heap l1 l2).objs.size, .ref ((zh2 t1 t2 s.heap l1 l2).push oA).objs.size] } : Obj) = oC
  have fC : oC.isFreed = false := by rw [← hC]; rfl
  have fB : oB.isFreed = false := by rw [← hB]; rfl
  have fA : oA.isFreed = false := by rw [← hA]; rfl
  have f1 : (itO t1 l1).isFreed = false := rfl
  have f2 : (itO t2 l2).isFreed = false := rfl
  have g5 : ((((zh2 t1 t2 s.heap l1 l2).push oA).push oB).push oC).get? (((zh2 t1 t2 s.heap l1 l2).push oA).push oB).objs.size = some oC := Heap.get?_push_size _ fC
  have g4 : ((((zh2 t1 t2 s.heap l1 l2).push oA).push oB).push oC).get? ((zh2 t1 t2 s.heap l1 l2).push oA).objs.size = some oB := Heap.get?_push_of_some _ (Heap.get?_push_size _ fB)
  have g3 : ((((zh2 t1 t2 s.heap l1 l2).push oA).push oB).push oC).get? (zh2 t1 t2 s.heap l1 l2).objs.size = some oA := Heap.get?_push_of_some _ (Heap.get?_push_of_some _ (Heap.get?_push_size _ fA))
  have g2 : ((((zh2 t1 t2 s.heap l1 l2).push oA).push oB).push oC).get? (s.heap.push (itO t1 l1)).objs.size = some (itO t2 l2) := Heap.get?_push_of_some _ (Heap.get?_push_of_some _ (Heap.get?_push_of_some _ (Heap.get?_push_size _ f2)))
  have g1 : ((((zh2 t1 t2 s.heap l1 l2).push oA).push oB).push oC).get? s.heap.objs.size = some (itO t1 l1) := Heap.get?_push_of_some _ (Heap.get?_push_of_some _ (Heap.get?_push_of_some _ (Heap.get?_push_of_some _ (Heap.get?_push_size _ f1))))
  have kp : ∀ c o, s.heap.get? c = some o → ((((zh2 t1 t2 s.heap l1 l2).push oA).push oB).push oC).get? c = some o := fun c o x => Heap.get?_push_of_some _ (Heap.get?_push_of_some _ (Heap.get?_push_of_some _ (Heap.get?_push_of_some _ (Heap.get?_push_of_some _ x))))
  rw [z4] at g5
  rw [z3] at g4
  rw [z2] at g3
  rw [z1] at g2
  rw [z2, z3] at hC
  rw [z1] at hA
  rw [z4]
  subst hC hA hB
  exact ⟨⟨_, g5, rfl⟩, h _ g5 g3 g4 (itO_at g1) (itO_at g2) kp⟩
def SqV (K : PySem.W.Frag) (tup : Bool) (H : Hp) (a : Addr) (xs : List V) : Prop := match tup with
  | true => SqT K H a xs
  | false => SqL K H a xs
def Itz2 (K : PySem.W.Frag) (t1 t2 : Bool) (a b : Addr) : It :=
  ⟨fun i H => ∃ xs ys x y, SqV K t1 H a xs ∧ SqV K t2 H b ys ∧ xs[i]? = some x ∧ ys[i]? = some y,
   fun i H v H' => ∃ t x y, v = .ref t ∧ H t = none ∧ H' = upd H t (.tup [x, y]) ∧ (∀ xs, SqV K t1 H a xs → xs[i]? = some x) ∧ ∀ ys, SqV K t2 H b ys → ys[i]? = some y,
   fun i H => ∃ xs ys, SqV K t1 H a xs ∧ SqV K t2 H b ys ∧ (xs.length ≤ i ∨ ys.length ≤ i)⟩
def iZip2 (K : PySem.W.Frag) (t1 t2 : Bool) (ta : TA) : TI := fun σ H R => ta σ H fun vs H1 => ∃ a b, vs = [.ref a, .ref b] ∧ (∃ xs, SqV K t1 H1 a xs) ∧ (∃ ys, SqV K t2 H1 b ys) ∧ R (Itz2 K t1 t2 a b) H1
theorem i_iZ2 {K : PySem.W.Frag} {t1 t2 : Bool} {ta : TA} {σ : L2.St} {H : Hp} {R : It → Hp → Prop} (h : ta σ H fun vs H1 => ∃ a b, vs = [.ref a, .ref b] ∧ (∃ xs, SqV K t1 H1 a xs) ∧ (∃ ys, SqV K t2 H1 b ys) ∧ R (Itz2 K t1 t2 a b) H1) : iZip2 K t1 t2 ta σ H R := h
section
variable {X : Cx} {pins : List (Addr × Obj)} {σ : L2.St} {H : Hp} {s : Shared}
theorem inv_sq {tup : Bool} {a : Addr} {xs : List V} (I : Inv X pins σ H s) (h : SqV X.K tup H a xs) : ∃ its : List Value, Vals xs its ∧ SqAt tup s.heap a its.toArray ∧ xs.length ≤ sizeLine := by
  cases tup
  · obtain ⟨its, r, p, z⟩ := I.list h; exact ⟨its, r, p.isList, z⟩
  · obtain ⟨its, r, p, z⟩ := I.tuple h; exact ⟨its, r, (show s.heap.IsTuple a its.toArray from p), z⟩
theorem inv_sqi {tup : Bool} {a : Addr} {xs ys : List V} (I : Inv X pins σ H s) (h : SqV X.K tup H a xs) (h' : SqV X.K tup H a ys) : xs = ys := by
  cases tup
  · exact I.list_inj h h'
  · exact I.tuple_inj h h'
end
def ZipSt2 (t1 t2 : Bool) (a b z TI TO i1 i2 : Addr) (i : Nat) (h : Heap) : Prop := IsZip h z TI TO .none ∧ IsPair h TI (.ref i1) (.ref i2) ∧ (∃ u v, IsPair h TO u v) ∧ SqIt t1 h i1 a i ∧ SqIt t2 h i2 b i
theorem turn_zip2 {P : Program} {w : World} {K : PySem.W.Frag} {elts : List Expr} {x1 : Nat} {pt : Pos} (t1 t2 : Bool) (a b z TI TO i1 i2 : Addr) (D : ZipApart z TI TO i1 i2 a b) :
    Turn P w K (.Tuple elts x1 pt) (Itz2 K t1 t2 a b) [z, TI, TO, i1, i2] z (ZipSt2 t1 t2 a b z TI TO i1 i2) where
  mem := by simp
  obj := fun i h st c hc => by
    obtain ⟨hz, hTI, ⟨u, v, hTO⟩, h1, h2⟩ := st
    obtain ⟨o1, q1, f1, d1⟩ := h1.obj
    obtain ⟨o2, q2, f2, d2⟩ := h2.obj
    simp only [List.mem_cons, List.not_mem_nil, or_false] at hc
    rcases hc with e | e | e | e | e
    · rw [e]; exact ⟨_, hz, fun v z => by cases z⟩
    · rw [e]; exact ⟨_, hTI, fun v z => by cases z⟩
    · rw [e]; exact ⟨_, hTO, fun v z => by cases z⟩
    · rw [e]; exact ⟨o1, q1, fun v z => by rw [d1] at z; cases z⟩
    · rw [e]; exact ⟨o2, q2, fun v z => by rw [d2] at z; cases z⟩
  keep := fun i h h' st k => by
    obtain ⟨hz, hTI, ⟨u, v, hTO⟩, h1, h2⟩ := st
    exact ⟨k z (by simp) _ hz, k TI (by simp) _ hTI, ⟨u, v, k TO (by simp) _ hTO⟩, h1.at fun o q => k i1 (by simp) o q, h2.at fun o q => k i2 (by simp) o q⟩
  item := by
    intro X hP hw hK hc i pins s σ H E I hf st hg
    subst hP hw hK
    obtain ⟨xs, ys, x, y, hq, hr, hx, hy⟩ := hg
    obtain ⟨its, rv, p, hzl⟩ := inv_sq I hq
    obtain ⟨jts, rw', p2, hzl2⟩ := inv_sq I hr
    obtain ⟨u, hu, ru⟩ := rv.get hx
    obtain ⟨v, hv, rv2⟩ := rw'.get hy
    obtain ⟨hz, hTI, ⟨o1, o2, hTO⟩, h1, h2⟩ := st
    have lt : ∀ {c o}, s.heap.get? c = some o → c < s.heap.objs.size := fun e => Heap.lt_size e
    have l1 : i1 < s.heap.objs.size := by obtain ⟨_, e, _⟩ := h1.obj; exact lt e
    have l2 : i2 < s.heap.objs.size := by obtain ⟨_, e, _⟩ := h2.obj; exact lt e
    refine pz_item D hz hTI hTO h1 h2 p p2 (x := u) (y := v) (by simpa using hu) (by simpa using hv) fun h' a1 a2 a3 a4 a5 hk => ?_
    refine ⟨_, rfl, wpAny_letOwnedTupleGo_zip (s := { s with heap := h' }) a1 fun h2' hz2 hs2 => ?_⟩
    replace hs2 : Heap.SameBut z h' h2' := hs2
    have hn : H s.heap.objs.size = none := I.hok.fresh (Nat.le_refl _)
    have I2 : Inv X pins σ (upd H s.heap.objs.size (.tup [x, y])) { s with heap := h2', toks := s.toks } := by
      refine inv_turns_laid (ch := [z, TI, TO, i1, i2]) I (fun c o hcn q => ?_) hf (Nat.le_refl _) ?_
      · simp only [List.mem_cons, List.not_mem_nil, or_false, not_or] at hcn
        exact hs2.extBut c o hcn.1 (hk c o hcn.1 hcn.2.2.1 hcn.2.2.2.1 hcn.2.2.2.2 q)
      · exact ⟨by show 2 ≤ sizeLine; decide, [u, v], .cons ru (.cons rv2 .nil), ⟨_, hs2.extBut _ _ (Nat.ne_of_gt (lt hz)) a5, rfl, _, rfl⟩⟩
    refine ⟨.ref s.heap.objs.size, _, I2, rfl, ⟨_, x, y, rfl, hn, rfl, fun zs h => by rw [inv_sqi I h hq]; exact hx, fun zs h => by rw [inv_sqi I h hr]; exact hy⟩, ⟨hz2, ?_, ?_, ?_, ?_⟩, fun c hcm => ?_⟩
    · exact hs2.extBut _ _ D.TIz (hk TI _ D.TIz D.TITO D.TIi1 D.TIi2 hTI)
    · exact ⟨u, v, hs2.extBut _ _ D.TOz a2⟩
    · exact a3.ext hs2.extBut D.i1z
    · exact a4.ext hs2.extBut D.i2z
    · have lc : c < s.heap.objs.size := by
        simp only [List.mem_cons, List.not_mem_nil, or_false] at hcm
        rcases hcm with e | e | e | e | e
        · rw [e]; exact lt hz
        · rw [e]; exact lt hTI
        · rw [e]; exact lt hTO
        · rw [e]; exact l1
        · rw [e]; exact l2
      rw [upd_ne (Nat.ne_of_lt lc)]; exact (hf c hcm).1
  done := by
    intro X hP hw hK hc i pins s σ H E I hf st hg
    subst hP hw hK
    obtain ⟨xs, ys, hq, hr, hx⟩ := hg
    obtain ⟨its, rv, p, hzl⟩ := inv_sq I hq
    obtain ⟨jts, rw', p2, hzl2⟩ := inv_sq I hr
    obtain ⟨hz, hTI, ⟨o1, o2, hTO⟩, h1, h2⟩ := st
    have e1 := rv.length
    have e2 := rw'.length
    refine pz_end (I.ok.hd hc) D hz hTI hTO h1 h2 p p2 ?_ fun h' hk => ⟨rfl, inv_turns (ch := [z, TI, TO, i1, i2]) (t' := s.toks) I (fun c o hcn q => ?_) hf⟩
    · rcases hx with hx | hx
      · exact .inl (by simp; omega)
      · exact .inr (by simp; omega)
    · simp only [List.mem_cons, List.not_mem_nil, or_false, not_or] at hcn
      exact hk c o hcn.1 hcn.2.2.1 hcn.2.2.2.1 hcn.2.2.2.2 q
  self := fun A i s Q E st h => wpAny_pyIter_zip st.1 h
theorem SqAt.lt {tup : Bool} {h : Heap} {a : Addr} {xs : Array Value} (x : SqAt tup h a xs) : a < h.objs.size := by
  cases tup
  · obtain ⟨o, ho, _⟩ := (show h.IsList a xs from x); exact Heap.lt_size ho
  · obtain ⟨o, ho, _⟩ := (show h.IsTuple a xs from x); exact Heap.lt_size ho
theorem ap_of (n a b : Nat) (ha : a < n) (hb : b < n) : ZipApart (n + 4) (n + 2) (n + 3) n (n + 1) a b :=
  have d := zd_of n
  ⟨d.TIz, d.TOz, d.i1z, d.i2z, d.TITO, d.TIi1, d.TIi2, d.TOi1, d.TOi2, d.i12, (by omega : (a : Nat) ≠ (n + 4 : Nat)), (by omega : (a : Nat) ≠ (n + 3 : Nat)), (by omega : (a : Nat) ≠ (n : Nat)), (by omega : (a : Nat) ≠ (n + 1 : Nat)), (by omega : (b : Nat) ≠ (n + 4 : Nat)), (by omega : (b : Nat) ≠ (n + 3 : Nat)), (by omega : (b : Nat) ≠ (n : Nat)), (by omega : (b : Nat) ≠ (n + 1 : Nat))⟩
theorem pi_zip2 {X : Cx} {elts : List Expr} {x1 : Nat} {pt : Pos} {l r : Expr} {ta : TA} {p pos : Pos} (t1 t2 : Bool) (hg : Gl X "zip") (hm : X.mg "zip" = none) (ha : PA X [l, r] ta) (hs : starEach [l, r] X.env = (false, eval l X.env) :: starEach [r] X.env := by rfl) (hp : (backTo pos (starEach [r] X.env)).any (·.1) = false := by rfl) :
    PI X (.Tuple elts x1 pt) (.Call (.Name "zip" p) [l, r] [] pos) (iZip2 X.K t1 t2 ta) := by
  intro pins s σ H R I h
  refine Call_ (ld_blt I hg hm boot_zip (PyProof.Rows.callWith_type1 (thn (ha pos pins s σ H _ I h) fun us s1 ⟨vs, H1, I1, r1, q1⟩ => ?_) hs hp))
  obtain ⟨a, b, e, ⟨xs, hq⟩, ⟨ys, hr⟩, q⟩ := q1
  subst e
  cases r1 with
  | cons ra rr =>
    cases rr with
    | cons rb rr =>
      cases rr
      obtain rfl : _ = Value.ref a := ra
      obtain rfl : _ = Value.ref b := rb
      obtain ⟨its, rv, pl, hz⟩ := inv_sq I1 hq
      obtain ⟨jts, rv2, pl2, hz2⟩ := inv_sq I1 hr
      refine call_zip2 pl pl2 fun h' hzp hTI hTO h1 h2 hk => ?_
      have I2 : Inv X pins σ H1 { s1 with heap := h' } := I1.kept (t' := s1.toks) hk
      refine wpAny_pyIter_zip (s := { s1 with heap := h' }) hzp ?_
      have hf : ∀ b, s1.heap.objs.size ≤ b → FpOk X pins H1 b := fun b hb => I1.fpOk hb (I1.hok.fresh hb)
      refine ⟨_, [s1.heap.objs.size + 4, s1.heap.objs.size + 2, s1.heap.objs.size + 3, s1.heap.objs.size, s1.heap.objs.size + 1], _, _, H1, rfl, I2, turn_zip2 t1 t2 a b _ _ _ _ _ (ap_of _ _ _ pl.lt pl2.lt), ⟨hzp, hTI, ⟨_, _, hTO⟩, h1, h2⟩, fun c hc => ?_, q⟩
      simp only [List.mem_cons, List.not_mem_nil, or_false] at hc
      have hc2 : (s1.heap.objs.size : Nat) ≤ (c : Nat) := by
        rcases hc with e | e | e | e | e <;> rw [e]
        · exact Nat.le_add_right _ _
        · exact Nat.le_add_right _ _
        · exact Nat.le_add_right _ _
        · exact Nat.le_refl _
        · exact Nat.le_add_right _ _
      exact hf c hc2
section
variable {K : PySem.W.Frag} {t1 t2 : Bool} {a b : Addr} {g : TG} {tb : TS} {σ : L2.St} {H : Hp} {n : L2.St → Hp → Prop} {r : VK}
theorem forZ2 (xs ys : List V) (hlen : xs.length = ys.length) (Pv : Nat → L2.St → Hp → Prop) (h0 : Pv 0 σ H) (hl : ∀ i σ H, i ≤ xs.length → Pv i σ H → SqV K t1 H a xs ∧ SqV K t2 H b ys)
    (hs : ∀ i x y t σ H, xs[i]? = some x → ys[i]? = some y → Pv i σ H → H t = none → g (.ref t) σ (upd H t (.tup [x, y])) fun σ2 H2 => tb ⟨Pv (i + 1), r, n, Pv (i + 1)⟩ σ2 H2) (hd : ∀ σ H, Pv xs.length σ H → n σ H) :
    ∃ W : Nat → Nat → L2.St → Hp → Prop, (∃ m, W 0 m σ H) ∧ ∀ i m σ H, W i m σ H →
      ((Itz2 K t1 t2 a b).stop i H ∧ n σ H) ∨ ((Itz2 K t1 t2 a b).go i H ∧ ∃ N : L2.St → Hp → Prop, (∀ σ' H', N σ' H' → ∃ m', m' < m ∧ W (i + 1) m' σ' H') ∧ ∀ x H', (Itz2 K t1 t2 a b).yld i H x H' → g x σ H' fun σ2 H2 => tb ⟨N, r, n, N⟩ σ2 H2) := by
  refine ⟨fun i m σ H => i ≤ xs.length ∧ m = xs.length - i ∧ Pv i σ H, ⟨xs.length, Nat.zero_le _, rfl, h0⟩, ?_⟩
  rintro i m σ H ⟨hi, rfl, p⟩
  obtain ⟨hq, hr⟩ := hl i σ H hi p
  by_cases hk : i = xs.length
  · subst hk
    exact .inl ⟨⟨xs, ys, hq, hr, .inl (Nat.le_refl _)⟩, hd σ H p⟩
  · have hlt : i < xs.length := by omega
    have hx : xs[i]? = some xs[i] := List.getElem?_eq_getElem hlt
    have hy : ys[i]? = some (ys[i]'(by omega)) := List.getElem?_eq_getElem (by omega)
    refine .inr ⟨⟨xs, ys, _, _, hq, hr, hx, hy⟩, Pv (i + 1), fun σ' H' p' => ⟨xs.length - (i + 1), by omega, by omega, rfl, p'⟩, ?_⟩
    rintro v H' ⟨t, x, y, rfl, ht, rfl, h1, h2⟩
    exact hs i x y t σ H (h1 xs hq) (h2 ys hr) p ht
end
end G
namespace G
open PySem L2 PySem.Spec PyProof.Rows
def TabVE (w : World) : List DictEntry → List (Str × V) → Prop
  | [], [] => True
  | e :: es, p :: t => e.hash = hashStr w p.1 ∧ (∃ tk, e.key = .str p.1 tk) ∧ RelV p.2 e.val ∧ TabVE w es t
  | _, _ => False
def TabV (K : PySem.W.Frag) (w : World) (mg : Str → Option Value) (nm : Str) (tbl : List (Str × V)) : Prop :=
  ∃ dd o es ep, mg nm = some (.ref dd) ∧ (dd == sysModules) = false ∧ K.lookup dd = some o ∧ o.ExactDict ∧ o.data = .dict es ep ∧ TabVE w es.toList tbl
theorem TabVE.keys {prog : Program} {w : World} : ∀ {es : List DictEntry} {tbl : List (Str × V)}, TabVE w es tbl → ∀ e ∈ es, ∃ k, (strKind prog w).is k e.key = true ∧ e.hash = (strKind prog w).hash k
  | [], _, _ => fun e he => absurd he List.not_mem_nil
  | e :: es, [], h => h.elim
  | e :: es, p :: t, h => fun x hx => by
    obtain ⟨h1, ⟨tk, h2⟩, _, h4⟩ := h
    rcases List.mem_cons.mp hx with rfl | hx
    · refine ⟨p.1, ?_, h1⟩
      rw [h2]
      show Value.isStrOf p.1 (.str p.1 tk) = true
      simp [Value.isStrOf]
    · exact TabVE.keys h4 x hx
theorem TabVE.find {w : World} : ∀ {es : List DictEntry} {tbl : List (Str × V)} {k : Str}, TabVE w es tbl → (match (es.find? fun e => Value.isStrOf k e.key).map (·.val), tbl.lookup k with
    | some u, some v => RelV v u
    | none, none => True
    | _, _ => False)
  | [], [], _, _ => trivial
  | [], _ :: _, _, h => h.elim
  | _ :: _, [], _, h => h.elim
  | e :: es, p :: t, k, h => by
    obtain ⟨_, ⟨tk, h2⟩, h3, h4⟩ := h
    rw [List.find?_cons, h2]
    obtain ⟨a, b⟩ := p
    by_cases hk : k = a
    · subst hk
      have e1 : Value.isStrOf k (.str k tk) = true := by simp [Value.isStrOf]
      simp only [e1, List.lookup, beq_self_eq_true]
      exact h3
    · have e1 : Value.isStrOf k (.str a tk) = false := by
        simp only [Value.isStrOf, beq_eq_false_iff_ne, ne_eq]
        exact fun z => hk z.symm
      simp only [e1, List.lookup, beq_eq_false_iff_ne.mpr hk]
      exact TabVE.find h4
section
variable {X : Cx} {nm : Str} {tbl : List (Str × V)} {i : Expr} {ti : TE} {p pos ap : Pos}
theorem TabVE.map {s : Shared} {dd : Addr} {o : Obj} {es : Array DictEntry} {ep : Nat} (hh : s.heap.get? dd = some o) (ho : o.ExactDict) (hda : o.data = .dict es ep) (te : TabVE X.w es.toList tbl) : s.heap.MapOf (strKind X.prog X.w) dd (fun k => findBy Value.isStrOf es k) :=
  ⟨o, es, ep, hh, ho, hda, fun e he => te.keys e (by simpa using he), fun _ => rfl⟩
theorem TabVE.at {es : Array DictEntry} {k : Str} (te : TabVE X.w es.toList tbl) : (∀ v, tbl.lookup k = some v → ∃ u, findBy Value.isStrOf es k = some u ∧ RelV v u) ∧ (tbl.lookup k = none → findBy Value.isStrOf es k = none) := by
  have e : findBy Value.isStrOf es k = (es.toList.find? fun e => Value.isStrOf k e.key).map (·.val) := by
    show Option.map (fun x => x.val) (Array.find? (fun e => Value.isStrOf k e.key) es) = _
    rw [← Array.find?_toList]
  have f := te.find (k := k)
  rw [← e] at f
  refine ⟨fun v hv => ?_, fun hn => ?_⟩
  · rw [hv] at f
    cases h : findBy Value.isStrOf es k with
    | none => rw [h] at f; exact f.elim
    | some u => rw [h] at f; exact ⟨u, rfl, f⟩
  · rw [hn] at f
    cases h : findBy Value.isStrOf es k with
    | none => rfl
    | some u => rw [h] at f; exact f.elim
theorem str_isk {k : Str} {tk : Tok} : (strKind X.prog X.w).is k (.str k tk) = true := by show Value.isStrOf k (.str k tk) = true; simp [Value.isStrOf]
def tTabV (tbl : List (Str × V)) (ti : TE) : TE := fun σ H Q => ti σ H fun y H1 => ∃ k v, y = .str k ∧ tbl.lookup k = some v ∧ Q v H1
theorem pe_tabV (T : TabV X.K X.w X.mg nm tbl) (hg : Gl X nm) (hi : PE X i ti) (hs : NoSl i) (hd : (nm == ("__debug__" : Str)) = false := by decide) : PE X (.Subscript (.Name nm p) i pos) (tTabV tbl ti) := by
  intro pins s σ H Q I h
  obtain ⟨dd, o, es, ep, hm, _, hk, ho, hda, te⟩ := T
  refine subD_of PySem.F.slot_dict_getitem.lookup hs (ld_glob I hg hm ?_ hd)
  refine thn (hi pins s σ H _ I h) fun iv s2 ⟨y, H2, I2, ry, k, v, ey, l, q2⟩ => ?_
  subst ey
  have hh := I2.kIn dd o hk
  refine ⟨⟨o, hh, ho.1⟩, ?_⟩
  obtain ⟨tk, rfl⟩ : ∃ tk, iv = .str k tk := ry
  obtain ⟨u, eu, ru⟩ := te.at.1 v l
  exact wpAny_getItem_of (knd := strKind X.prog X.w) (k := k) (f := fun k => findBy Value.isStrOf es k) str_isk (te.map hh ho hda) (v := u) eu ⟨v, H2, I2.tok _, ru, q2⟩
def tTabG (tbl : List (Str × V)) (ti : TE) : TE := fun σ H Q => ti σ H fun y H1 => ∃ k, y = .str k ∧ Q ((tbl.lookup k).getD .non) H1
theorem pe_tabG (T : TabV X.K X.w X.mg nm tbl) (hg : Gl X nm) (hi : PE X i ti) (m : M1 X (.Name nm p) "get" ap i pos) (hd : (nm == ("__debug__" : Str)) = false := by decide) : PE X (.Call (.Attribute (.Name nm p) "get" ap) [i] [] pos) (tTabG tbl ti) := by
  intro pins s σ H Q I h
  obtain ⟨dd, o, es, ep, hm, hsm, hk, ho, hda, te⟩ := T
  refine wpAny_Call_method m.base m.few m.line PySem.F.plainAttrs_dict PySem.F.slot_dict_get PySem.F.type_dict_get (ld_glob I hg hm ?_ hd)
  have h1 := I.kIn dd o hk
  refine ⟨⟨o, h1, ho.1⟩, ?_, ?_⟩
  · intro b q
    cases q
    exact ⟨o, h1, ho.2.1⟩
  rw [m.trees]
  refine Calls.callWith_builtin rfl (Calls.evalArgs_plain (Calls.spliced_cons (thn (hi pins s σ H _ I h) fun iv s2 ⟨y, H2, I2, ry, k, ey, q2⟩ => Calls.spliced_nil ?_)))
  subst ey
  obtain ⟨tk, rfl⟩ : ∃ tk, iv = .str k tk := ry
  have hh := I2.kIn dd o hk
  refine call_meetsIn PySem.F.slot_dict_get ⟨o, hh, ho.1⟩ PySem.F.entry_dict_get (PySem.F.args_dict_get_2 _ _) (meets_dict_get (strKind X.prog X.w) dd str_isk hsm) ⟨_, te.map hh ho hda, ?_⟩
  cases l : tbl.lookup k with
  | none =>
    rw [te.at.2 l]
    rw [l] at q2
    exact ⟨.non, H2, I2.tok _, rfl, q2⟩
  | some v =>
    obtain ⟨u, eu, ru⟩ := te.at.1 v l
    rw [eu]
    rw [l] at q2
    exact ⟨v, H2, I2.tok _, ru, q2⟩
def tTabIn (ti : TE) (tbl : List (Str × V)) : TE := fun σ H Q => ti σ H fun y H1 => ∃ k, y = .str k ∧ Q (.bl (tbl.lookup k).isSome) H1
theorem pc_tabIn (T : TabV X.K X.w X.mg nm tbl) (hg : Gl X nm) (hi : PE X i ti) (hd : (nm == ("__debug__" : Str)) = false := by decide) : PC X .In i (.Name nm p) (tTabIn ti tbl) := by
  intro pins s σ H Q I h
  obtain ⟨dd, o, es, ep, hm, hsm, hk, ho, hda, te⟩ := T
  refine thn (hi pins s σ H _ I h) fun iv s1 ⟨y, H1, I1, ry, k, ey, q1⟩ => ld_glob I1 hg hm ?_ hd
  subst ey
  obtain ⟨tk, rfl⟩ : ∃ tk, iv = .str k tk := ry
  have hh := I1.kIn dd o hk
  refine wpAny_in_of (knd := strKind X.prog X.w) str_isk hsm (te.map hh ho hda) ?_
  have e : (findBy Value.isStrOf es k).isSome = (tbl.lookup k).isSome := by
    cases l : tbl.lookup k with
    | none => rw [te.at.2 l]; rfl
    | some v => obtain ⟨u, eu, _⟩ := te.at.1 v l; rw [eu]; rfl
  rw [e]
  exact ⟨.bl (tbl.lookup k).isSome, H1, I1.tok _, rfl, q1⟩
end
section
variable {σ : L2.St} {H : Hp} {Q : VK} {tbl : List (Str × V)} {ti : TE}
theorem i_tabV (h : ti σ H fun y H1 => ∃ k v, y = .str k ∧ tbl.lookup k = some v ∧ Q v H1) : tTabV tbl ti σ H Q := h
theorem i_tabG (h : ti σ H fun y H1 => ∃ k, y = .str k ∧ Q ((tbl.lookup k).getD .non) H1) : tTabG tbl ti σ H Q := h
theorem i_tabIn (h : ti σ H fun y H1 => ∃ k, y = .str k ∧ Q (.bl (tbl.lookup k).isSome) H1) : tTabIn ti tbl σ H Q := h
end
end G
namespace G
open PySem L2 PySem.Spec PyProof.Rows
def rIndexS (K : PySem.W.Frag) : V → List V → Hp → VK → Prop := fun x vs H Q => ∃ (p : Addr) (zs : List Str) (z : Str) (j : Nat), x = .ref p ∧ vs = [.str z] ∧ SqL K H p (zs.map V.str) ∧ zs[j]? = some z ∧ (∀ i, i < j → zs[i]? ≠ some z) ∧ Q (.int (j : Nat)) H
theorem mt_indexS {X : Cx} : MtR X "list.index" (rIndexS X.K) := by
  intro pins s σ H x xs v us Q I rx rs h
  obtain ⟨p, zs, z, j, rfl, rfl, hs, hj, hlt, q⟩ := h
  obtain rfl : v = Value.ref p := rx
  obtain ⟨u, rfl, ru⟩ := Vals.one rs
  obtain ⟨ws, r, pl, hz⟩ := I.list hs
  obtain ⟨⟨cls, dd, data, sl⟩, ho, hc, n, hd⟩ := pl.isList
  simp only at hc hd
  subst hc hd
  have hl := r.length
  rw [List.length_map] at hl hz
  have fl : (zs.map V.str).all flatV = true := by
    rw [List.all_map, List.all_eq_true]
    intro x _
    rfl
  have hjl := (List.getElem?_eq_some_iff.mp hj).1
  have get : ∀ (i : Nat) (hi : i < ws.length), eqU (.str z) ws[i] = decide (zs[i]? = some z) := fun i hi => by
    have hi2 : i < zs.length := by omega
    obtain ⟨w, hw, rw'⟩ := r.get (i := i) (x := .str zs[i]) (by rw [List.getElem?_map, List.getElem?_eq_getElem hi2]; rfl)
    have e : ws[i] = w := by
      rw [List.getElem?_eq_getElem hi] at hw
      exact Option.some.inj hw
    rw [e, eqU_of rw' rfl, List.getElem?_eq_getElem hi2]
    show (zs[i] == z) = _
    by_cases e : zs[i] = z
    · rw [e]; simp
    · have : (zs[i] == z) = false := by simpa using e
      rw [this, decide_eq_false (fun q => e (Option.some.inj q))]
  have hz2 : zs.length < 2 ^ 62 := Nat.lt_of_le_of_lt hz (by decide)
  refine call_meets PySem.F.slot_list_index ⟨_, ho, rfl⟩ PySem.F.entry_list_index (PySem.F.args_list_index_2 _ _)
    (SeqAt.list_indexAt p ws.toArray n dd sl u (eqU (.str z)) j (by simp; omega) (by omega) ?_ ?_) ⟨ho, fun y hy => mem_eqAt ru rfl r fl y (by simpa using hy), ⟨.int _, H, I.tok _, ⟨_, rfl⟩, q⟩⟩
  · show eqU (.str z) ws[j] = true
    rw [get j (by omega), decide_eq_true hj]
  · intro i his hij
    show eqU (.str z) ws[i] = false
    rw [get i (by simpa using his), decide_eq_false (hlt i hij)]
end G
namespace G
open PySem L2 PySem.Spec PyProof.Rows
theorem ps_lcset2 {X : Cx} {iz : Nat} {z : Str} {pz posA : Pos} {elt iter : Expr} {x y : Str} {px py pt pos : Pos} {kt : Nat} {ifs : List Expr} {scope : Scope} {cl : List (Str × Addr)} {wi : TI} {tc : TT} {te : TE} {cns : List Str} (caps : List Nat)
    (hi : PI X (.Tuple [.Name x px, .Name y py] kt pt) iter wi)
    (hf : ∀ C s H ex pn, PF (cxLC X scope cl (x :: y :: cns) C s H ex pn) ifs tc) (he : ∀ C s H ex pn, PE (cxLC X scope cl (x :: y :: cns) C s H ex pn) elt te) (hc : X.calm = true)
    (hclos : closureFor scope X.env = pure cl) (hcl : AllIn X.env.cells cl) (hcap : CapOk X cns caps)
    (hkind : scope.kind = .function) (hcell : (scope.names.all fun p => p.2 != .cell) = true) (hfree : (scope.names.all fun p => p.2 != .free || (cl.lookup p.1).isSome) = true)
    (hcf : (cns.all fun y => scope.names.lookup y == some .free) = true) (hnames : ∀ y ∈ scope.names, y.2 = .local → scope.names.lookup y.1 = some .local) (hx : scope.names.lookup x = some .local) (hy : scope.names.lookup y = some .local) (hnd : (x :: y :: cns).Nodup)
    (hN : X.N.Nodup) (hiz : X.N[iz]? = some z) (hz : Loc X.env.scope z) (hfz : X.fn z = true ∨ X.env.scope.names.lookup z = some .local)
    (hsw : swapsWithSole [.Name z pz] (.ListComp elt [⟨.Tuple [.Name x px, .Name y py] kt pt, iter, ifs, 0⟩] scope pos) posA.line X.env = pure true) (hs : ∀ v, foldedSetIterable iter X.env v = pure v := by intro _; rfl) :
    PS X (.Assign [.Name z pz] (.ListComp elt [⟨.Tuple [.Name x px, .Name y py] kt pt, iter, ifs, 0⟩] scope pos) posA) (tAsg (tLC2 X.K wi caps tc te) (gName iz)) := by
  intro pins s σ H D I h
  generalize hQ : (fun v H1 => gName iz v σ H1 D.nx) = Q
  have h : tLC2 X.K wi caps tc te σ H Q := hQ ▸ h
  rw [exec_Assign_arm]
  refine wpAny_bind (wpAny_standAt ?_)
  rw [hsw]
  refine wpAny_bind (wpAny_pure ?_)
  rw [if_pos rfl]
  refine wpAny_bind ?_
  rw [evalThenUse]
  suffices key : wpAny (model X.prog X.w) X.A (comprehension (.ListComp elt [⟨.Tuple [.Name x px, .Name y py] kt pt, iter, ifs, 0⟩] scope pos) scope X.env (firstIterPos [⟨.Tuple [.Name x px, .Name y py] kt pt, iter, ifs, 0⟩] pos) (newList []) (firstAsync [⟨.Tuple [.Name x px, .Name y py] kt pt, iter, ifs, 0⟩]) (firstIter [⟨.Tuple [.Name x px, .Name y py] kt pt, iter, ifs, 0⟩] X.env) (some fun v => assignAll v ((assignEach [.Name z pz] X.env).map (·.2)))) (fun _ s' => SP X pins D .next s') X.xe s from
    wpAny_bind (wpAny_mono key (fun _ s' h => wpAny_pure (wpAny_pure h)) fun _ _ h => h)
  refine lc_core (ns := [x, y]) (gt := gTup X.K 2 (gCons (gName 0) (gCons (gName 1) gNil))) (R := fun J σ H Q => LCg2 X.K J caps tc te σ H Q) caps (fun J σ H Q h => ?_) hi (fun C s H ex pn => pg_tup hc (pgs_cons (pg_name hnd rfl (.inl (lookup_relabel_local hx)) (.inr (lookup_relabel_local hx))) (pgs_cons (pg_name hnd rfl (.inl (lookup_relabel_local hy)) (.inr (lookup_relabel_local hy))) pgs_nil))) hf he hc hclos hcl hcap hkind hcell hfree hcf hnames hs I h fun acc C s6 m r0 hm fCC fin => ?_
  · obtain ⟨W, w0, turn⟩ := h
    refine ⟨W, w0, fun i m ys H hw => (turn i m ys H hw).imp id fun ⟨g, l, st⟩ => ⟨g, l, fun z H' y vs hv => ?_⟩⟩
    obtain ⟨ta, u1, u2, ez, hst, st⟩ := st z H' y
    match vs, hv with
    | [v, v'], _ => exact ⟨[some u1, some u2], rfl, ⟨ta, _, ez, hst, rfl, _, _, rfl, _, _, rfl, rfl, rfl, rfl⟩, st⟩
  obtain ⟨v, Hf, If, rf, qf, hfC⟩ := fin s6.heap (Heap.SameBut.refl _ _)
  have fC : FpOk X pins Hf C := fCC hfC
  obtain ⟨oC, esC, epC, gC, dC, kC, nC⟩ := hm
  have Ip : Inv X (pins ++ [(C, oC)]) σ Hf s6 := Inv.pins_of If fun p hp => by
    rcases List.mem_append.mp hp with hp | hp
    · exact If.pin p (List.mem_append_right _ hp)
    · rw [List.mem_singleton.mp hp]
      exact ⟨gC, fC.1, fC.2.1, fC.2.2.1, fun v z => by rw [dC] at z; cases z⟩
  show wpAny _ _ (assign (.Name z pz) X.env (.ref acc)) _ _ _
  refine wpAny_assign_Name (store_ok Ip hN hiz hz rf (fun s7 I7 => ?_) hfz)
  have g7 := (I7.pin (C, oC) (List.mem_append_right _ (List.mem_append_right _ List.mem_cons_self))).1
  refine ⟨m, ⟨oC, esC, epC, g7, dC, kC, nC⟩, fun h' hs' => ?_⟩
  have I8 := I7.unpinned
  have qf : D.nx (σ.set iz (some v)) Hf := by rw [← hQ] at qf; exact qf
  have kb : ∀ b o, b ≠ C → s7.heap.get? b = some o → h'.get? b = some o := fun b o hb e => hs'.extBut b o hb e
  refine ⟨_, Hf, I8.step (ch := [C]) (fun b hb => ?_) (fun b o _ _ hb e _ => kb b o (fun z => hb (by rw [z]; exact List.mem_cons_self)) e) (fun b o _ _ hb e _ => ⟨o.slots, kb b o (fun z => hb (by rw [z]; exact List.mem_cons_self)) e⟩) (fun _ _ _ _ h => h) (fun b o hb e => ⟨o, kb b o (fun z => hb (by rw [z]; exact List.mem_cons_self)) e⟩) (fun _ _ h => h) (fun _ _ _ h => h) (fun _ ps h => ⟨#[], by simpa using h⟩) (fun m' hm' => ?_) (fun b u e => ?_) I8.bare, qf⟩
  · rw [List.mem_singleton.mp hb]
    exact ⟨fC.2.2.2.1, fC.2.1, fC.2.2.2.2.1, fC.2.2.2.2.2⟩
  · obtain ⟨o', e1, e2, e3, e4, e5⟩ := hm'
    exact ⟨o', e1, e2, kb _ _ fC.2.1.symm e3, e4, e5⟩
  · refine (I8.hok b u e).stay (fun c w' hc q => kb c w' ?_ q) (fun _ q => q) fun _ _ q => q
    rintro rfl
    rcases hc with rfl | hc
    · rw [hfC] at e; cases e
    · rw [hfC] at hc; cases hc
end G
namespace G
open PySem L2 PySem.Spec PyProof.Rows
section
variable {X : Cx}
def tFmt (t : TE) : TE := fun σ H Q => t σ H fun v H' => (∃ i : Int, v = .int i ∧ i.natAbs.log2 < 1920 ∧ Q (.str (Str.ofString (toString i))) H') ∨ ∃ z : Str, v = .str z ∧ z.length ≤ sizeLine ∧ Q (.str z) H'
def tFs : List TE → Str → TE
  | [], acc => fun _ H Q => acc.length ≤ sizeLine ∧ Q (.str acc) H
  | t :: ts, acc => fun σ H Q => t σ H fun v H' => ∃ z : Str, v = .str z ∧ (acc ++ z).length ≤ sizeLine ∧ tFs ts (acc ++ z) σ H' Q
inductive PL (X : Cx) : List Expr → List TE → Prop
  | nil : PL X [] []
  | cons {e : Expr} {t : TE} {es : List Expr} {ts : List TE} : PE X e t → PL X es ts → PL X (e :: es) (t :: ts)
theorem pe_fmt {e : Expr} {t : TE} {pos : Pos} (h : PE X e t) : PE X (.FormattedValue e (-1) none pos) (tFmt t) := by
  intro pins s σ H Q I q
  refine FormattedValue_plain (thn (h pins s σ H _ I q) fun v s1 ⟨x, H1, I1, r1, q1⟩ => ?_)
  rcases q1 with ⟨i, rfl, hd, q⟩ | ⟨z, rfl, hz, q⟩
  · obtain ⟨k, rfl⟩ := r1
    exact formatField_int_small hd ⟨.str _, H1, I1.tok _, ⟨_, rfl⟩, q⟩
  · obtain ⟨k, rfl⟩ := r1
    exact formatField_str (fun t' tk => ⟨.str z, H1, I1.tok tk, ⟨_, rfl⟩, q⟩) hz
theorem joinE {es : List Expr} {ts : List TE} (h : PL X es ts) : ∀ (acc : Str) (pins : List (Addr × Obj)) (s : Shared) (σ : L2.St) (H : Hp) (Q : VK), Inv X pins σ H s → tFs ts acc σ H Q → wpAny (model X.prog X.w) X.A (joinParts acc (evalEach es X.env)) (EP X pins σ Q) X.xe s := by
  induction h with
  | nil =>
    intro acc pins s σ H Q I q
    exact joinParts_nil ⟨.str acc, H, I.tok _, ⟨_, rfl⟩, q.2⟩ q.1
  | @cons e t es ts he _ ih =>
    intro acc pins s σ H Q I q
    refine joinParts_cons (thn (he pins s σ H _ I q) fun v s1 ⟨x, H1, I1, r1, q1⟩ => ?_)
    obtain ⟨z, rfl, hz, q2⟩ := q1
    obtain ⟨k, rfl⟩ := r1
    exact ⟨hz, ih _ pins s1 σ H1 Q I1 q2⟩
theorem pe_fs {e1 e2 : Expr} {es : List Expr} {ts : List TE} {pos : Pos} (h : PL X (e1 :: e2 :: es) ts) : PE X (.JoinedStr (e1 :: e2 :: es) pos) (tFs ts Str.empty) := by
  intro pins s σ H Q I q
  exact JoinedStr_many (joinE h Str.empty pins s σ H Q I q)
theorem i_fs {t : TE} {ts : List TE} {acc : Str} {σ : L2.St} {H : Hp} {Q : VK} (h : t σ H fun v H' => ∃ z : Str, v = .str z ∧ (acc ++ z).length ≤ sizeLine ∧ tFs ts (acc ++ z) σ H' Q) : tFs (t :: ts) acc σ H Q := h
theorem i_fmt {t : TE} {σ : L2.St} {H : Hp} {Q : VK} (h : t σ H fun v H' => (∃ i : Int, v = .int i ∧ i.natAbs.log2 < 1920 ∧ Q (.str (Str.ofString (toString i))) H') ∨ ∃ z : Str, v = .str z ∧ z.length ≤ sizeLine ∧ Q (.str z) H') : tFmt t σ H Q := h
end
end G
local macro_rules | `(tactic| walk_at "g2") => `(tactic| with_reducible first | refine G.i_next ?_ | refine G.i_drop ?_ | refine G.i_ret ?_ | refine G.i_if ?_ | refine G.i_asg ?_ | refine G.i_C ?_ | refine G.i_op ?_ | refine G.i_un ?_ | refine G.i_B ?_ | refine G.i_test ?_ | refine G.i_tB ?_ | refine G.i_and ?_ | refine G.i_or ?_ | refine G.i_not ?_ | refine G.i_andV ?_ | refine G.i_notV ?_ | refine G.i_ifx ?_ | refine G.i_I0 ?_ | refine G.i_U ?_ | refine G.i_eqI ?_ | refine G.i_eqS ?_ | refine G.i_neI ?_ | refine G.i_neS ?_ | refine G.i_isN0 ?_ | refine G.i_isN1 ?_ | refine G.i_isN3 ?_ | refine G.i_notN0 ?_ | refine G.i_notN1 ?_ | refine G.i_iteT ?_ | refine G.i_iteF ?_ | refine G.i_iteNT ?_ | refine G.i_iteNF ?_ | refine G.i_nil ?_ | refine G.i_cons ?_ | refine G.i_lst ?_ | refine G.i_tup ?_ | refine G.i_call ?_ | refine G.i_CB ?_ | refine G.i_make ?_ | refine G.i_fld ?_ | refine G.i_sfld ?_ | refine G.i_meth ?_ | refine G.i_noPart ?_ | refine G.i_part ?_ | refine G.i_kI ?_ | refine G.i_sl ?_ | refine G.i_bm ?_ | refine G.i_for ?_ | refine G.i_iL ?_ | refine G.i_iR ?_ | refine G.i_v0 ?_ | refine G.i_v1 ?_ | refine G.i_v2 ?_ | refine G.i_v3 ?_ | refine G.i_v4 ?_ | refine G.i_v5 ?_ | refine G.i_v6 ?_ | refine G.i_v7 ?_ | refine G.i_v8 ?_ | refine G.i_v9 ?_ | refine G.i_v10 ?_ | refine G.i_v11 ?_ | refine G.i_v12 ?_ | refine G.i_v13 ?_ | refine G.i_g1 ?_ | refine G.i_g2 ?_ | refine G.i_g3 ?_ | refine G.i_g4 ?_ | refine G.i_g5 ?_ | refine G.i_g6 ?_ | refine G.i_g7 ?_ | refine G.i_g8 ?_ | refine G.i_g9 ?_ | refine G.i_g10 ?_ | refine G.i_g11 ?_ | refine G.i_g12 ?_ | refine G.i_g13 ?_ | refine G.i_inS ?_ | refine G.i_tyS ?_ | refine G.i_true ?_ | refine G.i_chain ?_ | refine G.i_starts ?_ | refine G.i_gsub ?_ | refine G.i_make0 ?_ | refine G.i_lcg2 ?_ | refine G.i_isiI_int ?_ | refine G.i_isiI_bool ?_ | refine G.i_isiI_str ?_ | refine G.i_isiS_str ?_ | refine G.i_iE ?_ | refine G.i_iZ ?_ | refine G.i_iZ2 ?_ | refine G.i_tabV ?_ | refine G.i_tabG ?_ | refine G.i_tabIn ?_ | refine G.i_fs ?_ | refine G.i_fmt ?_)
local macro_rules | `(tactic| walk_at "g1") => `(tactic| first | (with_reducible refine G.i_seq ?_) | walk_at "g2")
local macro_rules | `(tactic| walk_at "ne") => `(tactic| first | assumption | (exact Ne.symm (by assumption)) | exact L2.ne_of_none (by assumption) (by assumption) | exact Ne.symm (L2.ne_of_none (by assumption) (by assumption)) | exact Nat.ne_of_lt (by assumption))
local macro_rules | `(tactic| walk_at "hp") => `(tactic| first | assumption | exact L2.upd_same | (refine Eq.trans (L2.upd_ne ?hne) ?_; (case hne => walk_at "ne"); walk_at "hp"))
local macro_rules | `(tactic| walk_at "side") => `(tactic| first | omega | decide | (show (_ : Int) < _; decide) | exact ⟨by decide, by decide⟩ | exact ⟨by decide, by decide, by decide⟩ | (unfold L2.CMul; omega) | exact .inl (by unfold L2.CMul; omega))
local macro_rules | `(tactic| walk_at "ev") => `(tactic| repeat (first | walk_at "g1" | ((with_reducible refine G.i_I ?hc ?_); (case hc => walk_at "side"))))
local macro_rules | `(tactic| walk_at "es") => `(tactic| repeat (first | walk_at "g2" | ((with_reducible refine G.i_I ?hc ?_); (case hc => walk_at "side"))))
local macro_rules | `(tactic| walk_at "caps") => `(tactic| simp only [List.map_cons, List.map_nil, G.pick, List.getElem?_cons_zero, List.getElem?_cons_succ])
namespace K38
open PySem L2 G
def kindF (lk : Addr) (tl : Int) : List (Str × V) := [("looking", .ref lk), ("tells", .int tl)]
theorem kindF_s_tells_looking : (("tells" : Str) == ("looking" : Str)) = false := by decide +kernel
theorem kindF_lk_looking {lk : Addr} {tl : Int} : List.lookup ("looking" : Str) (kindF lk tl) = some (.ref lk : V) := by
  unfold kindF
  simp only [List.lookup, beq_self_eq_true]
theorem kindF_lk_tells {lk : Addr} {tl : Int} : List.lookup ("tells" : Str) (kindF lk tl) = some (.int tl : V) := by
  unfold kindF
  simp only [List.lookup, beq_self_eq_true, kindF_s_tells_looking]
theorem kindF_ne {a b : Str} (h : (a == b) = false) : ¬ b = a := fun e => by rw [e, beq_self_eq_true] at h; cases h
theorem kindF_mk {lk : Addr} {tl : Int} : (putF "tells" (.int tl) (putF "looking" (.ref lk) [])) = kindF lk tl := by
  unfold kindF
  simp only [putF, if_neg (kindF_ne kindF_s_tells_looking)]
theorem kindF_s_words_looking : (("words" : Str) == ("looking" : Str)) = false := by decide +kernel
theorem kindF_s_words_tells : (("words" : Str) == ("tells" : Str)) = false := by decide +kernel
theorem kindF_no_words {lk : Addr} {tl : Int} : List.lookup ("words" : Str) (kindF lk tl) = none := by
  unfold kindF
  simp only [List.lookup, kindF_s_words_looking, kindF_s_words_tells]
def sceneF (rm : Int) (kd : Addr) (hd : Addr) (rw : Addr) : List (Str × V) := [("room", .int rm), ("kind", .ref kd), ("hands", .ref hd), ("rows", .ref rw)]
theorem sceneF_s_kind_room : (("kind" : Str) == ("room" : Str)) = false := by decide +kernel
theorem sceneF_s_hands_room : (("hands" : Str) == ("room" : Str)) = false := by decide +kernel
theorem sceneF_s_hands_kind : (("hands" : Str) == ("kind" : Str)) = false := by decide +kernel
theorem sceneF_s_rows_room : (("rows" : Str) == ("room" : Str)) = false := by decide +kernel
theorem sceneF_s_rows_kind : (("rows" : Str) == ("kind" : Str)) = false := by decide +kernel
theorem sceneF_s_rows_hands : (("rows" : Str) == ("hands" : Str)) = false := by decide +kernel
theorem sceneF_lk_room {rm : Int} {kd : Addr} {hd : Addr} {rw : Addr} : List.lookup ("room" : Str) (sceneF rm kd hd rw) = some (.int rm : V) := by
  unfold sceneF
  simp only [List.lookup, beq_self_eq_true]
theorem sceneF_lk_kind {rm : Int} {kd : Addr} {hd : Addr} {rw : Addr} : List.lookup ("kind" : Str) (sceneF rm kd hd rw) = some (.ref kd : V) := by
  unfold sceneF
  simp only [List.lookup, beq_self_eq_true, sceneF_s_kind_room]
theorem sceneF_lk_hands {rm : Int} {kd : Addr} {hd : Addr} {rw : Addr} : List.lookup ("hands" : Str) (sceneF rm kd hd rw) = some (.ref hd : V) := by
  unfold sceneF
  simp only [List.lookup, beq_self_eq_true, sceneF_s_hands_room, sceneF_s_hands_kind]
theorem sceneF_lk_rows {rm : Int} {kd : Addr} {hd : Addr} {rw : Addr} : List.lookup ("rows" : Str) (sceneF rm kd hd rw) = some (.ref rw : V) := by
  unfold sceneF
  simp only [List.lookup, beq_self_eq_true, sceneF_s_rows_room, sceneF_s_rows_kind, sceneF_s_rows_hands]
theorem sceneF_ne {a b : Str} (h : (a == b) = false) : ¬ b = a := fun e => by rw [e, beq_self_eq_true] at h; cases h
theorem sceneF_mk {rm : Int} {kd : Addr} {hd : Addr} {rw : Addr} : (putF "rows" (.ref rw) (putF "hands" (.ref hd) (putF "kind" (.ref kd) (putF "room" (.int rm) [])))) = sceneF rm kd hd rw := by
  unfold sceneF
  simp only [putF, if_neg (sceneF_ne sceneF_s_kind_room), if_neg (sceneF_ne sceneF_s_hands_room), if_neg (sceneF_ne sceneF_s_hands_kind), if_neg (sceneF_ne sceneF_s_rows_room), if_neg (sceneF_ne sceneF_s_rows_kind), if_neg (sceneF_ne sceneF_s_rows_hands)]
def rd_forms_of (C_FORMS_copy C_FORMS_drop C_FORMS_get C_FORMS_give C_FORMS_make C_FORMS_name C_FORMS_put C_FORMS_read C_FORMS_seek C_FORMS_write : Addr) : TS :=
  (tRet (G.tTabG [("make", .ref C_FORMS_make), ("get", .ref C_FORMS_get), ("put", .ref C_FORMS_put), ("copy", .ref C_FORMS_copy), ("drop", .ref C_FORMS_drop), ("give", .ref C_FORMS_give), ("write", .ref C_FORMS_write), ("read", .ref C_FORMS_read), ("name", .ref C_FORMS_name), ("seek", .ref C_FORMS_seek)] (tVar 0)))
def rd_Scene___init__ (K : PySem.W.Frag) : TS :=
  (tSeq (sFld K (tVar 0) (tVar 1) "room")
      (tSeq (sFld K (tVar 0) (tVar 2) "kind")
      (tSeq (sFld K (tVar 0) (tCB (G.cListL K) (tCons (tVar 3) tNil)) "hands")
      (sFld K (tVar 0) (tCB (G.cListL K) (tCons (tVar 4) tNil)) "rows"))))
def rd_written (K : PySem.W.Frag) (C_Kind : Addr) (sp_Kind_words sp_written_row : Sp) : TS :=
  (tSeq (tAsg (G.tLC2 K (iList K (tFld K (tVar 0) "hands")) [] G.tTrue (tVar 0)) (gName 1))
      (tSeq (tAsg (tFld K (tVar 0) "room") (gName 2))
      (tSeq (tAsg (tMeth C_Kind "words" sp_Kind_words [] E0 (tFld K (tVar 0) "kind") tNil) (gName 3))
      (tSeq (tAsg (tLst (tCons (G.tFs [(tC (.str "room ")), (G.tFmt (tVar 2))] Str.empty) (tCons (G.tFs [(tC (.str "kind ")), (G.tFmt (tVar 3))] Str.empty) tNil))) (gName 4))
      (tSeq (tDrop (tBM K "list" rExtend (tVar 4) (tCons (G.tLC2 K (iList K (tFld K (tVar 0) "hands")) [] G.tTrue (G.tFs [(tC (.str "hand ")), (G.tFmt (tVar 0)), (tC (.str " ")), (G.tFmt (tVar 1))] Str.empty)) tNil)))
      (tSeq (tDrop (tBM K "list" rAppend (tVar 4) (tCons (tC (.str "weave")) tNil)))
      (tSeq (tDrop (tBM K "list" rExtend (tVar 4) (tCons (G.tLC (iList K (tFld K (tVar 0) "rows")) [1] G.tTrue (tCall sp_written_row [] E0 (tCons (tVar 0) (tCons (tVar 1) tNil)))) tNil)))
      (tRet (tBM K "str" (G.r_join K) (tC (.str "\n")) (tCons (tVar 4) tNil))))))))))
def rd_written_row (K : PySem.W.Frag) (sp_forms_of sp_written_part : Sp) : TS :=
  (tSeq (tAsg (tOp (rIxT K) (tVar 0) (tC (.int 0))) (gName 2))
      (tSeq (tIfS (tTest (tOp (rEq) (tVar 2) (tC (.str "sweep")))) (tRet (tBM K "str" (G.r_join K) (tC (.str " ")) (tCons (tLst (tCons (tVar 2) (tCons (tCB (G.cStrI) (tCons (tOp (rIxT K) (tVar 0) (tC (.int 1))) tNil)) tNil))) tNil))) tNext)
      (tSeq (tAsg (G.tLC2 K (G.iZip2 K true true (tCons (tCall sp_forms_of [] E0 (tCons (tVar 2) tNil)) (tCons (tSl (rSlT K) (tVar 0) (tPart (tC (.int 1))) tNoPart) tNil))) [1] G.tTrue (tCall sp_written_part [] E0 (tCons (tVar 0) (tCons (tVar 1) (tCons (tVar 2) tNil))))) (gName 3))
      (tRet (tBM K "str" (G.r_join K) (tC (.str " ")) (tCons (tOp (rCat) (tOp (rCat) (tSl (rSlL K) (tVar 3) tNoPart (tPart (tC (.int 1)))) (tLst (tCons (tVar 2) tNil))) (tSl (rSlL K) (tVar 3) (tPart (tC (.int 1))) tNoPart)) tNil))))))
def rd_written_part (K : PySem.W.Frag) : TS :=
  (tRet (tIf (tTest (tOp (rEq) (tVar 0) (tC (.str "hand")))) (tOp (rIxL K) (tVar 2) (tVar 1)) (tCB (G.cStrV) (tCons (tVar 1) tNil))))
def rd_First_word  : TS :=
  (tRet (tC (.str "first")))
def rd_Each_word  : TS :=
  (tRet (tC (.str "each")))
def rd_Last_word  : TS :=
  (tRet (tC (.str "last")))
def rd_Kind___init__ (K : PySem.W.Frag) : TS :=
  (tSeq (sFld K (tVar 0) (tVar 1) "looking")
      (sFld K (tVar 0) (tVar 2) "tells"))
def rd_Kind_words (K : PySem.W.Frag) (C_Each C_First C_Last : Addr) (sp_Each_word sp_First_word sp_Last_word : Sp) : TS :=
  (tSeq (tAsg (G.tOrE (tMeth C_First "word" sp_First_word [] E0 (tFld K (tVar 0) "looking") tNil) (G.tOrE (tMeth C_Each "word" sp_Each_word [] E0 (tFld K (tVar 0) "looking") tNil) (tMeth C_Last "word" sp_Last_word [] E0 (tFld K (tVar 0) "looking") tNil))) (gName 1))
      (tSeq (tIfS (tTest (tOp (rNe) (tOp (rI0 fun i j => .int (Builtin.bitAnd i j)) (tFld K (tVar 0) "tells") (tC (.int 1))) (tC (.int 0)))) (tAsg (tOp (G.rCatS) (tVar 1) (tC (.str " old"))) (gName 1)) tNext)
      (tSeq (tIfS (tTest (tOp (rNe) (tOp (rI0 fun i j => .int (Builtin.bitAnd i j)) (tFld K (tVar 0) "tells") (tC (.int 2))) (tC (.int 0)))) (tAsg (tOp (G.rCatS) (tVar 1) (tC (.str " new"))) (gName 1)) tNext)
      (tRet (tVar 1)))))
def rd_kind_of (K : PySem.W.Frag) (C_Each C_First C_Kind C_Last : Addr) (sp_Kind___init__ sp_Kind_words : Sp) : TS :=
  (tSeq (tFor (iList K (tLst (tCons (G.tMake0 C_First) (tCons (G.tMake0 C_Each) (tCons (G.tMake0 C_Last) tNil))))) (gName 1)
      (tFor (iRng1 (tCons (tC (.int 4)) tNil)) (gName 2)
      (tSeq (tAsg (tMake C_Kind sp_Kind___init__ [] E0 (tCons (tVar 1) (tCons (tVar 2) tNil))) (gName 3))
      (tIfS (tTest (tOp (rEq) (tMeth C_Kind "words" sp_Kind_words [] E0 (tVar 3) tNil) (tVar 0))) (tRet (tVar 3)) tNext))))
      (tRet (tC .non)))
def rd_made_of (K : PySem.W.Frag) : TS :=
  (tRet ((tAndV (tChain (rI0 fun i j => .bl (decide (i ≤ j))) (rI0 fun i j => .bl (decide (i ≤ j))) (tC (.int 1)) (tCB (G.cLenS) (tCons (tVar 0) tNil)) (tVar 2)) (tCB (G.cAll K) (tCons (G.tLC (G.iStr (tVar 0)) [1] G.tTrue (tOp (G.rInS) (tVar 0) (tVar 1))) tNil)))))
def rd_number_of (K : PySem.W.Frag) (sp_made_of : Sp) : TS :=
  (tSeq (tIfS (tNot (tB (tCall sp_made_of [] E0 (tCons (tVar 0) (tCons (tC (.str "0123456789")) (tCons (tC (.int 60)) tNil)))))) (tRet (tC .non)) tNext)
      (tSeq (tIfS ((tAnd (tB (tBM K "str" G.r_startswith (tVar 0) (tCons (tC (.str "0")) tNil))) (tTest (tOp (rNe) (tVar 0) (tC (.str "0")))))) (tRet (tC .non)) tNext)
      (tSeq (tAsg (tCB (G.cIntS) (tCons (tVar 0) tNil)) (gName 2))
      (tSeq (tIfS ((tAnd (tTest (tOp (G.rNotN) (tVar 1) (tC .non))) (tTest (tOp (rI0 fun i j => .bl (decide (j < i))) (tVar 2) (tVar 1))))) (tRet (tC .non)) tNext)
      (tRet (tVar 2))))))
def rd_load_of (K : PySem.W.Frag) (sp_number_of : Sp) : TS :=
  (tSeq (tIfS (tNot (tB (tBM K "str" G.r_startswith (tVar 0) (tCons (tC (.str "-")) tNil)))) (tRet (tCall sp_number_of [.non] E0 (tCons (tVar 0) tNil))) tNext)
      (tSeq (tAsg (tCall sp_number_of [.non] E0 (tCons (tSl (G.rSlS) (tVar 0) (tPart (tC (.int 1))) tNoPart) tNil)) (gName 1))
      (tSeq (tIfS ((tOr (tTest (tOp (G.rIsN) (tVar 1) (tC .non))) (tTest (tOp (rEq) (tVar 1) (tC (.int 0)))))) (tRet (tC .non)) tNext)
      (tRet (tUn (rU fun i => .int (-i)) (tVar 1))))))
def rd_is_word (sp_made_of : Sp) : TS :=
  (tRet (tCall sp_made_of [] E0 (tCons (tVar 0) (tCons (tC (.str "abcdefghijklmnopqrstuvwxyz")) (tCons (tC (.int 12)) tNil)))))
def rd_read (K : PySem.W.Frag) (C_Scene : Addr) (sp_Scene___init__ sp_hands_of sp_kind_in sp_room_in sp_row_at sp_weave_of sp_well_formed : Sp) : TS :=
  (tSeq (tAsg (tBM K "str" G.r_split (tVar 0) (tCons (tC (.str "\n")) tNil)) (gName 1))
      (tSeq (tAsg (tCall sp_well_formed [] E0 (tCons (tCall sp_room_in [] E0 (tCons (tCall sp_row_at [] E0 (tCons (tVar 1) (tCons (tC (.int 1)) tNil))) tNil)) (tCons (tC (.int 1)) tNil))) (gName 2))
      (tSeq (tAsg (tCall sp_well_formed [] E0 (tCons (tCall sp_kind_in [] E0 (tCons (tCall sp_row_at [] E0 (tCons (tVar 1) (tCons (tC (.int 2)) tNil))) tNil)) (tCons (tC (.int 2)) tNil))) (gName 3))
      (tSeq (tAsg (tCall sp_hands_of [] E0 (tCons (tVar 1) tNil)) (gName 4))
      (tSeq (tAsg (tOp (rI0 fun i j => .int (i + j)) (tOp (rI0 fun i j => .int (i + j)) (tC (.int 3)) (tCB (G.cLenL K) (tCons (tVar 4) tNil))) (tC (.int 1))) (gName 5))
      (tRet (tMake C_Scene sp_Scene___init__ [] E0 (tCons (tVar 2) (tCons (tVar 3) (tCons (tVar 4) (tCons (tCall sp_weave_of [] E0 (tCons (tVar 1) (tCons (tVar 5) (tCons (tVar 4) tNil)))) tNil)))))))))))
def rd_row_at (K : PySem.W.Frag) : TS :=
  (tSeq (tIfS (tTest (tOp (rI0 fun i j => .bl (decide (j < i))) (tVar 1) (tCB (G.cLenL K) (tCons (tVar 0) tNil)))) (tNever) tNext)
      (tRet (tOp (rIxL K) (tVar 0) (tOp (rI0 fun i j => .int (i - j)) (tVar 1) (tC (.int 1))))))
def rd_well_formed  : TS :=
  (tSeq (tIfS (tTest (tOp (G.rIsN) (tVar 0) (tC .non))) (tNever) tNext)
      (tRet (tVar 0)))
def rd_number_between (sp_number_of : Sp) : TS :=
  (tSeq (tAsg (tCall sp_number_of [] E0 (tCons (tVar 0) (tCons (tVar 2) tNil))) (gName 3))
      (tSeq (tIfS ((tOr (tTest (tOp (G.rIsN) (tVar 3) (tC .non))) (tTest (tOp (rI0 fun i j => .bl (decide (i < j))) (tVar 3) (tVar 1))))) (tRet (tC .non)) tNext)
      (tRet (tVar 3))))
def rd_room_in (K : PySem.W.Frag) (sp_number_between : Sp) : TS :=
  (tSeq (tAsg (tBM K "str" G.r_split (tVar 0) (tCons (tC (.str " ")) tNil)) (gName 1))
      (tSeq (tIfS ((tOr (tTest (tOp (rNe) (tCB (G.cLenL K) (tCons (tVar 1) tNil)) (tC (.int 2)))) (tTest (tOp (rNe) (tOp (rIxL K) (tVar 1) (tC (.int 0))) (tC (.str "room")))))) (tRet (tC .non)) tNext)
      (tRet (tCall sp_number_between [] E0 (tCons (tOp (rIxL K) (tVar 1) (tC (.int 1))) (tCons (tC (.int 4)) (tCons (tC (.int 1000000000000000)) tNil)))))))
def rd_kind_in (K : PySem.W.Frag) (sp_kind_of : Sp) : TS :=
  (tSeq (tAsg (tBM K "str" G.r_split (tVar 0) (tCons (tC (.str " ")) tNil)) (gName 1))
      (tSeq (tIfS (tTest (tOp (rNe) (tOp (rIxL K) (tVar 1) (tC (.int 0))) (tC (.str "kind")))) (tRet (tC .non)) tNext)
      (tRet (tCall sp_kind_of [] E0 (tCons (tBM K "str" (G.r_join K) (tC (.str " ")) (tCons (tSl (rSlL K) (tVar 1) (tPart (tC (.int 1))) tNoPart) tNil)) tNil)))))
def rd_hands_of (K : PySem.W.Frag) (sp_hand_of sp_row_at : Sp) : TS :=
  (tSeq (tAsg (tLst (tCons (tCall sp_hand_of [] E0 (tCons (tVar 0) (tCons (tC (.int 3)) (tCons (tLst tNil) tNil)))) tNil)) (gName 1))
      (tSeq (tAsg (tOp (rI0 fun i j => .int (i + j)) (tC (.int 3)) (tC (.int 1))) (gName 2))
      (tSeq (tWhile (tTest (tOp (rNe) (tCall sp_row_at [] E0 (tCons (tVar 0) (tCons (tVar 2) tNil))) (tC (.str "weave")))) (tSeq (tIfS (tTest (tOp (rEq) (tCB (G.cLenL K) (tCons (tVar 1) tNil)) (tC (.int 5)))) (tNever) tNext)
      (tSeq (tDrop (tBM K "list" rAppend (tVar 1) (tCons (tCall sp_hand_of [] E0 (tCons (tVar 0) (tCons (tVar 2) (tCons (tVar 1) tNil)))) tNil)))
      (tAsg (tOp (rI0 fun i j => .int (i + j)) (tVar 2) (tC (.int 1))) (gName 2)))))
      (tRet (tVar 1)))))
def rd_hand_of (K : PySem.W.Frag) (sp_hand_in sp_names_of sp_row_at sp_well_formed : Sp) : TS :=
  (tSeq (tAsg (tCall sp_well_formed [] E0 (tCons (tCall sp_hand_in [] E0 (tCons (tCall sp_row_at [] E0 (tCons (tVar 0) (tCons (tVar 1) tNil))) tNil)) (tCons (tVar 1) tNil))) (gName 3))
      (tSeq (tIfS (tTest (tOp (rIn K false) (tOp (rIxT K) (tVar 3) (tC (.int 0))) (tCall sp_names_of [] E0 (tCons (tVar 2) tNil)))) (tNever) tNext)
      (tRet (tVar 3))))
def rd_names_of (K : PySem.W.Frag) : TS :=
  (tRet (G.tLC2 K (iList K (tVar 0)) [] G.tTrue (tVar 0)))
def rd_hand_in (K : PySem.W.Frag) (sp_is_hand_name sp_number_between : Sp) : TS :=
  (tSeq (tAsg (tBM K "str" G.r_split (tVar 0) (tCons (tC (.str " ")) tNil)) (gName 1))
      (tSeq (tIfS ((tOr (tTest (tOp (rNe) (tCB (G.cLenL K) (tCons (tVar 1) tNil)) (tC (.int 3)))) (tOr (tTest (tOp (rNe) (tOp (rIxL K) (tVar 1) (tC (.int 0))) (tC (.str "hand")))) (tNot (tB (tCall sp_is_hand_name [] E0 (tCons (tOp (rIxL K) (tVar 1) (tC (.int 1))) tNil))))))) (tRet (tC .non)) tNext)
      (tSeq (tAsg (tCall sp_number_between [] E0 (tCons (tOp (rIxL K) (tVar 1) (tC (.int 2))) (tCons (tC (.int 3)) (tCons (tC (.int 9)) tNil)))) (gName 2))
      (tSeq (tIfS (tTest (tOp (G.rIsN) (tVar 2) (tC .non))) (tRet (tC .non)) tNext)
      (tRet (tTup (tCons (tOp (rIxL K) (tVar 1) (tC (.int 1))) (tCons (tVar 2) tNil))))))))
def rd_is_hand_name (sp_is_word : Sp) : TS :=
  (tRet ((tAndV (tCall sp_is_word [] E0 (tCons (tVar 0) tNil)) (tOp (rNe) (tVar 0) (tC (.str "sweep"))))))
def rd_weave_of (K : PySem.W.Frag) (sp_weave_row : Sp) : TS :=
  (tSeq (tAsg (tLst tNil) (gName 3))
      (tSeq (tFor (iRng2 (tCons (tVar 1) (tCons (tOp (rI0 fun i j => .int (i + j)) (tCB (G.cLenL K) (tCons (tVar 0) tNil)) (tC (.int 1))) tNil))) (gName 4)
      (tSeq (tIfS (tTest (tOp (rEq) (tCB (G.cLenL K) (tCons (tVar 3) tNil)) (tC (.int 400)))) (tNever) tNext)
      (tDrop (tBM K "list" rAppend (tVar 3) (tCons (tCall sp_weave_row [] E0 (tCons (tBM K "str" G.r_split (tOp (rIxL K) (tVar 0) (tOp (rI0 fun i j => .int (i - j)) (tVar 4) (tC (.int 1)))) (tCons (tC (.str " ")) tNil)) (tCons (tVar 4) (tCons (tVar 2) tNil)))) tNil)))))
      (tRet (tVar 3))))
def rd_weave_row (K : PySem.W.Frag) (sp_forms_of sp_look_at_slots sp_sweep_in sp_told_in sp_well_formed sp_with_hands : Sp) : TS :=
  (tSeq (tIfS (tTest (tOp (rEq) (tOp (rIxL K) (tVar 0) (tC (.int 0))) (tC (.str "sweep")))) (tRet (tCall sp_well_formed [] E0 (tCons (tCall sp_sweep_in [] E0 (tCons (tVar 0) tNil)) (tCons (tVar 1) tNil)))) tNext)
      (tSeq (tAsg (tCall sp_well_formed [] E0 (tCons (tCall sp_told_in [] E0 (tCons (tVar 0) tNil)) (tCons (tVar 1) tNil))) (gName 3))
      (tSeq (tAsg (tCall sp_forms_of [] E0 (tCons (tOp (rIxL K) (tVar 0) (tC (.int 1))) tNil)) (gName 4))
      (tSeq (tAsg (tCall sp_with_hands [] E0 (tCons (tVar 4) (tCons (tVar 3) (tCons (tVar 1) (tCons (tVar 2) tNil))))) (gName 5))
      (tSeq (tDrop (tCall sp_look_at_slots [] E0 (tCons (tVar 4) (tCons (tVar 5) (tCons (tVar 1) (tCons (tVar 2) tNil))))))
      (tRet (tCB (G.cTupL K) (tCons (tOp (rCat) (tLst (tCons (tOp (rIxL K) (tVar 0) (tC (.int 1))) tNil)) (tVar 5)) tNil))))))))
def rd_sweep_in (K : PySem.W.Frag) (sp_number_between : Sp) : TS :=
  (tSeq (tIfS (tTest (tOp (rNe) (tCB (G.cLenL K) (tCons (tVar 0) tNil)) (tC (.int 2)))) (tRet (tC .non)) tNext)
      (tSeq (tAsg (tCall sp_number_between [] E0 (tCons (tOp (rIxL K) (tVar 0) (tC (.int 1))) (tCons (tC (.int 1)) (tCons (tC (.int 9999)) tNil)))) (gName 1))
      (tSeq (tIfS (tTest (tOp (G.rIsN) (tVar 1) (tC .non))) (tRet (tC .non)) tNext)
      (tRet (tTup (tCons (tC (.str "sweep")) (tCons (tVar 1) tNil)))))))
def rd_told_in (K : PySem.W.Frag) (sp_forms_of sp_value_of : Sp) : TS :=
  (tSeq (tAsg (tIf (tTest (tOp (rI0 fun i j => .bl (decide (j < i))) (tCB (G.cLenL K) (tCons (tVar 0) tNil)) (tC (.int 1)))) (tCall sp_forms_of [] E0 (tCons (tOp (rIxL K) (tVar 0) (tC (.int 1))) tNil)) (tC .non)) (gName 1))
      (tSeq (tAsg (tOp (rCat) (tSl (rSlL K) (tVar 0) tNoPart (tPart (tC (.int 1)))) (tSl (rSlL K) (tVar 0) (tPart (tC (.int 2))) tNoPart)) (gName 2))
      (tSeq (tIfS ((tOr (tTest (tOp (G.rIsN) (tVar 1) (tC .non))) (tTest (tOp (rNe) (tCB (G.cLenL K) (tCons (tVar 2) tNil)) (tCB (G.cLenL K) (tCons (tVar 1) tNil)))))) (tRet (tC .non)) tNext)
      (tSeq (tAsg (G.tLC2 K (G.iZip2 K true false (tCons (tVar 1) (tCons (tVar 2) tNil))) [] G.tTrue (tCall sp_value_of [] E0 (tCons (tVar 0) (tCons (tVar 1) tNil)))) (gName 3))
      (tSeq (tIfS (tTest (tOp (rIn K false) (tC .non) (tVar 3))) (tRet (tC .non)) tNext)
      (tRet (tVar 3)))))))
def rd_value_of (sp_is_word sp_load_of sp_number_of : Sp) : TS :=
  (tSeq (tIfS (tB (G.tTabIn (tVar 0) [("slot", .int 999), ("field", .int 999), ("many", .int 8), ("bulk", .int 1000000000000)])) (tRet (tCall sp_number_of [] E0 (tCons (tVar 1) (tCons (G.tTabV [("slot", .int 999), ("field", .int 999), ("many", .int 8), ("bulk", .int 1000000000000)] (tVar 0)) tNil)))) tNext)
      (tSeq (tIfS (tTest (tOp (rEq) (tVar 0) (tC (.str "load")))) (tRet (tCall sp_load_of [] E0 (tCons (tVar 1) tNil))) tNext)
      (tRet (tIf (tB (tCall sp_is_word [] E0 (tCons (tVar 1) tNil))) (tVar 1) (tC .non)))))
def rd_with_hands (K : PySem.W.Frag) (sp_names_of : Sp) : TS :=
  (tSeq (tAsg (tCall sp_names_of [] E0 (tCons (tVar 3) tNil)) (gName 4))
      (tSeq (tAsg (tLst tNil) (gName 5))
      (tSeq (tFor (G.iZip2 K true false (tCons (tVar 0) (tCons (tVar 1) tNil))) (gTup K 2 (gCons (gName 6) (gCons (gName 7) gNil)))
      (tSeq (tIfS ((tAnd (tTest (tOp (rEq) (tVar 6) (tC (.str "hand")))) (tTest (tOp (rIn K true) (tVar 7) (tVar 4))))) (tNever) tNext)
      (tDrop (tBM K "list" rAppend (tVar 5) (tCons (tIf (tTest (tOp (rEq) (tVar 6) (tC (.str "hand")))) (tBM K "list" (G.rIndexS K) (tVar 4) (tCons (tVar 7) tNil)) (tVar 7)) tNil)))))
      (tRet (tVar 5)))))
def rd_look_at_slots (K : PySem.W.Frag) : TS :=
  (tSeq (tAsg (tC (.int 0)) (gName 4))
      (tFor (G.iZip2 K true false (tCons (tVar 0) (tCons (tVar 1) tNil))) (gTup K 2 (gCons (gName 5) (gCons (gName 6) gNil)))
      (tSeq (tIfS (tTest (tOp (rEq) (tVar 5) (tC (.str "hand")))) (tAsg (tVar 6) (gName 4)) tNext)
      (tIfS ((tAnd (tTest (tOp (rEq) (tVar 5) (tC (.str "slot")))) (tTest (tOp (rI0 fun i j => .bl (decide (j ≤ i))) (tVar 6) (tOp (rIxT K) (tOp (rIxL K) (tVar 3) (tVar 4)) (tC (.int 1))))))) (tNever) tNext))))
def rd__law_cell_at (K : PySem.W.Frag) : TS :=
  (tSeq (tIfS (tTest (tOp (rI0 fun i j => .bl (decide (i < j))) (tVar 1) (tCB (G.cLenL K) (tCons (tVar 0) tNil)))) (tRet (tOp (rIxL K) (tVar 0) (tVar 1))) tNext)
      (tRet (tC (.int 0))))
def rd__law_whole  : TS :=
  (tRet ((tAndV (tCB (G.cIsi) (tCons (tVar 0) (tCons (tC (.ty "int")) tNil))) (tNotV (tCB (G.cIsi) (tCons (tVar 0) (tCons (tC (.ty "bool")) tNil)))))))
def rd__law_safe  : TS :=
  (tSeq (tIfS (tTest (tOp (rEq) (tVar 0) (tC (.str "sweep")))) (tRet (tC (.str "sweeps"))) tNext)
      (tRet (tVar 0)))
def rd__law_hands_by (K : PySem.W.Frag) (sp__law_safe : Sp) : TS :=
  (tSeq (tAsg (tC (.str "abcdefghijklmnopqrstuvwxyz")) (gName 2))
      (tSeq (tAsg (tOp (rI0 fun i j => .int (i + j)) (tC (.int 1)) (tOp (rI (fun _ j => 0 < j) fun i j => .int (i % j)) (tOp (rI CDiv fun i j => .int (i / j)) (tVar 1) (tC (.int 26))) (tC (.int 12)))) (gName 3))
      (tSeq (tAsg (tLst tNil) (gName 4))
      (tSeq (tFor (iRng1 (tCons (tOp (rI0 fun i j => .int (i + j)) (tC (.int 1)) (tOp (rI (fun _ j => 0 < j) fun i j => .int (i % j)) (tVar 0) (tC (.int 5)))) tNil)) (gName 5)
      (tSeq (tAsg (tC (.str "")) (gName 6))
      (tSeq (tFor (iRng1 (tCons (tVar 3) tNil)) (gName 7)
      (tSeq (tAsg (tOp (rI0 fun i j => .int (i + j)) (tOp (rI G.CMulB fun i j => .int (i * j)) (tOp (rI G.CMulB fun i j => .int (i * j)) (tVar 7) (tVar 7)) (tC (.int 3))) (tOp (rI G.CMulB fun i j => .int (i * j)) (tVar 7) (tOp (rI (fun _ j => 0 < j) fun i j => .int (i % j)) (tOp (rI CDiv fun i j => .int (i / j)) (tVar 1) (tC (.int 312))) (tC (.int 26))))) (gName 8))
      (tSeq (tIfS (tTest (tOp (rEq) (tVar 7) (tOp (rI (fun _ j => 0 < j) fun i j => .int (i % j)) (tOp (rI CDiv fun i j => .int (i / j)) (tVar 0) (tC (.int 7))) (tVar 3)))) (tAsg (tOp (rI0 fun i j => .int (i + j)) (tVar 8) (tVar 5)) (gName 8)) tNext)
      (tAsg (tOp (G.rCatS) (tVar 6) (tOp (rIxS) (tVar 2) (tOp (rI (fun _ j => 0 < j) fun i j => .int (i % j)) (tOp (rI0 fun i j => .int (i + j)) (tVar 1) (tVar 8)) (tC (.int 26))))) (gName 6)))))
      (tSeq (tIfS (tTest (tOp (rEq) (tOp (rI (fun _ j => 0 < j) fun i j => .int (i % j)) (tOp (rI CDiv fun i j => .int (i / j)) (tVar 0) (tC (.int 91))) (tC (.int 3))) (tC (.int 1)))) (tAsg (tOp (G.rRepS) (tOp (rIxS) (tVar 2) (tOp (rI (fun _ j => 0 < j) fun i j => .int (i % j)) (tVar 1) (tC (.int 26)))) (tOp (rI0 fun i j => .int (i + j)) (tC (.int 1)) (tOp (rI (fun _ j => 0 < j) fun i j => .int (i % j)) (tOp (rI0 fun i j => .int (i + j)) (tVar 5) (tOp (rI CDiv fun i j => .int (i / j)) (tVar 1) (tC (.int 26)))) (tC (.int 12))))) (gName 6)) tNext)
      (tDrop (tBM K "list" rAppend (tVar 4) (tCons (tTup (tCons (tCall sp__law_safe [] E0 (tCons (tVar 6) tNil)) (tCons (tOp (rI0 fun i j => .int (i + j)) (tC (.int 3)) (tOp (rI (fun _ j => 0 < j) fun i j => .int (i % j)) (tOp (rI0 fun i j => .int (i + j)) (tOp (rI CDiv fun i j => .int (i / j)) (tVar 1) (tC (.int 7))) (tOp (rI G.CMulB fun i j => .int (i * j)) (tOp (rI G.CMulB fun i j => .int (i * j)) (tVar 5) (tVar 5)) (tC (.int 2)))) (tC (.int 7)))) tNil))) tNil)))))))
      (tSeq (tIfS ((tAnd (tTest (tOp (rEq) (tOp (rI (fun _ j => 0 < j) fun i j => .int (i % j)) (tOp (rI CDiv fun i j => .int (i / j)) (tVar 0) (tC (.int 273))) (tC (.int 4))) (tC (.int 1)))) (tTest (tOp (rIn K true) (tC (.str "sweeper")) (G.tLC2 K (iList K (tVar 4)) [] G.tTrue (tVar 0)))))) (tAsg (tTup (tCons (tC (.str "sweeper")) (tCons (tOp (rIxT K) (tOp (rIxL K) (tVar 4) (tC (.int 0))) (tC (.int 1))) tNil))) (gSub (tVar 4) (tC (.int 0)) rSetL)) tNext)
      (tRet (tVar 4)))))))
def rd__law_kind_by (K : PySem.W.Frag) : TS :=
  (tSeq (tAsg (tOp (rIxL K) (tLst (tCons (tC (.str "first")) (tCons (tC (.str "each")) (tCons (tC (.str "last")) tNil)))) (tOp (rI (fun _ j => 0 < j) fun i j => .int (i % j)) (tVar 0) (tC (.int 3)))) (gName 1))
      (tSeq (tIfS (tTest (tOp (rEq) (tOp (rI (fun _ j => 0 < j) fun i j => .int (i % j)) (tOp (rI CDiv fun i j => .int (i / j)) (tVar 0) (tC (.int 3))) (tC (.int 2))) (tC (.int 1)))) (tAsg (tOp (G.rCatS) (tVar 1) (tC (.str " old"))) (gName 1)) tNext)
      (tSeq (tIfS (tTest (tOp (rEq) (tOp (rI (fun _ j => 0 < j) fun i j => .int (i % j)) (tOp (rI CDiv fun i j => .int (i / j)) (tVar 0) (tC (.int 6))) (tC (.int 2))) (tC (.int 1)))) (tAsg (tOp (G.rCatS) (tVar 1) (tC (.str " new"))) (gName 1)) tNext)
      (tRet (tVar 1)))))
def rd__law_word_by  : TS :=
  (tSeq (tAsg (tC (.str "abcdefghijklmnopqrstuvwxyz")) (gName 2))
      (tSeq (tAsg (tC (.str "")) (gName 3))
      (tSeq (tFor (iRng1 (tCons (tOp (rI0 fun i j => .int (i + j)) (tC (.int 1)) (tOp (rI (fun _ j => 0 < j) fun i j => .int (i % j)) (tVar 1) (tC (.int 12)))) tNil)) (gName 4)
      (tAsg (tOp (G.rCatS) (tVar 3) (tOp (rIxS) (tVar 2) (tOp (rI (fun _ j => 0 < j) fun i j => .int (i % j)) (tOp (rI0 fun i j => .int (i + j)) (tVar 0) (tOp (rI G.CMulB fun i j => .int (i * j)) (tOp (rI G.CMulB fun i j => .int (i * j)) (tVar 4) (tVar 4)) (tOp (rI (fun _ j => 0 < j) fun i j => .int (i % j)) (tOp (rI CDiv fun i j => .int (i / j)) (tVar 1) (tC (.int 12))) (tC (.int 26))))) (tC (.int 26))))) (gName 3)))
      (tRet (tVar 3)))))
def rd__law_large  : TS :=
  (tSeq (tIfS (tTest (tOp (rEq) (tOp (rI (fun _ j => 0 < j) fun i j => .int (i % j)) (tOp (rI CDiv fun i j => .int (i / j)) (tVar 1) (tC (.int 605))) (tC (.int 3))) (tC (.int 1)))) (tRet (tOp (rI (fun _ j => 0 < j) fun i j => .int (i % j)) (tOp (rI PySem.IntMulOk fun i j => .int (i * j)) (tOp (rI0 fun i j => .int (i + j)) (tVar 0) (tC (.int 3))) (tC (.int 31415926535897932384626433832795028841971693993751))) (tOp (rI0 fun i j => .int (i + j)) (tVar 2) (tC (.int 1))))) tNext)
      (tRet (tOp (rI (fun _ j => 0 < j) fun i j => .int (i % j)) (tVar 0) (tOp (rI0 fun i j => .int (i + j)) (tVar 2) (tC (.int 1))))))
def rd__law_row_by (K : PySem.W.Frag) (sp__law_large sp__law_word_by : Sp) : TS :=
  (tSeq (tAsg (tOp (rI (fun _ j => 0 < j) fun i j => .int (i % j)) (tOp (rI G.CMulB fun i j => .int (i * j)) (tOp (rI0 fun i j => .int (i + j)) (tOp (rI0 fun i j => .int (i + j)) (tVar 0) (tOp (rI G.CMulB fun i j => .int (i * j)) (tOp (rI G.CMulB fun i j => .int (i * j)) (tC (.int 17)) (tVar 1)) (tVar 1))) (tC (.int 29))) (tC (.int 48271))) (tC (.int 7919))) (gName 3))
      (tSeq (tAsg (tOp (rI (fun _ j => 0 < j) fun i j => .int (i % j)) (tOp (rI G.CMulB fun i j => .int (i * j)) (tOp (rI0 fun i j => .int (i + j)) (tOp (rI0 fun i j => .int (i + j)) (tVar 0) (tOp (rI G.CMulB fun i j => .int (i * j)) (tC (.int 31)) (tVar 1))) (tC (.int 7))) (tC (.int 16807))) (tC (.int 6133))) (gName 4))
      (tSeq (tAsg (tOp (rI (fun _ j => 0 < j) fun i j => .int (i % j)) (tOp (rI CDiv fun i j => .int (i / j)) (tVar 3) (tC (.int 11))) (tCB (G.cLenL K) (tCons (tVar 2) tNil))) (gName 5))
      (tSeq (tAsg (tOp (rI (fun _ j => 0 < j) fun i j => .int (i % j)) (tVar 4) (tCB (G.cLenL K) (tCons (tVar 2) tNil))) (gName 6))
      (tSeq (tAsg (tOp (rI (fun _ j => 0 < j) fun i j => .int (i % j)) (tOp (rI CDiv fun i j => .int (i / j)) (tVar 4) (tC (.int 5))) (tOp (rIxT K) (tOp (rIxL K) (tVar 2) (tVar 5)) (tC (.int 1)))) (gName 7))
      (tSeq (tAsg (tOp (rI (fun _ j => 0 < j) fun i j => .int (i % j)) (tOp (rI CDiv fun i j => .int (i / j)) (tVar 3) (tC (.int 55))) (tOp (rIxT K) (tOp (rIxL K) (tVar 2) (tVar 5)) (tC (.int 1)))) (gName 8))
      (tSeq (tAsg (tCall sp__law_large [] E0 (tCons (tVar 0) (tCons (tVar 3) (tCons (tOp (rIxL K) (tLst (tCons (tC (.int 8)) (tCons (tC (.int 999)) tNil))) (tOp (rI (fun _ j => 0 < j) fun i j => .int (i % j)) (tVar 4) (tC (.int 2)))) tNil)))) (gName 9))
      (tSeq (tAsg (tCall sp__law_large [] E0 (tCons (tVar 0) (tCons (tVar 3) (tCons (tOp (rI0 fun i j => .int (i - j)) (tOp (rI CPow fun i j => .int (i ^ j.toNat)) (tC (.int 10)) (tC (.int 60))) (tC (.int 1))) tNil)))) (gName 10))
      (tSeq (tIfS (tTest (tOp (rEq) (tOp (rI (fun _ j => 0 < j) fun i j => .int (i % j)) (tOp (rI CDiv fun i j => .int (i / j)) (tVar 4) (tC (.int 2))) (tC (.int 2))) (tC (.int 1)))) (tAsg (tOp (rI0 fun i j => .int (i - j)) (tC (.int 0)) (tVar 10)) (gName 10)) tNext)
      (tSeq (tAsg (tCall sp__law_word_by [] E0 (tCons (tVar 0) (tCons (tVar 4) tNil))) (gName 11))
      (tSeq (tIfS (tTest (tOp (rEq) (tOp (rI (fun _ j => 0 < j) fun i j => .int (i % j)) (tOp (rI CDiv fun i j => .int (i / j)) (tVar 4) (tC (.int 3))) (tC (.int 5))) (tC (.int 1)))) (tAsg (tC (.str "sweep")) (gName 11)) tNext)
      (tRet (tOp (rIxL K) (tLst (tCons (tTup (tCons (tC (.str "make")) (tCons (tVar 5) (tCons (tVar 7) (tCons (tOp (rI (fun _ j => 0 < j) fun i j => .int (i % j)) (tOp (rI CDiv fun i j => .int (i / j)) (tVar 4) (tC (.int 45))) (tC (.int 9))) (tCons (tCall sp__law_large [] E0 (tCons (tVar 0) (tCons (tVar 3) (tCons (tOp (rI CPow fun i j => .int (i ^ j.toNat)) (tC (.int 10)) (tC (.int 12))) tNil)))) tNil)))))) (tCons (tTup (tCons (tC (.str "get")) (tCons (tVar 5) (tCons (tVar 7) (tCons (tVar 8) (tCons (tVar 9) tNil)))))) (tCons (tTup (tCons (tC (.str "put")) (tCons (tVar 5) (tCons (tVar 8) (tCons (tVar 9) (tCons (tVar 7) tNil)))))) (tCons (tTup (tCons (tC (.str "copy")) (tCons (tVar 5) (tCons (tVar 7) (tCons (tVar 8) tNil))))) (tCons (tTup (tCons (tC (.str "drop")) (tCons (tVar 5) (tCons (tVar 7) tNil)))) (tCons (tTup (tCons (tC (.str "give")) (tCons (tVar 5) (tCons (tVar 7) (tCons (tVar 6) (tCons (tOp (rI (fun _ j => 0 < j) fun i j => .int (i % j)) (tOp (rI CDiv fun i j => .int (i / j)) (tVar 3) (tC (.int 55))) (tOp (rIxT K) (tOp (rIxL K) (tVar 2) (tVar 6)) (tC (.int 1)))) tNil)))))) (tCons (tTup (tCons (tC (.str "write")) (tCons (tVar 5) (tCons (tVar 8) (tCons (tVar 10) tNil))))) (tCons (tTup (tCons (tC (.str "read")) (tCons (tVar 5) (tCons (tVar 8) tNil)))) (tCons (tTup (tCons (tC (.str "name")) (tCons (tVar 5) (tCons (tVar 8) (tCons (tVar 11) tNil))))) (tCons (tTup (tCons (tC (.str "seek")) (tCons (tVar 5) (tCons (tVar 7) (tCons (tVar 11) tNil))))) (tCons (tTup (tCons (tC (.str "sweep")) (tCons (tOp (rI0 fun i j => .int (i + j)) (tC (.int 1)) (tCall sp__law_large [] E0 (tCons (tVar 0) (tCons (tVar 3) (tCons (tC (.int 9998)) tNil))))) tNil))) tNil)))))))))))) (tOp (rI (fun _ j => 0 < j) fun i j => .int (i % j)) (tVar 3) (tC (.int 11))))))))))))))))
def rd__law_text_of (K : PySem.W.Frag) : TS :=
  (tSeq (tIfS (tTest (tOp (rEq) (tOp (rIxT K) (tVar 0) (tC (.int 0))) (tC (.str "sweep")))) (tRet (tOp (G.rCatS) (tC (.str "sweep ")) (tCB (G.cStrI) (tCons (tOp (rIxT K) (tVar 0) (tC (.int 1))) tNil)))) tNext)
      (tSeq (tAsg (tOp (G.rCatS) (tOp (G.rCatS) (tOp (rIxT K) (tOp (rIxL K) (tVar 1) (tOp (rIxT K) (tVar 0) (tC (.int 1)))) (tC (.int 0))) (tC (.str " "))) (tOp (rIxT K) (tVar 0) (tC (.int 0)))) (gName 2))
      (tSeq (tFor (iRng2 (tCons (tC (.int 2)) (tCons (tCB (G.cLenL K) (tCons (tVar 0) tNil)) tNil))) (gName 3)
      (tSeq (tAsg (tCB (G.cStrV) (tCons (tOp (rIxT K) (tVar 0) (tVar 3)) tNil)) (gName 4))
      (tSeq (tIfS ((tAnd (tTest (tOp (rEq) (tOp (rIxT K) (tVar 0) (tC (.int 0))) (tC (.str "give")))) (tTest (tOp (rEq) (tVar 3) (tC (.int 3)))))) (tAsg (tOp (rIxT K) (tOp (rIxL K) (tVar 1) (tOp (rIxT K) (tVar 0) (tC (.int 3)))) (tC (.int 0))) (gName 4)) tNext)
      (tAsg (tOp (G.rCatS) (tOp (G.rCatS) (tVar 2) (tC (.str " "))) (tVar 4)) (gName 2)))))
      (tRet (tVar 2)))))
def rd__law_same_row (K : PySem.W.Frag) (sp__law_whole : Sp) : TS :=
  (tSeq (tIfS ((tOr (tNot (tB (tCB (G.cIsi) (tCons (tVar 0) (tCons (tC (.ty "tuple")) tNil))))) (tTest (tOp (rNe) (tCB (G.cLenL K) (tCons (tVar 0) tNil)) (tCB (G.cLenL K) (tCons (tVar 1) tNil)))))) (tRet (tC (.bl false))) tNext)
      (tSeq (tFor (G.iZip2 K true true (tCons (tVar 0) (tCons (tVar 1) tNil))) (gTup K 2 (gCons (gName 2) (gCons (gName 3) gNil)))
      (tSeq (tIfS ((tAnd (tB (tCB (G.cIsi) (tCons (tVar 3) (tCons (tC (.ty "str")) tNil)))) (tNot (tB (tCB (G.cIsi) (tCons (tVar 2) (tCons (tC (.ty "str")) tNil))))))) (tRet (tC (.bl false))) tNext)
      (tSeq (tIfS ((tAnd (tNot (tB (tCB (G.cIsi) (tCons (tVar 3) (tCons (tC (.ty "str")) tNil))))) (tNot (tB (tCall sp__law_whole [] E0 (tCons (tVar 2) tNil)))))) (tRet (tC (.bl false))) tNext)
      (tIfS (tTest (tOp (rNe) (tVar 2) (tVar 3))) (tRet (tC (.bl false))) tNext))))
      (tRet (tC (.bl true)))))
def rd__law_same_rows (K : PySem.W.Frag) (sp__law_same_row : Sp) : TS :=
  (tSeq (tIfS ((tOr (tNot (tB (tCB (G.cIsi) (tCons (tVar 0) (tCons (tC (.ty "list")) tNil))))) (tTest (tOp (rNe) (tCB (G.cLenL K) (tCons (tVar 0) tNil)) (tCB (G.cLenL K) (tCons (tVar 1) tNil)))))) (tRet (tC (.bl false))) tNext)
      (tSeq (tFor (G.iZip K (tCons (tVar 0) (tCons (tVar 1) tNil))) (gTup K 2 (gCons (gName 2) (gCons (gName 3) gNil)))
      (tIfS (tNot (tB (tCall sp__law_same_row [] E0 (tCons (tVar 2) (tCons (tVar 3) tNil))))) (tRet (tC (.bl false))) tNext))
      (tRet (tC (.bl true)))))
def rd__law_same_scene (K : PySem.W.Frag) (C_Kind : Addr) (sp_Kind_words sp__law_same_rows sp__law_whole : Sp) : TS :=
  (tSeq (tIfS ((tOr (tNot (tB (tCall sp__law_whole [] E0 (tCons (tFld K (tVar 0) "room") tNil)))) (tOr (tTest (tOp (rNe) (tFld K (tVar 0) "room") (tVar 1))) (tTest (tOp (rNe) (tMeth C_Kind "words" sp_Kind_words [] E0 (tFld K (tVar 0) "kind") tNil) (tVar 2)))))) (tRet (tC (.bl false))) tNext)
      (tRet ((tAndV (tCall sp__law_same_rows [] E0 (tCons (tFld K (tVar 0) "hands") (tCons (tVar 3) tNil))) (tCall sp__law_same_rows [] E0 (tCons (tFld K (tVar 0) "rows") (tCons (tVar 4) tNil)))))))
def rd_law (K : PySem.W.Frag) (C_Scene : Addr) (sp_Scene___init__ sp__law_cell_at sp__law_hands_by sp__law_kind_by sp__law_row_by sp__law_same_scene sp__law_text_of sp_kind_of sp_read sp_written : Sp) : TS :=
  (tSeq (tAsg (tOp (rI (fun _ j => 0 < j) fun i j => .int (i % j)) (tOp (rI G.CMulB fun i j => .int (i * j)) (tOp (rI0 fun i j => .int (i + j)) (tCall sp__law_cell_at [] E0 (tCons (tVar 0) (tCons (tC (.int 0)) tNil))) (tC (.int 13))) (tC (.int 48271))) (tC (.int 7919))) (gName 1))
      (tSeq (tAsg (tCall sp__law_hands_by [] E0 (tCons (tVar 1) (tCons (tCall sp__law_cell_at [] E0 (tCons (tVar 0) (tCons (tC (.int 1)) tNil))) tNil))) (gName 2))
      (tSeq (tAsg (tOp (rI0 fun i j => .int (i + j)) (tC (.int 4)) (tOp (rI (fun _ j => 0 < j) fun i j => .int (i % j)) (tCall sp__law_cell_at [] E0 (tCons (tVar 0) (tCons (tC (.int 2)) tNil))) (tOp (rI0 fun i j => .int (i - j)) (tOp (rI CPow fun i j => .int (i ^ j.toNat)) (tC (.int 10)) (tC (.int 15))) (tC (.int 3))))) (gName 3))
      (tSeq (tAsg (tCall sp__law_kind_by [] E0 (tCons (tCall sp__law_cell_at [] E0 (tCons (tVar 0) (tCons (tC (.int 3)) tNil))) tNil)) (gName 4))
      (tSeq (tAsg (G.tLC2 K (G.iEnum K (tCons (tSl (rSlL K) (tVar 0) (tPart (tC (.int 4))) (tPart (tC (.int 64)))) tNil)) [2] G.tTrue (tCall sp__law_row_by [] E0 (tCons (tVar 1) (tCons (tVar 0) (tCons (tVar 2) tNil))))) (gName 5))
      (tSeq (tAsg (tLst (tCons (tOp (G.rCatS) (tC (.str "room ")) (tCB (G.cStrI) (tCons (tVar 3) tNil))) (tCons (tOp (G.rCatS) (tC (.str "kind ")) (tVar 4)) tNil))) (gName 6))
      (tSeq (tFor (iList K (tVar 2)) (gTup K 2 (gCons (gName 7) (gCons (gName 8) gNil)))
      (tDrop (tBM K "list" rAppend (tVar 6) (tCons (tOp (G.rCatS) (tOp (G.rCatS) (tOp (G.rCatS) (tC (.str "hand ")) (tVar 7)) (tC (.str " "))) (tCB (G.cStrI) (tCons (tVar 8) tNil))) tNil))))
      (tSeq (tDrop (tBM K "list" rAppend (tVar 6) (tCons (tC (.str "weave")) tNil)))
      (tSeq (tFor (iList K (tVar 5)) (gName 9)
      (tDrop (tBM K "list" rAppend (tVar 6) (tCons (tCall sp__law_text_of [] E0 (tCons (tVar 9) (tCons (tVar 2) tNil))) tNil))))
      (tSeq (tAsg (tBM K "str" (G.r_join K) (tC (.str "\n")) (tCons (tVar 6) tNil)) (gName 10))
      (tSeq (tAsg (tMake C_Scene sp_Scene___init__ [] E0 (tCons (tVar 3) (tCons (tCall sp_kind_of [] E0 (tCons (tVar 4) tNil)) (tCons (tCB (G.cListL K) (tCons (tVar 2) tNil)) (tCons (tCB (G.cListL K) (tCons (tVar 5) tNil)) tNil))))) (gName 11))
      (tSeq (tAsg (tCall sp_written [] E0 (tCons (tVar 11) tNil)) (gName 12))
      (tSeq (tIfS ((tOr (tNot (tB (tCB (G.cIsi) (tCons (tVar 12) (tCons (tC (.ty "str")) tNil))))) (tOr (tTest (tOp (rNe) (tVar 12) (tVar 10))) (tNot (tB (tCall sp__law_same_scene [] E0 (tCons (tVar 11) (tCons (tVar 3) (tCons (tVar 4) (tCons (tVar 2) (tCons (tVar 5) tNil))))))))))) (tRet (tC (.bl false))) tNext)
      (tSeq (tAsg (tCall sp_read [] E0 (tCons (tVar 12) tNil)) (gName 13))
      (tRet ((tAndV (tCall sp__law_same_scene [] E0 (tCons (tVar 13) (tCons (tVar 3) (tCons (tVar 4) (tCons (tVar 2) (tCons (tVar 5) tNil)))))) (tOp (rEq) (tCall sp_written [] E0 (tCons (tVar 13) tNil)) (tVar 10)))))))))))))))))))
def wordB (t signs : Str) (most : Int) : Bool := decide (1 ≤ (t.length : Int)) && (decide ((t.length : Int) ≤ most) && t.cps.toList.all fun c => decide (c ∈ signs.cps.toList))
def sp_made : Sp := fun vs H Q _ => ∃ t signs most, vs = [.str t, .str signs, .int most] ∧ t.length ≤ 100000 ∧ ∀ H', Same H H' → Q (.bl (wordB t signs most)) H'
section
variable {K : PySem.W.Frag} {H : Hp} {Q : VK} {n : St → Hp → Prop} {bk ct : St → Hp → Prop}
theorem maderd {t signs : Str} {most : Int} (hl : t.length ≤ 100000) (h : ∀ H', Same H H' → Q (.bl (wordB t signs most)) H') : rd_made_of K ⟨n, Q, bk, ct⟩ [some (.str t), some (.str signs), some (.int most)] H := by
  unfold rd_made_of
  unfold wordB at h
  walk_at "ev"
  refine i_lenS (len_ok (by omega)) ?_
  walk_at "ev"
  refine ifd (fun h1 => ?_) (fun h1 => ?_)
  · walk_at "ev"
    rw [decide_eq_true h1] at h
    refine ifd (fun h2 => ?_) (fun h2 => ?_)
    · rw [decide_eq_true h2] at h
      walk_at "ev"
      refine i_lcS (z := t) (fun c => .bl (decide (c ∈ signs.cps.toList))) (fun k hk => ?_) (Nat.lt_of_le_of_lt hl (by decide)) (fun c k hk => ?_) fun p hp => ?_
      · walk_at "ev"
        exact hk
      · show tOp rInS (tVar 0) (tVar 1) [some (.str ⟨#[c]⟩), some (.str signs)] H k
        walk_at "ev"
        exact hk
      · walk_at "ev"
        have e : t.cps.toList.map (fun c => V.bl (decide (c ∈ signs.cps.toList))) = (t.cps.toList.map fun c => decide (c ∈ signs.cps.toList)).map V.bl := by rw [List.map_map]; rfl
        rw [e]
        refine i_all (SqL.of upd_same) ?_
        have e2 : ((t.cps.toList.map fun c => decide (c ∈ signs.cps.toList)).all id) = t.cps.toList.all fun c => decide (c ∈ signs.cps.toList) := by rw [List.all_map]; rfl
        rw [e2]
        exact h _ (same_new hp _)
    · rw [decide_eq_false h2] at h
      exact h _ (Same.refl _)
  · rw [decide_eq_false h1] at h
    walk_at "ev"
    exact h _ (Same.refl _)
end
section
variable {K : PySem.W.Frag} {C_First C_Each C_Last C_Kind C_Scene C_FORMS_copy C_FORMS_drop C_FORMS_get C_FORMS_give C_FORMS_make C_FORMS_name C_FORMS_put C_FORMS_read C_FORMS_seek C_FORMS_write : Addr} {H : Hp} {Q : VK} {E : XK} {n : St → Hp → Prop} {bk ct : St → Hp → Prop}
theorem atrd {a : Addr} {ns : List Int} {k : Int} (hS : SqL K H a (List.map V.int ns)) (h0 : 0 ≤ k) (h : ∀ z : Int, Q (.int z) H) : rd__law_cell_at K ⟨n, Q, bk, ct⟩ [some (.ref a), some (.int k)] H := by
  unfold rd__law_cell_at
  walk_at "ev"
  refine i_lenL hS ?_
  walk_at "ev"
  refine ifd (fun h1 => ?_) (fun h1 => ?_)
  · walk_at "ev"
    rw [List.length_map] at h1
    have hk : k.toNat < ns.length := by omega
    have ek : k = ((k.toNat : Nat) : Int) := by omega
    have q : atI (ns.map V.int) ((k.toNat : Nat) : Int) = some (.int ns[k.toNat]) := atI_nat (by rw [List.getElem?_map, List.getElem?_eq_getElem hk] <;> rfl)
    rw [← ek] at q
    exact i_ixL hS q (h _)
  · walk_at "ev"
    exact h _
end
def figs : Str := "0123456789"
def Dig (t : Str) : Prop := ∀ c ∈ t.cps.toList, 48 ≤ c ∧ c ≤ 57
instance (t : Str) : Decidable (Dig t) := inferInstanceAs (Decidable (∀ c ∈ t.cps.toList, 48 ≤ c ∧ c ≤ 57))
def valO (t : Str) : Option Int := if (1 ≤ t.length ∧ t.length ≤ 60 ∧ ¬ (t.cps.toList[0]? = some 48 ∧ 1 < t.length)) ∧ Dig t then some (dval t.cps.toList) else none
def vO : Option Int → V
  | none => .non
  | some v => .int v
def over (v : Int) : V → Bool
  | .int m => decide (m < v)
  | _ => false
def numR (t : Str) (most : V) : Option Int := match valO t with
  | none => none
  | some v => if over v most = true then none else some v
def sp_num : Sp := fun vs H Q _ => ∃ t most, vs = [.str t, most] ∧ t.length ≤ 100000 ∧ (most = .non ∨ ∃ m, most = .int m) ∧ ∀ H', Same H H' → Q (vO (numR t most)) H'
section
variable {K : PySem.W.Frag} {H : Hp} {Q : VK} {n : St → Hp → Prop} {bk ct : St → Hp → Prop}
theorem word_figs {t : Str} : wordB t figs 60 = true ↔ 1 ≤ t.length ∧ t.length ≤ 60 ∧ Dig t := by
  unfold wordB
  rw [Bool.and_eq_true, Bool.and_eq_true, decide_eq_true_eq, decide_eq_true_eq, List.all_eq_true]
  constructor
  · rintro ⟨h1, h2, h3⟩
    exact ⟨by omega, by omega, fun c hc => in_digits.mp (of_decide_eq_true (h3 c hc))⟩
  · rintro ⟨h1, h2, h3⟩
    exact ⟨by omega, by omega, fun c hc => decide_eq_true (in_digits.mpr (h3 c hc))⟩
theorem is_zero {t : Str} : t = ⟨#[48]⟩ ↔ t.cps.toList[0]? = some 48 ∧ t.length = 1 := by
  constructor
  · rintro rfl; exact ⟨rfl, rfl⟩
  · rintro ⟨h1, h2⟩
    obtain ⟨c⟩ := t
    have h3 : c.toList.length = 1 := by rw [Array.length_toList]; exact h2
    have h4 : c.toList = [48] := by
      cases e : c.toList with
      | nil => rw [e] at h3; cases h3
      | cons a l =>
        cases l with
        | nil => have h1' : c.toList[0]? = some 48 := h1; rw [e] at h1'; simp at h1'; rw [h1']
        | cons b l => rw [e] at h3; simp at h3
    have : c = #[48] := by rw [← Array.toArray_toList (xs := c), h4]
    rw [this]
theorem wholerd {i : Int} (h : Q (.bl true) H) : rd__law_whole ⟨n, Q, bk, ct⟩ [some (.int i)] H := by
  unfold rd__law_whole
  walk_at "ev"
  exact h
theorem numrd {t : Str} {most : V} (hl : t.length ≤ 100000) (hm : most = .non ∨ ∃ m, most = .int m) (h : ∀ H', Same H H' → Q (vO (numR t most)) H') : rd_number_of K sp_made ⟨n, Q, bk, ct⟩ [some (.str t), some most, none] H := by
  unfold rd_number_of
  rw [s_zero]
  walk_at "ev"
  refine ⟨t, figs, 60, rfl, hl, fun H1 s1 => ?_⟩
  have h' := h H1 s1
  clear h
  walk_at "ev"
  cases hw : wordB t figs 60 with
  | false =>
    refine i_iteNF ?_
    walk_at "ev"
    have e : numR t most = none := by
      unfold numR valO
      rw [if_neg]
      rintro ⟨⟨h1, h2, _⟩, h3⟩
      rw [word_figs.mpr ⟨h1, h2, h3⟩] at hw
      cases hw
    rw [e] at h'
    exact h'
  | true =>
    obtain ⟨w1, w2, w3⟩ := word_figs.mp hw
    refine i_iteNT ?_
    walk_at "ev"
    have last : ¬ (t.cps.toList[0]? = some 48 ∧ 1 < t.length) → (tSeq (tAsg (tCB cIntS (tCons (tVar 0) tNil)) (gName 2))
      (tSeq (tIfS (tAnd (tTest (tOp rNotN (tVar 1) (tC .non))) (tTest (tOp (rI0 fun i j => .bl (decide (j < i))) (tVar 2) (tVar 1)))) (tRet (tC .non)) tNext) (tRet (tVar 2)))) ⟨n, Q, bk, ct⟩ [some (.str t), some most, none] H1 := fun hz => by
      have ev : valO t = some (dval t.cps.toList) := by
        unfold valO
        rw [if_pos ⟨⟨w1, w2, hz⟩, w3⟩]
      walk_at "ev"
      refine i_intS w1 (by omega) w3 ?_
      walk_at "ev"
      unfold numR at h'
      rw [ev] at h'
      dsimp only at h'
      rcases hm with rfl | ⟨m, rfl⟩
      · walk_at "ev"
        exact h'
      · walk_at "ev"
        refine ifd (fun hgt => ?_) (fun hgt => ?_)
        · walk_at "ev"
          have eo : over (dval t.cps.toList) (.int m) = true := decide_eq_true hgt
          rw [eo] at h'
          exact h'
        · walk_at "ev"
          have eo : over (dval t.cps.toList) (.int m) = false := decide_eq_false hgt
          rw [eo] at h'
          exact h'
    refine ifd (fun z0 => ?_) (fun z0 => ?_)
    · walk_at "ev"
      refine ifnd (fun z1 => ?_) (fun z1 => ?_)
      · walk_at "ev"
        have e : numR t most = none := by
          unfold numR valO
          rw [if_neg]
          rintro ⟨⟨_, _, h3⟩, _⟩
          refine h3 ⟨z0, ?_⟩
          have : ¬ t.length = 1 := fun e => z1 (is_zero.mpr ⟨z0, e⟩)
          omega
        rw [e] at h'
        exact h'
      · exact last fun z => by
          have := (is_zero.mp z1).2
          omega
    · exact last fun z => z0 z.1
end
def loadO (t : Str) : Option Int := if t.cps.toList[0]? = some 45 then (match valO (cutS t (some 1) none) with
  | none => none
  | some v => if v = 0 then none else some (-v)) else valO t
section
variable {K : PySem.W.Frag} {C_First C_Each C_Last C_Kind C_Scene C_FORMS_copy C_FORMS_drop C_FORMS_get C_FORMS_give C_FORMS_make C_FORMS_name C_FORMS_put C_FORMS_read C_FORMS_seek C_FORMS_write : Addr} {H : Hp} {Q : VK} {E : XK} {n : St → Hp → Prop} {bk ct : St → Hp → Prop}
theorem num_non (t : Str) : numR t .non = valO t := by
  unfold numR
  cases valO t <;> rfl
theorem loadrd {t : Str} (hl : t.length ≤ 100000) (h : ∀ H', Same H H' → Q (vO (loadO t)) H') : rd_load_of K sp_num ⟨n, Q, bk, ct⟩ [some (.str t), none] H := by
  unfold rd_load_of
  rw [s_dash]
  walk_at "ev"
  refine ifnd (fun h1 => ?_) (fun h1 => ?_)
  · walk_at "ev"
    refine ⟨t, .non, rfl, hl, .inl rfl, fun H1 s1 => ?_⟩
    have e : loadO t = valO t := by unfold loadO; rw [if_neg h1]
    rw [num_non, ← e]
    exact h _ s1
  · walk_at "ev"
    refine i_slS (len_ok (by omega)) ?_
    walk_at "ev"
    have lc := cutS_length t (some 1) none
    refine ⟨_, .non, rfl, by omega, .inl rfl, fun H1 s1 => ?_⟩
    have h' := h _ s1
    unfold loadO at h'
    rw [if_pos h1] at h'
    rw [num_non]
    cases ev : valO (cutS t (some 1) none) with
    | none =>
      rw [ev] at h'
      dsimp only [vO]
      walk_at "ev"
      exact h'
    | some v =>
      rw [ev] at h'
      dsimp only at h'
      dsimp only [vO]
      walk_at "ev"
      refine ifd (fun z => ?_) (fun z => ?_)
      · walk_at "ev"
        rw [if_pos z] at h'
        exact h'
      · walk_at "ev"
        rw [if_neg z] at h'
        exact h'
end
def wd (w : Int) : Str := if w = 0 then "first" else if w = 1 then "each" else "last"
def tl (t : Int) : Str := if t = 0 then "" else if t = 1 then " old" else if t = 2 then " new" else " old new"
def words (w t : Int) : Str := wd w ++ tl t
theorem wd_len (w : Int) : (wd w).length ≤ 5 := by
  unfold wd
  by_cases h : w = 0
  · rw [if_pos h]; decide
  · rw [if_neg h]
    by_cases h : w = 1
    · rw [if_pos h]; decide
    · rw [if_neg h]; decide
structure KdO (CK CF CE CL : Addr) (H : Hp) (ki lk : Addr) (w t : Int) : Prop where
  ok : ∃ dx, H ki = some (.ins CK dx (kindF lk t))
  ol : ∃ dx, (w = 0 ∧ H lk = some (.ins CF dx [])) ∨ (w = 1 ∧ H lk = some (.ins CE dx [])) ∨ (w = 2 ∧ H lk = some (.ins CL dx []))
def S_kind_of (CK CF CE CL : Addr) : Sp := fun vs H Q E => ∃ z, vs = [.str z] ∧ z.length ≤ 100 ∧ (∀ w t, 0 ≤ w → w < 3 → 0 ≤ t → t < 4 → z = words w t → ∀ ki lk H', Same H H' → KdO CK CF CE CL H' ki lk w t → Q (.ref ki) H') ∧ ((∀ w t, 0 ≤ w → w < 3 → 0 ≤ t → t < 4 → z ≠ words w t) → ∀ H', Same H H' → Q .non H')
def S_tell (v : V) : Sp := fun vs H Q E => ∃ a, vs = [.ref a] ∧ Q v H
def S_words (CK CF CE CL : Addr) : Sp := fun vs H Q E => ∃ ki, vs = [.ref ki] ∧ ∃ lk w t, KdO CK CF CE CL H ki lk w t ∧ 0 ≤ t ∧ t < 4 ∧ ∀ H', Same H H' → Q (.str (words w t)) H'
structure TxS (K : PySem.W.Frag) (C_Kind C_Scene C_FORMS_copy C_FORMS_drop C_FORMS_get C_FORMS_give C_FORMS_make C_FORMS_name C_FORMS_put C_FORMS_read C_FORMS_seek C_FORMS_write : Addr) : Prop where
  f_copy : TupG K C_FORMS_copy [.str "hand", .str "slot", .str "slot"]
  f_drop : TupG K C_FORMS_drop [.str "hand", .str "slot"]
  f_get : TupG K C_FORMS_get [.str "hand", .str "slot", .str "slot", .str "field"]
  f_give : TupG K C_FORMS_give [.str "hand", .str "slot", .str "hand", .str "slot"]
  f_make : TupG K C_FORMS_make [.str "hand", .str "slot", .str "many", .str "bulk"]
  f_name : TupG K C_FORMS_name [.str "hand", .str "slot", .str "word"]
  f_put : TupG K C_FORMS_put [.str "hand", .str "slot", .str "field", .str "slot"]
  f_read : TupG K C_FORMS_read [.str "hand", .str "slot"]
  f_seek : TupG K C_FORMS_seek [.str "hand", .str "slot", .str "word"]
  f_write : TupG K C_FORMS_write [.str "hand", .str "slot", .str "load"]
  cl_Kind : Cls K C_Kind
  n_Kind_looking : NoAttr K C_Kind "looking"
  n_Kind_tells : NoAttr K C_Kind "tells"
  cl_Scene : Cls K C_Scene
  n_room : NoAttr K C_Scene "room"
  n_kind : NoAttr K C_Scene "kind"
  n_hands : NoAttr K C_Scene "hands"
  n_rows : NoAttr K C_Scene "rows"
def S_Kind_init (CK : Addr) : Sp := fun vs H Q E => ∃ p l t, vs = [.ref p, .ref l, .int t] ∧ ∃ dx, H p = some (.ins CK dx []) ∧ ∀ H', H' p = some (.ins CK dx (kindF l t)) → (∀ b o, H b = some o → b ≠ p → H' b = some o) → Q .non H'
section
variable {K : PySem.W.Frag} {C_First C_Each C_Last C_Kind C_Scene C_FORMS_copy C_FORMS_drop C_FORMS_get C_FORMS_give C_FORMS_make C_FORMS_name C_FORMS_put C_FORMS_read C_FORMS_seek C_FORMS_write : Addr} {H : Hp} {Q : VK} {E : XK} {n : St → Hp → Prop} {bk ct : St → Hp → Prop}
theorem First_word_rd {a : Addr} (q : Q (.str "first") H) : rd_First_word ⟨n, Q, bk, ct⟩ [some (.ref a)] H := by
  unfold rd_First_word
  walk_at "ev"
  exact q
theorem Each_word_rd {a : Addr} (q : Q (.str "each") H) : rd_Each_word ⟨n, Q, bk, ct⟩ [some (.ref a)] H := by
  unfold rd_Each_word
  walk_at "ev"
  exact q
theorem Last_word_rd {a : Addr} (q : Q (.str "last") H) : rd_Last_word ⟨n, Q, bk, ct⟩ [some (.ref a)] H := by
  unfold rd_Last_word
  walk_at "ev"
  exact q
theorem Kind___init___rd {p l : Addr} {t : Int} (T : TxS K C_Kind C_Scene C_FORMS_copy C_FORMS_drop C_FORMS_get C_FORMS_give C_FORMS_make C_FORMS_name C_FORMS_put C_FORMS_read C_FORMS_seek C_FORMS_write) (q : ∃ dx, H p = some (.ins C_Kind dx []) ∧ ∀ H', H' p = some (.ins C_Kind dx (kindF l t)) → (∀ b o, H b = some o → b ≠ p → H' b = some o) → Q .non H') :
    rd_Kind___init__ K ⟨fun _ H' => Q .non H', Q, bk, ct⟩ [some (.ref p), some (.ref l), some (.int t)] H := by
  obtain ⟨dx, hp, h⟩ := q
  unfold rd_Kind___init__
  walk_at "ev"
  refine ⟨p, C_Kind, dx, [], rfl, hp, T.cl_Kind, T.n_Kind_looking, by decide, ?_⟩
  walk_at "ev"
  refine ⟨p, C_Kind, dx, _, rfl, upd_same, T.cl_Kind, T.n_Kind_tells, by show 1 < 1000; decide, ?_⟩
  rw [upd_upd]
  refine h _ ?_ fun b o hb nb => ?_
  · rw [upd_same, kindF_mk]
  · rw [upd_ne nb]; exact hb
theorem w0 {w : Int} (hw : w = 0 ∨ w = 1 ∨ w = 2) : words w 0 = wd w := by rcases hw with rfl | rfl | rfl <;> decide +kernel
theorem w3 {w : Int} (hw : w = 0 ∨ w = 1 ∨ w = 2) : words w 3 = (wd w ++ " old") ++ " new" := by rcases hw with rfl | rfl | rfl <;> decide +kernel
theorem w3l {w : Int} (hw : w = 0 ∨ w = 1 ∨ w = 2) : (wd w ++ " old" : Str).length ≤ 20 := by rcases hw with rfl | rfl | rfl <;> decide +kernel
theorem words_go {p lk : Addr} {dx : Addr} {w t : Int} (hw : w = 0 ∨ w = 1 ∨ w = 2) (T : TxS K C_Kind C_Scene C_FORMS_copy C_FORMS_drop C_FORMS_get C_FORMS_give C_FORMS_make C_FORMS_name C_FORMS_put C_FORMS_read C_FORMS_seek C_FORMS_write) (hp : H p = some (.ins C_Kind dx (kindF lk t))) (t0 : 0 ≤ t) (t1 : t < 4) (q : Q (.str (words w t)) H) :
    (tSeq (tIfS (tTest (tOp (rNe) (tOp (rI0 fun i j => .int (Builtin.bitAnd i j)) (tFld K (tVar 0) "tells") (tC (.int 1))) (tC (.int 0)))) (tAsg (tOp (G.rCatS) (tVar 1) (tC (.str " old"))) (gName 1)) tNext)
      (tSeq (tIfS (tTest (tOp (rNe) (tOp (rI0 fun i j => .int (Builtin.bitAnd i j)) (tFld K (tVar 0) "tells") (tC (.int 2))) (tC (.int 0)))) (tAsg (tOp (G.rCatS) (tVar 1) (tC (.str " new"))) (gName 1)) tNext)
      (tRet (tVar 1)))) ⟨n, Q, bk, ct⟩ [some (.ref p), some (.str (wd w))] H := by
  have lw := wd_len w
  have ht : t = 0 ∨ t = 1 ∨ t = 2 ∨ t = 3 := by omega
  walk_at "ev"
  refine i_fldK hp T.cl_Kind T.n_Kind_tells kindF_lk_tells ?_
  walk_at "ev"
  rcases ht with rfl | rfl | rfl | rfl
  · refine ifnd (fun z => absurd (by decide) z) (fun _ => ?_)
    walk_at "ev"
    refine i_fldK hp T.cl_Kind T.n_Kind_tells kindF_lk_tells ?_
    walk_at "ev"
    refine ifnd (fun z => absurd (by decide) z) (fun _ => ?_)
    walk_at "ev"
    rw [w0 hw] at q
    exact q
  · refine ifnd (fun _ => ?_) (fun z => absurd z (by decide))
    walk_at "ev"
    refine i_catS (len_ok (by have : (" old" : Str).length = 4 := rfl; omega)) ?_
    walk_at "ev"
    refine i_fldK hp T.cl_Kind T.n_Kind_tells kindF_lk_tells ?_
    walk_at "ev"
    refine ifnd (fun z => absurd (by decide) z) (fun _ => ?_)
    walk_at "ev"
    exact q
  · refine ifnd (fun z => absurd (by decide) z) (fun _ => ?_)
    walk_at "ev"
    refine i_fldK hp T.cl_Kind T.n_Kind_tells kindF_lk_tells ?_
    walk_at "ev"
    refine ifnd (fun _ => ?_) (fun z => absurd z (by decide))
    walk_at "ev"
    refine i_catS (len_ok (by have : (" new" : Str).length = 4 := rfl; omega)) ?_
    walk_at "ev"
    exact q
  · refine ifnd (fun _ => ?_) (fun z => absurd z (by decide))
    walk_at "ev"
    refine i_catS (len_ok (by have : (" old" : Str).length = 4 := rfl; omega)) ?_
    walk_at "ev"
    refine i_fldK hp T.cl_Kind T.n_Kind_tells kindF_lk_tells ?_
    walk_at "ev"
    refine ifnd (fun _ => ?_) (fun z => absurd z (by decide))
    walk_at "ev"
    refine i_catS (len_ok (by have : (" new" : Str).length = 4 := rfl; have := w3l hw; omega)) ?_
    walk_at "ev"
    rw [w3 hw] at q
    exact q
theorem Kind_words_rd {p : Addr} (T : TxS K C_Kind C_Scene C_FORMS_copy C_FORMS_drop C_FORMS_get C_FORMS_give C_FORMS_make C_FORMS_name C_FORMS_put C_FORMS_read C_FORMS_seek C_FORMS_write) (q : ∃ lk w t, KdO C_Kind C_First C_Each C_Last H p lk w t ∧ 0 ≤ t ∧ t < 4 ∧ ∀ H', Same H H' → Q (.str (words w t)) H') :
    rd_Kind_words K C_Each C_First C_Last (S_tell (.str "each")) (S_tell (.str "first")) (S_tell (.str "last")) ⟨n, Q, bk, ct⟩ [some (.ref p), none] H := by
  obtain ⟨lk, w, t, ⟨⟨dx, hp⟩, ⟨dl, ol⟩⟩, t0, t1, h⟩ := q
  have h := h H (Same.refl _)
  unfold rd_Kind_words
  refine i_seq ?_
  walk_at "es"
  rcases ol with ⟨rfl, o⟩ | ⟨rfl, o⟩ | ⟨rfl, o⟩
  · refine i_orL ?_
    walk_at "ev"
    refine i_fldK hp T.cl_Kind T.n_Kind_looking kindF_lk_looking ?_
    walk_at "es"
    refine ⟨lk, dl, _, rfl, o, rfl, ?_⟩
    walk_at "es"
    refine ⟨lk, rfl, ?_⟩
    walk_at "es"
    exact words_go (w := 0) (by decide) T hp t0 t1 h
  · refine i_orR (i_orL ?_)
    walk_at "ev"
    refine i_fldK hp T.cl_Kind T.n_Kind_looking kindF_lk_looking ?_
    walk_at "es"
    refine ⟨lk, dl, _, rfl, o, rfl, ?_⟩
    walk_at "es"
    refine ⟨lk, rfl, ?_⟩
    walk_at "es"
    exact words_go (w := 1) (by decide) T hp t0 t1 h
  · refine i_orR (i_orR ?_)
    walk_at "ev"
    refine i_fldK hp T.cl_Kind T.n_Kind_looking kindF_lk_looking ?_
    walk_at "es"
    refine ⟨lk, dl, _, rfl, o, rfl, ?_⟩
    walk_at "es"
    refine ⟨lk, rfl, ?_⟩
    walk_at "es"
    exact words_go (w := 2) (by decide) T hp t0 t1 h
theorem kind_of_rd {z : Str} (T : TxS K C_Kind C_Scene C_FORMS_copy C_FORMS_drop C_FORMS_get C_FORMS_give C_FORMS_make C_FORMS_name C_FORMS_put C_FORMS_read C_FORMS_seek C_FORMS_write) (q : z.length ≤ 100 ∧ (∀ w t, 0 ≤ w → w < 3 → 0 ≤ t → t < 4 → z = words w t → ∀ ki lk H', Same H H' → KdO C_Kind C_First C_Each C_Last H' ki lk w t → Q (.ref ki) H') ∧ ((∀ w t, 0 ≤ w → w < 3 → 0 ≤ t → t < 4 → z ≠ words w t) → ∀ H', Same H H' → Q .non H')) :
    rd_kind_of K C_Each C_First C_Kind C_Last (S_Kind_init C_Kind) (S_words C_Kind C_First C_Each C_Last) ⟨n, Q, bk, ct⟩ [some (.str z), none, none, none] H := by
  obtain ⟨hz, h1, h2⟩ := q
  unfold rd_kind_of
  walk_at "ev"
  intro af df n1 m1 e1
  have s1 : Same H (upd (upd H df (.own af)) af (.ins C_First df [])) := fun b o hb => by rw [upd_ne (ne_of_none hb n1), upd_ne (ne_of_none hb m1)]; exact hb
  have o1 : upd (upd H df (.own af)) af (.ins C_First df []) af = some (.ins C_First df []) := upd_same
  generalize upd (upd H df (.own af)) af (.ins C_First df []) = H1 at s1 o1 ⊢
  walk_at "ev"
  intro ae de n2 m2 e2
  have s2 : Same H1 (upd (upd H1 de (.own ae)) ae (.ins C_Each de [])) := fun b o hb => by rw [upd_ne (ne_of_none hb n2), upd_ne (ne_of_none hb m2)]; exact hb
  have o2 : upd (upd H1 de (.own ae)) ae (.ins C_Each de []) ae = some (.ins C_Each de []) := upd_same
  generalize upd (upd H1 de (.own ae)) ae (.ins C_Each de []) = H2 at s2 o2 ⊢
  walk_at "ev"
  intro al dl n3 m3 e3
  have s3 : Same H2 (upd (upd H2 dl (.own al)) al (.ins C_Last dl [])) := fun b o hb => by rw [upd_ne (ne_of_none hb n3), upd_ne (ne_of_none hb m3)]; exact hb
  have o3 : upd (upd H2 dl (.own al)) al (.ins C_Last dl []) al = some (.ins C_Last dl []) := upd_same
  generalize upd (upd H2 dl (.own al)) al (.ins C_Last dl []) = H3 at s3 o3 ⊢
  walk_at "ev"
  refine ⟨len_ok (by simp), fun lp hlp => ?_⟩
  have s4 := same_new hlp (.lst [.ref af, .ref ae, .ref al])
  have g4 : upd H3 lp (.lst [.ref af, .ref ae, .ref al]) lp = some (.lst [.ref af, .ref ae, .ref al]) := upd_same
  generalize upd H3 lp (.lst [.ref af, .ref ae, .ref al]) = H4 at s4 g4 ⊢
  have of4 := s4 _ _ (s3 _ _ (s2 _ _ o1))
  have oe4 := s4 _ _ (s3 _ _ o2)
  have ol4 := s4 _ _ o3
  have s04 := s1.trans (s2.trans (s3.trans s4))
  have lko : ∀ {i : Nat} {x : V}, ([.ref af, .ref ae, .ref al] : List V)[i]? = some x → i < 3 ∧ ∃ lk, x = .ref lk ∧ ∃ dx, ((i : Int) = 0 ∧ H4 lk = some (.ins C_First dx [])) ∨ ((i : Int) = 1 ∧ H4 lk = some (.ins C_Each dx [])) ∨ ((i : Int) = 2 ∧ H4 lk = some (.ins C_Last dx [])) := by
    intro i x hx
    match i, hx with
    | 0, hx => cases hx; exact ⟨by omega, af, rfl, df, .inl ⟨rfl, of4⟩⟩
    | 1, hx => cases hx; exact ⟨by omega, ae, rfl, de, .inr (.inl ⟨rfl, oe4⟩)⟩
    | 2, hx => cases hx; exact ⟨by omega, al, rfl, dl, .inr (.inr ⟨rfl, ol4⟩)⟩
    | k + 3, hx => cases hx
  clear s1 s2 s3 s4 of4 oe4 ol4
  refine ⟨lp, rfl, ⟨_, SqL.of g4⟩, forL [.ref af, .ref ae, .ref al] (fun i σ Hx => ∃ v1 v2 v3, σ = [some (.str z), v1, v2, v3] ∧ Same H4 Hx ∧ ∀ (w : Nat) (t : Int), w < i → 0 ≤ t → t < 4 → z ≠ words w t) ⟨_, _, _, rfl, Same.refl _, fun w t hw => absurd hw (Nat.not_lt_zero _)⟩ (fun _ _ _ _ ⟨_, _, _, _, s, _⟩ => SqL.of (s _ _ g4)) ?_ ?_⟩
  · rintro i x σ H5 hi ⟨v1, v2, v3, rfl, s5, hn⟩
    obtain ⟨hi3, lk, rfl, dlk, ol⟩ := lko hi
    walk_at "ev"
    refine ⟨4, rfl, by omega, by omega, ?_⟩
    refine forR (fun k σ Hx => ∃ v2 v3, σ = [some (.str z), some (.ref lk), v2, v3] ∧ Same H4 Hx ∧ ∀ (t : Int), 0 ≤ t → t < k → z ≠ words i t) ⟨_, _, rfl, s5, fun t h0 h1 => absurd h1 (by omega)⟩ ?_ ?_
    · rintro k σ H6 hk ⟨v2, v3, rfl, s6, hn2⟩
      have hk4 : k < 4 := hk
      have e0 : (0 : Int) + (k : Int) = k := by omega
      rw [e0]
      walk_at "ev"
      intro p dx np ndx ned
      refine ⟨p, lk, k, rfl, dx, upd_same, fun H7 k1 k2 => ⟨rfl, ?_⟩⟩
      have s7 : Same H6 H7 := fun b o hb => by
        refine k2 b o ?_ (ne_of_none hb np)
        rw [upd_ne (ne_of_none hb np), upd_ne (ne_of_none hb ndx)]
        exact hb
      have kd : KdO C_Kind C_First C_Each C_Last H7 p lk i k := ⟨⟨dx, k1⟩, ⟨dlk, by
        rcases ol with ⟨e, o⟩ | ⟨e, o⟩ | ⟨e, o⟩
        · exact .inl ⟨e, s7 _ _ (s6 _ _ o)⟩
        · exact .inr (.inl ⟨e, s7 _ _ (s6 _ _ o)⟩)
        · exact .inr (.inr ⟨e, s7 _ _ (s6 _ _ o)⟩)⟩⟩
      walk_at "ev"
      refine ⟨p, dx, _, rfl, k1, kindF_no_words, ?_⟩
      walk_at "ev"
      refine ⟨p, rfl, lk, i, k, kd, by omega, by omega, fun H8 s8 => ?_⟩
      walk_at "ev"
      refine ifd (fun e => ?_) (fun e => ?_)
      · walk_at "ev"
        refine h1 i k (by omega) (by omega) (by omega) (by omega) e.symm p lk _ (s04.trans (s6.trans (s7.trans s8))) ⟨⟨dx, s8 _ _ k1⟩, ?_⟩
        obtain ⟨_, ⟨d, od⟩⟩ := kd
        refine ⟨d, ?_⟩
        rcases od with ⟨e, o⟩ | ⟨e, o⟩ | ⟨e, o⟩
        · exact .inl ⟨e, s8 _ _ o⟩
        · exact .inr (.inl ⟨e, s8 _ _ o⟩)
        · exact .inr (.inr ⟨e, s8 _ _ o⟩)
      · walk_at "ev"
        refine ⟨_, _, rfl, s6.trans (s7.trans s8), fun t t0 t1 => ?_⟩
        by_cases ht : t = k
        · rw [ht]
          exact fun w => e w.symm
        · exact hn2 t t0 (by omega)
    · rintro σ H3 ⟨v2, v3, rfl, s3, hn2⟩
      refine ⟨_, _, _, rfl, s3, fun w t hw t0 t1 => ?_⟩
      by_cases hwi : w = i
      · rw [hwi]
        exact hn2 t t0 t1
      · exact hn w t (by omega) t0 t1
  · rintro σ H2 ⟨v1, v2, v3, rfl, s2, hn⟩
    walk_at "ev"
    refine h2 (fun w t w0 w1 t0 t1 => ?_) _ (s04.trans s2)
    have := hn w.toNat t (by show w.toNat < 3; omega) t0 t1
    have e : ((w.toNat : Nat) : Int) = w := by omega
    rw [e] at this
    exact this
end

def S_made : Sp := fun vs H Q E => ∃ t signs most, vs = [.str t, .str signs, .int most] ∧ t.length ≤ 100000 ∧ ∀ H', Same H H' → Q (.bl (wordB t signs most)) H'
def S_num : Sp := fun vs H Q E => ∃ t most, vs = [.str t, most] ∧ t.length ≤ 100000 ∧ (most = .non ∨ ∃ m, most = .int m) ∧ ∀ H', Same H H' → Q (vO (numR t most)) H'
def letters : Str := "abcdefghijklmnopqrstuvwxyz"
def S_word : Sp := fun vs H Q E => ∃ t, vs = [.str t] ∧ t.length ≤ 100000 ∧ ∀ H', Same H H' → Q (.bl (wordB t letters 12)) H'
def S_at (K : PySem.W.Frag) : Sp := fun vs H Q E => ∃ a k, vs = [.ref a, .int k] ∧ ∃ ns : List Int, SqL K H a (ns.map V.int) ∧ 0 ≤ k ∧ ∀ z : Int, Q (.int z) H
def S_whole : Sp := fun vs H Q E => ∃ i, vs = [.int i] ∧ Q (.bl true) H
section
variable {K : PySem.W.Frag} {C_First C_Each C_Last C_Kind C_Scene C_FORMS_copy C_FORMS_drop C_FORMS_get C_FORMS_give C_FORMS_make C_FORMS_name C_FORMS_put C_FORMS_read C_FORMS_seek C_FORMS_write : Addr} {H : Hp} {Q : VK} {E : XK} {n : St → Hp → Prop} {bk ct : St → Hp → Prop}
theorem made_of_rd {t signs : Str} {most : Int} (q : t.length ≤ 100000 ∧ ∀ H', Same H H' → Q (.bl (wordB t signs most)) H') : rd_made_of K ⟨n, Q, bk, ct⟩ [some (.str t), some (.str signs), some (.int most)] H := maderd q.1 q.2
theorem number_of_rd {t : Str} {most : V} (q : t.length ≤ 100000 ∧ (most = .non ∨ ∃ m, most = .int m) ∧ ∀ H', Same H H' → Q (vO (numR t most)) H') : rd_number_of K S_made ⟨n, Q, bk, ct⟩ [some (.str t), some most, none] H := numrd q.1 q.2.1 q.2.2
theorem is_word_rd {t : Str} (q : t.length ≤ 100000 ∧ ∀ H', Same H H' → Q (.bl (wordB t letters 12)) H') : rd_is_word S_made ⟨n, Q, bk, ct⟩ [some (.str t)] H := by
  unfold rd_is_word
  walk_at "ev"
  exact ⟨t, letters, 12, rfl, q.1, q.2⟩
theorem _law_cell_at_rd {a : Addr} {k : Int} (q : ∃ ns : List Int, SqL K H a (ns.map V.int) ∧ 0 ≤ k ∧ ∀ z : Int, Q (.int z) H) : rd__law_cell_at K ⟨n, Q, bk, ct⟩ [some (.ref a), some (.int k)] H := by
  obtain ⟨ns, h1, h2, h3⟩ := q
  exact atrd h1 h2 h3
theorem _law_whole_rd {i : Int} (q : Q (.bl true) H) : rd__law_whole ⟨n, Q, bk, ct⟩ [some (.int i)] H := wholerd q
end

def S_load : Sp := fun vs H Q E => ∃ t, vs = [.str t] ∧ t.length ≤ 100000 ∧ ∀ H', Same H H' → Q (vO (loadO t)) H'
section
variable {K : PySem.W.Frag} {C_First C_Each C_Last C_Kind C_Scene C_FORMS_copy C_FORMS_drop C_FORMS_get C_FORMS_give C_FORMS_make C_FORMS_name C_FORMS_put C_FORMS_read C_FORMS_seek C_FORMS_write : Addr} {H : Hp} {Q : VK} {E : XK} {n : St → Hp → Prop} {bk ct : St → Hp → Prop}
theorem load_of_rd {t : Str} (q : t.length ≤ 100000 ∧ ∀ H', Same H H' → Q (vO (loadO t)) H') : rd_load_of K S_num ⟨n, Q, bk, ct⟩ [some (.str t), none] H := loadrd q.1 q.2
end
def tS (i : Int) : Str := Str.ofString (toString i)
theorem inV_str {w : Str} : ∀ l : List Str, inV (.str w) (l.map V.str) = decide (w ∈ l)
  | [] => by simp [inV]
  | x :: l => by
    have ih := inV_str (w := w) l
    unfold inV at ih ⊢
    rw [List.map_cons, List.any_cons, ih]
    show (x == w || _) = _
    by_cases e : x = w
    · subst e; simp
    · have : (x == w) = false := by simpa using e
      rw [this]
      have e2 : ¬ w = x := fun z => e z.symm
      simp [e2]
theorem flat_str (l : List Str) : (l.map V.str).all flatV = true := by
  rw [List.all_map, List.all_eq_true]
  intro x _
  rfl
theorem val_lt : ∀ (r : List Nat) (a : Nat), (∀ c ∈ r, 48 ≤ c ∧ c ≤ 57) → r.foldl (fun acc c => acc * 10 + (c - 48)) a < (a + 1) * 10 ^ r.length
  | [], a, _ => by simp
  | c :: r, a, h => by
    have hc := h c List.mem_cons_self
    have ih := val_lt r (a * 10 + (c - 48)) (fun d hd => h d (List.mem_cons_of_mem _ hd))
    rw [List.foldl_cons, List.length_cons, Nat.pow_succ]
    have : (a * 10 + (c - 48) + 1) * 10 ^ r.length ≤ ((a + 1) * 10) * 10 ^ r.length := Nat.mul_le_mul_right _ (by omega)
    have e : (a + 1) * (10 ^ r.length * 10) = ((a + 1) * 10) * 10 ^ r.length := by rw [Nat.mul_comm (10 ^ r.length) 10, Nat.mul_assoc]
    omega
theorem digs (m : Nat) : ∀ c ∈ (Nat.toDigits 10 m).map Char.toNat, 48 ≤ c ∧ c ≤ 57 := by
  intro c hc
  obtain ⟨ch, hch, e⟩ := List.mem_map.mp hc
  have r := PyProof.Rows.digit_range (Nat.isDigit_of_mem_toDigits (by decide) (by decide) hch)
  rw [← e]
  exact r
theorem valO_nat {t : Str} {m : Nat} (e : t.cps.toList = (Nat.toDigits 10 m).map Char.toNat) (h1 : m < 10 ^ 60) : valO t = some (m : Int) := by
  have hd := digs m
  have hl : t.length = (Nat.toDigits 10 m).length := by rw [← str_len, e, List.length_map]
  have h60 := (Nat.length_toDigits_le_iff (n := m) (b := 10) (k := 60) (by decide) (by decide)).mpr h1
  have hp := Nat.length_toDigits_pos (b := 10) (n := m)
  have hb := PySem.W.KIN.val_back m
  unfold valO
  have dg : Dig t := by unfold Dig; rw [e]; exact hd
  have nz : ¬ (t.cps.toList[0]? = some 48 ∧ 1 < t.length) := by
    rintro ⟨z1, z2⟩
    rw [e] at z1
    generalize hc : (Nat.toDigits 10 m).map Char.toNat = cs at *
    have hcl : cs.length = (Nat.toDigits 10 m).length := by rw [← hc, List.length_map]
    cases cs with
    | nil => cases z1
    | cons c r =>
      have z1 : some c = some 48 := z1
      cases z1
      have b1 := val_lt r 0 (fun d hd' => hd d (List.mem_cons_of_mem _ hd'))
      have hb : NumText.digitsVal (48 :: r) = m := hb
      have hb2 : r.foldl (fun acc c => acc * 10 + (c - 48)) 0 = m := hb
      rw [hb2] at b1
      have b2 := (Nat.length_toDigits_le_iff (n := m) (b := 10) (k := r.length) (by decide) (by rw [List.length_cons] at hcl; omega)).mpr (by omega)
      rw [List.length_cons] at hcl
      omega
  rw [if_pos ⟨⟨by omega, by omega, nz⟩, dg⟩]
  rw [e]
  have := dval_nat _ hd 0
  unfold dval
  rw [show ((0 : Int)) = ((0 : Nat) : Int) from rfl, this]
  show some (((NumText.digitsVal _ : Nat) : Int)) = _
  rw [hb]
theorem valO_tS {i : Int} (h0 : 0 ≤ i) (h1 : i < 10 ^ 60) : valO (tS i) = some i := by
  obtain ⟨m, rfl⟩ := Int.eq_ofNat_of_zero_le h0
  exact valO_nat (PySem.W.KIN.signs_num m) (by omega)
theorem neg_tS (m : Nat) : (tS (-((m + 1 : Nat) : Int))).cps.toList = 45 :: (Nat.toDigits 10 (m + 1)).map Char.toNat := by
  unfold tS
  rw [PyProof.Rows.signs_ofString, Int.toString_eq_repr, Int.repr_eq_if]
  rw [if_neg (by omega), String.toList_append, Nat.toList_repr, List.map_append]
  have e : (-((m + 1 : Nat) : Int)).natAbs = m + 1 := by omega
  first | rw [e] | rw [show (- -((m + 1 : Nat) : Int)).toNat = m + 1 from by omega]
  rfl
theorem loadO_tS {i : Int} (h0 : -(10 ^ 60) < i) (h1 : i < 10 ^ 60) : loadO (tS i) = some i := by
  by_cases hi : 0 ≤ i
  · have e := valO_tS hi h1
    obtain ⟨m, rfl⟩ := Int.eq_ofNat_of_zero_le hi
    unfold loadO
    rw [if_neg, e]
    intro z
    have z : (Str.ofString (toString ((m : Nat) : Int))).cps.toList[0]? = some 45 := z
    rw [PySem.W.KIN.signs_num] at z
    have := digs m 45 (List.mem_of_getElem? z)
    omega
  · obtain ⟨m, rfl⟩ : ∃ m : Nat, i = -((m + 1 : Nat) : Int) := ⟨(-i).toNat - 1, by omega⟩
    have ec := neg_tS m
    have e2 : (cutS (tS (-((m + 1 : Nat) : Int))) (some 1) none).cps.toList = (Nat.toDigits 10 (m + 1)).map Char.toNat := by
      have hl : (tS (-((m + 1 : Nat) : Int))).length = (Nat.toDigits 10 (m + 1)).length + 1 := by rw [← str_len, ec, List.length_cons, List.length_map]
      unfold cutS
      rw [ec]
      have x1 : HT.sIx (tS (-((m + 1 : Nat) : Int))).length 0 (some 1) = 1 := by rw [hl]; unfold HT.sIx; simp; try omega
      have x2 : HT.sIx (tS (-((m + 1 : Nat) : Int))).length (tS (-((m + 1 : Nat) : Int))).length none = (tS (-((m + 1 : Nat) : Int))).length := rfl
      rw [x1, x2, hl]
      simp only [List.drop_succ_cons, List.drop_zero, Nat.add_sub_cancel]
      rw [List.take_of_length_le (by rw [List.length_map]; exact Nat.le_refl _)]
    have e3 := valO_nat e2 (by omega)
    unfold loadO
    rw [if_pos (by rw [ec]; rfl), e3]
    show (if ((m + 1 : Nat) : Int) = 0 then none else some (-((m + 1 : Nat) : Int))) = _
    rw [if_neg (by omega)]
theorem jl_len (c : Nat) : ∀ {ps : List Str}, ps ≠ [] → (jl c ps).length + 1 = (ps.map (·.length)).sum + ps.length
  | [], h => absurd rfl h
  | [x], _ => by simp [jl, ← str_len]
  | x :: y :: r, _ => by
    have ih := jl_len c (ps := y :: r) (by simp)
    show (x.cps.toList ++ c :: jl c (y :: r)).length + 1 = _
    rw [List.length_append, List.length_cons, str_len, List.map_cons, List.sum_cons, List.length_cons (as := y :: r)]
    omega
theorem jl_snoc (c : Nat) (p : Str) : ∀ {ps : List Str}, ps ≠ [] → jl c (ps ++ [p]) = jl c ps ++ c :: p.cps.toList
  | [], h => absurd rfl h
  | [x], _ => rfl
  | x :: y :: r, _ => by
    have ih := jl_snoc c p (ps := y :: r) (by simp)
    show x.cps.toList ++ c :: jl c ((y :: r) ++ [p]) = (x.cps.toList ++ c :: jl c (y :: r)) ++ c :: p.cps.toList
    rw [ih, List.append_assoc]; rfl
theorem join_snoc {ps : List Str} {p : Str} (h : ps ≠ []) : Str.join ⟨#[32]⟩ (ps ++ [p]) = Str.join ⟨#[32]⟩ ps ++ ⟨#[32]⟩ ++ p := by
  refine str_ext ?_
  rw [join_jl, jl_snoc 32 p h, PyProof.Rows.cps_toList_append, PyProof.Rows.cps_toList_append, join_jl, List.append_assoc]
  rfl
def sp1 : Str := ⟨#[32]⟩
def sweepS : Str := "sweep"
def nmOk (t : Str) : Prop := wordB t letters 12 = true ∧ t ≠ sweepS
def hdT (x : Str × Int) : Str := ("hand " : Str) ++ x.1 ++ (" " : Str) ++ tS x.2
def HOk (hs : List (Str × Int)) : Prop := 1 ≤ hs.length ∧ hs.length ≤ 5 ∧ (hs.map (·.1)).Nodup ∧ ∀ x ∈ hs, nmOk x.1 ∧ 3 ≤ x.2 ∧ x.2 ≤ 9
def HL (H : Hp) (l : Addr) (hs : List (Str × Int)) : Prop := ∃ as : List Addr, H l = some (.lst (as.map V.ref)) ∧ as.length = hs.length ∧ ∀ (i : Nat) a, as[i]? = some a → ∃ x, hs[i]? = some x ∧ H a = some (.tup [.str x.1, .int x.2])
def rowsT (m w t : Int) (hs : List (Str × Int)) : List Str := (("room " : Str) ++ tS m) :: (("kind " : Str) ++ words w t) :: (hs.map hdT ++ [("weave" : Str)])
theorem HL.same {H H1 : Hp} {l : Addr} {hs : List (Str × Int)} (h : HL H l hs) (s : Same H H1) : HL H1 l hs := by
  obtain ⟨as, h1, h2, h3⟩ := h
  exact ⟨as, s _ _ h1, h2, fun i a ha => let ⟨x, e, q⟩ := h3 i a ha; ⟨x, e, s _ _ q⟩⟩
theorem let_ok : ∀ c ∈ letters.cps.toList, 97 ≤ c ∧ c ≤ 122 := by decide +kernel
theorem nmOk.let {t : Str} (h : nmOk t) : (1 ≤ t.length ∧ t.length ≤ 12) ∧ ∀ c ∈ t.cps.toList, 97 ≤ c ∧ c ≤ 122 := by
  have h := h.1
  unfold wordB at h
  rw [Bool.and_eq_true, Bool.and_eq_true] at h
  have h1 := of_decide_eq_true h.1
  have h2 := of_decide_eq_true h.2.1
  refine ⟨⟨by omega, by omega⟩, fun c hc => ?_⟩
  have := List.all_eq_true.mp h.2.2 c hc
  exact let_ok c (of_decide_eq_true this)
theorem nmOk.free {t : Str} (h : nmOk t) (k : Nat) (hk : k < 97) : k ∉ t.cps.toList := fun z => by
  have := h.let.2 k z
  omega
theorem tS_free (k : Nat) (hk : k ≠ 45 ∧ (k < 48 ∨ 57 < k)) (i : Int) : k ∉ (tS i).cps.toList := PyProof.Rows.int_text_free' k hk i
theorem words_ok {w t : Int} (w0 : 0 ≤ w) (w1 : w < 3) (t0 : 0 ≤ t) (t1 : t < 4) : 10 ∉ (words w t).cps.toList ∧ (words w t).length ≤ 20 := by
  have hw : w = 0 ∨ w = 1 ∨ w = 2 := by omega
  have ht : t = 0 ∨ t = 1 ∨ t = 2 ∨ t = 3 := by omega
  rcases hw with rfl | rfl | rfl <;> rcases ht with rfl | rfl | rfl | rfl <;> decide +kernel
theorem app_cps (a b : Str) : (a ++ b).cps.toList = a.cps.toList ++ b.cps.toList := PyProof.Rows.cps_toList_append a b
theorem app_len (a b : Str) : (a ++ b).length = a.length + b.length := by rw [← str_len, app_cps, List.length_append, str_len, str_len]
theorem tS_len {i : Int} (h0 : 0 ≤ i) (h1 : i < 10 ^ 60) : (tS i).length ≤ 61 := (num_len h0 (Int.lt_trans h1 (by decide))).2
theorem room_split (m : Int) : Txt.split (("room " : Str) ++ tS m) sp1 = [("room" : Str), tS m] := by
  have e : ("room " : Str) ++ tS m = Str.join ⟨#[32]⟩ [("room" : Str), tS m] := by
    refine str_ext ?_
    rw [join_jl, app_cps]
    rfl
  rw [e]
  exact split_join (by simp) (fun p hp => by
    rcases List.mem_cons.mp hp with rfl | hp
    · decide
    · rw [List.mem_singleton.mp hp]; exact tS_free 32 ⟨by decide, by decide⟩ m)
theorem hand_split {x : Str × Int} (h : nmOk x.1) : Txt.split (hdT x) sp1 = [("hand" : Str), x.1, tS x.2] := by
  have e : hdT x = Str.join ⟨#[32]⟩ [("hand" : Str), x.1, tS x.2] := by
    refine str_ext ?_
    unfold hdT
    rw [join_jl, app_cps, app_cps, app_cps]
    show _ = ("hand" : Str).cps.toList ++ 32 :: (x.1.cps.toList ++ 32 :: (tS x.2).cps.toList)
    rw [List.append_assoc, List.append_assoc]
    rfl
  rw [e]
  exact split_join (by simp) (fun p hp => by
    rcases List.mem_cons.mp hp with rfl | hp
    · decide
    rcases List.mem_cons.mp hp with rfl | hp
    · exact h.free 32 (by decide)
    · rw [List.mem_singleton.mp hp]; exact tS_free 32 ⟨by decide, by decide⟩ x.2)
theorem kind_split (z : Str) : Txt.split (("kind " : Str) ++ z) sp1 = ("kind" : Str) :: Txt.split z sp1 := by
  have hn : Txt.split z sp1 ≠ [] := fun q => by
    have := PyProof.Rows.split_pos z sp1
    rw [q] at this
    cases this
  have e : ("kind " : Str) ++ z = Str.join ⟨#[32]⟩ (("kind" : Str) :: Txt.split z sp1) := by
    refine str_ext ?_
    have j := StrLaws.join_split z sp1
    rw [join_jl, app_cps]
    cases hs : Txt.split z sp1 with
    | nil => exact absurd hs hn
    | cons y r =>
      rw [hs] at j
      have j2 : jl 32 (y :: r) = z.cps.toList := by rw [← join_jl]; exact congrArg (fun q : Str => q.cps.toList) j
      show _ = ("kind" : Str).cps.toList ++ 32 :: jl 32 (y :: r)
      rw [j2]
      rfl
  rw [e]
  exact split_join (by simp) (fun p hp => by
    rcases List.mem_cons.mp hp with rfl | hp
    · decide
    · exact StrLaws.split_free z 32 p hp)
theorem hdT_free {x : Str × Int} (h : nmOk x.1) : 10 ∉ (hdT x).cps.toList := by
  unfold hdT
  rw [app_cps, app_cps, app_cps]
  intro z
  rcases List.mem_append.mp z with z | z
  · rcases List.mem_append.mp z with z | z
    · rcases List.mem_append.mp z with z | z
      · exact absurd z (by decide)
      · exact h.free 10 (by decide) z
    · exact absurd z (by decide)
  · exact tS_free 10 ⟨by decide, by decide⟩ x.2 z
theorem rows_split {m w t : Int} {hs : List (Str × Int)} (w0 : 0 ≤ w) (w1 : w < 3) (t0 : 0 ≤ t) (t1 : t < 4) (hk : ∀ x ∈ hs, nmOk x.1) : Txt.split (Str.join ⟨#[10]⟩ (rowsT m w t hs)) ⟨#[10]⟩ = rowsT m w t hs := by
  refine split_join (by unfold rowsT; simp) (fun p hp => ?_)
  unfold rowsT at hp
  rcases List.mem_cons.mp hp with rfl | hp
  · rw [app_cps]
    intro z
    rcases List.mem_append.mp z with z | z
    · exact absurd z (by decide)
    · exact tS_free 10 ⟨by decide, by decide⟩ m z
  rcases List.mem_cons.mp hp with rfl | hp
  · rw [app_cps]
    intro z
    rcases List.mem_append.mp z with z | z
    · exact absurd z (by decide)
    · exact (words_ok w0 w1 t0 t1).1 z
  rcases List.mem_append.mp hp with hp | hp
  · obtain ⟨x, hx, rfl⟩ := List.mem_map.mp hp
    exact hdT_free (hk x hx)
  · rw [List.mem_singleton.mp hp]; decide
theorem hdT_len {x : Str × Int} (h : nmOk x.1) (h0 : 0 ≤ x.2) (h1 : x.2 < 10) : (hdT x).length ≤ 100 := by
  unfold hdT
  have := h.let.1
  have := tS_len h0 (Int.lt_trans h1 (by decide))
  rw [app_len, app_len, app_len]
  show 5 + _ + 1 + _ ≤ _
  omega
theorem fm_get {α β : Type} (f : α → β) : ∀ xs : List α, (List.range xs.length).filterMap (fun i => (xs[i]?).map f) = xs.map f
  | [] => rfl
  | x :: xs => by
    rw [List.length_cons, List.range_succ_eq_map, List.filterMap_cons]
    simp only [List.getElem?_cons_zero, Option.map_some, List.map_cons, List.filterMap_map]
    congr 1
    exact fm_get f xs
def S_rowat : Sp := fun vs H Q E => ∃ a k, vs = [.ref a, .int k] ∧ ∃ (rows : List Str) (r : Str), H a = some (.lst (rows.map V.str)) ∧ 1 ≤ k ∧ rows[(k - 1).toNat]? = some r ∧ Q (.str r) H
def S_well : Sp := fun vs H Q E => ∃ v k, vs = [v, .int k] ∧ v ≠ .non ∧ Q v H
def S_btw : Sp := fun vs H Q E => ∃ t lo hi, vs = [.str t, .int lo, .int hi] ∧ t.length ≤ 100 ∧ ∃ v, valO t = some v ∧ lo ≤ v ∧ v ≤ hi ∧ ∀ H', Same H H' → Q (.int v) H'
def S_room : Sp := fun vs H Q E => ∃ r, vs = [.str r] ∧ ∃ m : Int, r = ("room " : Str) ++ tS m ∧ 4 ≤ m ∧ m ≤ 1000000000000000 ∧ ∀ H', Same H H' → Q (.int m) H'
def S_kindin (CK CF CE CL : Addr) : Sp := fun vs H Q E => ∃ r, vs = [.str r] ∧ ∃ z : Str, r = ("kind " : Str) ++ z ∧ (∃ w t, 0 ≤ w ∧ w < 3 ∧ 0 ≤ t ∧ t < 4 ∧ z = words w t) ∧ ∀ w t ki lk H', 0 ≤ w → w < 3 → 0 ≤ t → t < 4 → z = words w t → Same H H' → KdO CK CF CE CL H' ki lk w t → Q (.ref ki) H'
def S_hname : Sp := fun vs H Q E => ∃ t, vs = [.str t] ∧ nmOk t ∧ ∀ H', Same H H' → Q (.bl true) H'
def S_handin : Sp := fun vs H Q E => ∃ r, vs = [.str r] ∧ ∃ x : Str × Int, r = hdT x ∧ nmOk x.1 ∧ 3 ≤ x.2 ∧ x.2 ≤ 9 ∧ ∀ a H', Same H H' → H' a = some (.tup [.str x.1, .int x.2]) → Q (.ref a) H'
def S_names : Sp := fun vs H Q E => ∃ l, vs = [.ref l] ∧ ∃ hs, HL H l hs ∧ hs.length ≤ 5 ∧ ∀ p, H p = none → Q (.ref p) (upd H p (.lst ((hs.map (·.1)).map V.str)))
def S_handof : Sp := fun vs H Q E => ∃ a k l, vs = [.ref a, .int k, .ref l] ∧ ∃ (rows : List Str) (x : Str × Int) (hs : List (Str × Int)), H a = some (.lst (rows.map V.str)) ∧ 1 ≤ k ∧ rows[(k - 1).toNat]? = some (hdT x) ∧ nmOk x.1 ∧ 3 ≤ x.2 ∧ x.2 ≤ 9 ∧ HL H l hs ∧ hs.length ≤ 5 ∧ x.1 ∉ hs.map (·.1) ∧ ∀ b H', Same H H' → H' b = some (.tup [.str x.1, .int x.2]) → Q (.ref b) H'
def S_Scene_init (C : Addr) : Sp := fun vs H Q E => ∃ p m kd hl rl, vs = [.ref p, .int m, .ref kd, .ref hl, .ref rl] ∧ ∃ dx xs ys, H p = some (.ins C dx []) ∧ H hl = some (.lst xs) ∧ H rl = some (.lst ys) ∧ ∀ H' h2 r2, H' p = some (.ins C dx (sceneF m kd h2 r2)) → H' h2 = some (.lst xs) → H' r2 = some (.lst ys) → (∀ b o, H b = some o → b ≠ p → H' b = some o) → Q .non H'
section
variable {K : PySem.W.Frag} {C_First C_Each C_Last C_Kind C_Scene C_FORMS_copy C_FORMS_drop C_FORMS_get C_FORMS_give C_FORMS_make C_FORMS_name C_FORMS_put C_FORMS_read C_FORMS_seek C_FORMS_write : Addr} {H : Hp} {Q : VK} {E : XK} {n : St → Hp → Prop} {bk ct : St → Hp → Prop}
theorem row_at_rd {a : Addr} {k : Int} (q : ∃ (rows : List Str) (r : Str), H a = some (.lst (rows.map V.str)) ∧ 1 ≤ k ∧ rows[(k - 1).toNat]? = some r ∧ Q (.str r) H) : rd_row_at K ⟨n, Q, bk, ct⟩ [some (.ref a), some (.int k)] H := by
  obtain ⟨rows, r, ha, hk, hr, h⟩ := q
  have hl := (List.getElem?_eq_some_iff.mp hr).1
  unfold rd_row_at
  walk_at "ev"
  refine i_lenL (SqL.of ha) ?_
  walk_at "ev"
  rw [List.length_map]
  refine ifd (fun z => absurd z (by omega)) (fun _ => ?_)
  walk_at "ev"
  exact i_ixL (SqL.of ha) (atI_int (by omega) (by rw [List.getElem?_map, hr]; rfl)) h
theorem well_formed_rd {v : V} {k : Int} (q : v ≠ .non ∧ Q v H) : rd_well_formed ⟨n, Q, bk, ct⟩ [some v, some (.int k)] H := by
  unfold rd_well_formed
  refine i_seq ?_
  refine ⟨v, rfl, ?_⟩
  refine ⟨rfl, ?_⟩
  rw [decide_eq_false q.1]
  refine ⟨false, rfl, i_iteF ?_⟩
  exact ⟨v, rfl, q.2⟩
theorem number_between_rd {t : Str} {lo hi : Int} (q : t.length ≤ 100 ∧ ∃ v, valO t = some v ∧ lo ≤ v ∧ v ≤ hi ∧ ∀ H', Same H H' → Q (.int v) H') : rd_number_between S_num ⟨n, Q, bk, ct⟩ [some (.str t), some (.int lo), some (.int hi), none] H := by
  obtain ⟨hl, v, ev, h0, h1, h⟩ := q
  unfold rd_number_between
  walk_at "ev"
  refine ⟨t, _, rfl, by omega, .inr ⟨hi, rfl⟩, fun H1 s1 => ?_⟩
  have e : numR t (.int hi) = some v := by
    unfold numR
    rw [ev]
    show (if over v (.int hi) = true then none else some v) = _
    rw [if_neg]
    show ¬ decide (hi < v) = true
    rw [decide_eq_false (by omega)]
    exact Bool.false_ne_true
  rw [e]
  dsimp only [vO]
  walk_at "ev"
  refine ifd (fun z => absurd z (by omega)) (fun _ => ?_)
  walk_at "ev"
  exact h _ s1
theorem room_in_rd {r : Str} (q : ∃ m : Int, r = ("room " : Str) ++ tS m ∧ 4 ≤ m ∧ m ≤ 1000000000000000 ∧ ∀ H', Same H H' → Q (.int m) H') : rd_room_in K S_btw ⟨n, Q, bk, ct⟩ [some (.str r), none] H := by
  obtain ⟨m, rfl, h0, h1, h⟩ := q
  have hm : m < 10 ^ 60 := Int.lt_of_le_of_lt h1 (by decide)
  have lm := tS_len (i := m) (by omega) hm
  have l5 : ("room " : Str).length = 5 := rfl
  unfold rd_room_in
  walk_at "ev"
  refine ⟨_, _, rfl, rfl, by decide, by rw [app_len]; omega, fun l hl0 => ?_⟩
  rw [show Txt.split (("room " : Str) ++ tS m) " " = _ from room_split m]
  have s1 := same_new hl0 (.lst ([("room" : Str), tS m].map V.str))
  have c1 : upd H l (.lst ([("room" : Str), tS m].map V.str)) l = some (.lst ([("room" : Str), tS m].map V.str)) := upd_same
  generalize upd H l (.lst ([("room" : Str), tS m].map V.str)) = H1 at s1 c1 ⊢
  walk_at "ev"
  refine i_lenL (SqL.of c1) ?_
  walk_at "ev"
  refine ifnd (fun z => absurd rfl z) (fun _ => ?_)
  walk_at "ev"
  refine i_ixL (SqL.of c1) (atI_int (by decide) rfl) ?_
  walk_at "ev"
  refine ifnd (fun z => absurd rfl z) (fun _ => ?_)
  walk_at "ev"
  refine i_ixL (SqL.of c1) (atI_int (by decide) rfl) ?_
  walk_at "ev"
  exact ⟨tS m, _, _, rfl, by omega, m, valO_tS (by omega) hm, h0, h1, fun H' s' => h _ (s1.trans s')⟩
theorem kind_in_rd {r : Str} (q : ∃ z : Str, r = ("kind " : Str) ++ z ∧ (∃ w t, 0 ≤ w ∧ w < 3 ∧ 0 ≤ t ∧ t < 4 ∧ z = words w t) ∧ ∀ w t ki lk H', 0 ≤ w → w < 3 → 0 ≤ t → t < 4 → z = words w t → Same H H' → KdO C_Kind C_First C_Each C_Last H' ki lk w t → Q (.ref ki) H') : rd_kind_in K (S_kind_of C_Kind C_First C_Each C_Last) ⟨n, Q, bk, ct⟩ [some (.str r), none] H := by
  obtain ⟨z, rfl, ⟨w, t, w0, w1, t0, t1, ez⟩, h⟩ := q
  have lz := (words_ok w0 w1 t0 t1).2
  rw [← ez] at lz
  have l5 : ("kind " : Str).length = 5 := rfl
  unfold rd_kind_in
  walk_at "ev"
  refine ⟨_, _, rfl, rfl, by decide, by rw [app_len]; omega, fun l hl0 => ?_⟩
  rw [show Txt.split (("kind " : Str) ++ z) " " = _ from kind_split z]
  have s1 := same_new hl0 (.lst ((("kind" : Str) :: Txt.split z sp1).map V.str))
  have c1 : upd H l (.lst ((("kind" : Str) :: Txt.split z sp1).map V.str)) l = some (.lst ((("kind" : Str) :: Txt.split z sp1).map V.str)) := upd_same
  generalize upd H l (.lst ((("kind" : Str) :: Txt.split z sp1).map V.str)) = H1 at s1 c1 ⊢
  walk_at "ev"
  refine i_ixL (SqL.of c1) (atI_int (by decide) rfl) ?_
  walk_at "ev"
  refine ifnd (fun z => absurd rfl z) (fun _ => ?_)
  walk_at "ev"
  refine ⟨l, _, rfl, SqL.of c1, fun m hm => ?_⟩
  have ec : cutV ((("kind" : Str) :: Txt.split z sp1).map V.str) (some 1) none = (Txt.split z sp1).map V.str := by
    unfold cutV
    have x1 : HT.sIx ((("kind" : Str) :: Txt.split z sp1).map V.str).length 0 (some 1) = 1 := by
      unfold HT.sIx
      simp
      try omega
    have x2 : HT.sIx ((("kind" : Str) :: Txt.split z sp1).map V.str).length ((("kind" : Str) :: Txt.split z sp1).map V.str).length none = ((("kind" : Str) :: Txt.split z sp1).map V.str).length := rfl
    rw [x1, x2]
    simp only [List.map_cons, List.drop_succ_cons, List.drop_zero]
    exact List.take_of_length_le (by simp)
  rw [ec]
  have s2 := same_new hm (.lst ((Txt.split z sp1).map V.str))
  walk_at "ev"
  have j := StrLaws.join_split z sp1
  have sl : ((Txt.split z sp1).map (·.length)).sum + (Txt.split z sp1).length = z.length + 1 := by
    have hne : Txt.split z sp1 ≠ [] := fun q => by
      have := PyProof.Rows.split_pos z sp1
      rw [q] at this
      cases this
    rw [← jl_len 32 hne, ← join_jl, str_len]
    exact congrArg (fun q : Str => q.length + 1) j
  refine ⟨" ", m, Txt.split z sp1, rfl, rfl, SqL.of upd_same, by decide, by omega, ?_⟩
  rw [show Txt.join " " (Txt.split z sp1) = z from (StrLaws.glued_eq_join _ _).trans j]
  walk_at "ev"
  exact ⟨z, rfl, by omega, fun w2 t2 a0 a1 b0 b1 e2 ki lk H' s' k => h w2 t2 ki lk H' a0 a1 b0 b1 e2 (s1.trans (s2.trans s')) k, fun no => absurd ez (no w t w0 w1 t0 t1)⟩
theorem is_hand_name_rd {t : Str} (q : nmOk t ∧ ∀ H', Same H H' → Q (.bl true) H') : rd_is_hand_name S_word ⟨n, Q, bk, ct⟩ [some (.str t)] H := by
  obtain ⟨ok, h⟩ := q
  have := ok.let.1
  unfold rd_is_hand_name
  walk_at "ev"
  refine ⟨t, rfl, by omega, fun H1 s1 => ?_⟩
  rw [ok.1]
  walk_at "ev"
  have e : (!decide (t = sweepS)) = true := by rw [decide_eq_false ok.2]; rfl
  show Q (.bl (!decide (t = sweepS))) H1
  rw [e]
  exact h _ s1
theorem hand_in_rd {r : Str} (q : ∃ x : Str × Int, r = hdT x ∧ nmOk x.1 ∧ 3 ≤ x.2 ∧ x.2 ≤ 9 ∧ ∀ a H', Same H H' → H' a = some (.tup [.str x.1, .int x.2]) → Q (.ref a) H') : rd_hand_in K S_hname S_btw ⟨n, Q, bk, ct⟩ [some (.str r), none, none] H := by
  obtain ⟨x, rfl, ok, h0, h1, h⟩ := q
  have lx := hdT_len ok (by omega) (by omega)
  have l1 := ok.let.1
  have l2 := tS_len (i := x.2) (by omega) (Int.lt_of_le_of_lt h1 (by decide))
  unfold rd_hand_in
  walk_at "ev"
  refine ⟨_, _, rfl, rfl, by decide, by omega, fun l hl0 => ?_⟩
  rw [show Txt.split (hdT x) " " = _ from hand_split ok]
  have s1 := same_new hl0 (.lst ([("hand" : Str), x.1, tS x.2].map V.str))
  have c1 : upd H l (.lst ([("hand" : Str), x.1, tS x.2].map V.str)) l = some (.lst ([("hand" : Str), x.1, tS x.2].map V.str)) := upd_same
  generalize upd H l (.lst ([("hand" : Str), x.1, tS x.2].map V.str)) = H1 at s1 c1 ⊢
  walk_at "ev"
  refine i_lenL (SqL.of c1) ?_
  walk_at "ev"
  refine ifnd (fun z => absurd rfl z) (fun _ => ?_)
  walk_at "ev"
  refine i_ixL (SqL.of c1) (atI_int (by decide) rfl) ?_
  walk_at "ev"
  refine ifnd (fun z => absurd rfl z) (fun _ => ?_)
  walk_at "ev"
  refine i_ixL (SqL.of c1) (atI_int (by decide) rfl) ?_
  walk_at "ev"
  refine ⟨x.1, rfl, ok, fun H2 s2 => ?_⟩
  walk_at "ev"
  refine i_ixL (SqL.of (s2 _ _ c1)) (atI_int (by decide) rfl) ?_
  walk_at "ev"
  refine ⟨tS x.2, _, _, rfl, by omega, x.2, valO_tS (by omega) (Int.lt_of_le_of_lt h1 (by decide)), h0, h1, fun H3 s3 => ?_⟩
  walk_at "ev"
  refine i_ixL (SqL.of (s3 _ _ (s2 _ _ c1))) (atI_int (by decide) rfl) ?_
  walk_at "ev"
  refine ⟨by show 2 ≤ _; decide, fun tp htp => ?_⟩
  exact h tp _ (s1.trans (s2.trans (s3.trans (same_new htp _)))) upd_same
theorem lc_names {l : Addr} {hs : List (Str × Int)} {σ : St} {Q' : VK} (hl : HL H l hs) (h5 : hs.length ≤ 5) (h : ∀ p, H p = none → Q' (.ref p) (upd H p (.lst ((hs.map (·.1)).map V.str)))) : LCg2 K (Itl K l) [] tTrue (tVar 0) σ H Q' := by
  obtain ⟨as, h1, h2, h3⟩ := hl
  refine lcg2_of ?_
  refine lc_list (SqL.of h1) (fun i => (hs[i]?).map fun x => .str x.1) (by rw [List.length_map]; omega) (fun i x hx => ?_) fun p hp => ?_
  · rw [List.getElem?_map] at hx
    obtain ⟨a, ha, rfl⟩ := Option.map_eq_some_iff.mp hx
    obtain ⟨y, ey, hy⟩ := h3 i a ha
    refine ⟨fun q hq => ?_, fun v q hv hq => ?_⟩
    · rw [ey] at hq; exact hq
    · rw [ey] at hv
      cases hv
      exact ⟨a, _, _, _, rfl, SqT.of hy, _, rfl, hq⟩
  · have := h p hp
    rw [List.length_map, h2, fm_get (fun x : Str × Int => V.str x.1)]
    rw [List.map_map] at this
    exact this
theorem names_of_rd {l : Addr} (q : ∃ hs, HL H l hs ∧ hs.length ≤ 5 ∧ ∀ p, H p = none → Q (.ref p) (upd H p (.lst ((hs.map (·.1)).map V.str)))) : rd_names_of K ⟨n, Q, bk, ct⟩ [some (.ref l)] H := by
  obtain ⟨hs, hl, h5, h⟩ := q
  unfold rd_names_of
  walk_at "ev"
  obtain ⟨as, h1, _⟩ := id hl
  exact ⟨l, rfl, ⟨_, SqL.of h1⟩, lc_names hl h5 h⟩
theorem hand_of_rd {a l : Addr} {k : Int} (q : ∃ (rows : List Str) (x : Str × Int) (hs : List (Str × Int)), H a = some (.lst (rows.map V.str)) ∧ 1 ≤ k ∧ rows[(k - 1).toNat]? = some (hdT x) ∧ nmOk x.1 ∧ 3 ≤ x.2 ∧ x.2 ≤ 9 ∧ HL H l hs ∧ hs.length ≤ 5 ∧ x.1 ∉ hs.map (·.1) ∧ ∀ b H', Same H H' → H' b = some (.tup [.str x.1, .int x.2]) → Q (.ref b) H') : rd_hand_of K S_handin S_names S_rowat S_well ⟨n, Q, bk, ct⟩ [some (.ref a), some (.int k), some (.ref l), none] H := by
  obtain ⟨rows, x, hs, ha, hk, hr, ok, h0, h1, hl, h5, nx, h⟩ := q
  unfold rd_hand_of
  walk_at "ev"
  refine ⟨a, k, rfl, rows, _, ha, hk, hr, ?_⟩
  walk_at "ev"
  refine ⟨_, rfl, x, rfl, ok, h0, h1, fun b H1 s1 hb => ?_⟩
  walk_at "ev"
  refine ⟨_, k, rfl, by simp, ?_⟩
  walk_at "ev"
  refine ⟨b, _, 0, _, rfl, rfl, SqT.of hb, rfl, ?_⟩
  walk_at "ev"
  refine ⟨l, rfl, hs, hl.same s1, h5, fun p hp => ?_⟩
  have s2 := same_new hp (.lst ((hs.map (·.1)).map V.str))
  refine ⟨p, _, rfl, .inl (SqL.of upd_same), rfl, flat_str _, ?_⟩
  rw [if_neg Bool.false_ne_true, inV_str, decide_eq_false nx]
  refine ⟨false, rfl, ?_⟩
  walk_at "ev"
  exact h b _ (s1.trans s2) (s2 _ _ hb)
theorem Scene___init___rd {p kd hl rl : Addr} {m : Int} (T : TxS K C_Kind C_Scene C_FORMS_copy C_FORMS_drop C_FORMS_get C_FORMS_give C_FORMS_make C_FORMS_name C_FORMS_put C_FORMS_read C_FORMS_seek C_FORMS_write) (q : ∃ dx xs ys, H p = some (.ins C_Scene dx []) ∧ H hl = some (.lst xs) ∧ H rl = some (.lst ys) ∧ ∀ H' h2 r2, H' p = some (.ins C_Scene dx (sceneF m kd h2 r2)) → H' h2 = some (.lst xs) → H' r2 = some (.lst ys) → (∀ b o, H b = some o → b ≠ p → H' b = some o) → Q .non H') :
    rd_Scene___init__ K ⟨fun _ H' => Q .non H', Q, bk, ct⟩ [some (.ref p), some (.int m), some (.ref kd), some (.ref hl), some (.ref rl)] H := by
  obtain ⟨dx, xs, ys, hp, hh, hr, h⟩ := q
  have nhp : hl ≠ p := fun e => by rw [e, hp] at hh; cases hh
  have nrp : rl ≠ p := fun e => by rw [e, hp] at hr; cases hr
  unfold rd_Scene___init__
  walk_at "ev"
  refine ⟨p, C_Scene, dx, [], rfl, hp, T.cl_Scene, T.n_room, by decide, ?_⟩
  walk_at "ev"
  refine ⟨p, C_Scene, dx, _, rfl, upd_same, T.cl_Scene, T.n_kind, by show 1 < 1000; decide, ?_⟩
  rw [upd_upd]
  walk_at "ev"
  refine i_listL (SqL.of (by rw [upd_ne nhp]; exact hh)) fun h2 nh2 => ?_
  have np2 : p ≠ h2 := fun e => by rw [← e, upd_same] at nh2; cases nh2
  walk_at "ev"
  refine ⟨p, C_Scene, dx, _, rfl, by rw [upd_ne np2]; exact upd_same, T.cl_Scene, T.n_hands, by show 2 < 1000; decide, ?_⟩
  walk_at "ev"
  have nh2' : h2 ≠ p := Ne.symm np2
  have nrh : rl ≠ h2 := fun e => by rw [← e, upd_ne nrp, hr] at nh2; cases nh2
  refine i_listL (SqL.of (by rw [upd_ne nrp, upd_ne nrh, upd_ne nrp]; exact hr)) fun r2 nr2 => ?_
  have npr : p ≠ r2 := fun e => by rw [← e, upd_same] at nr2; cases nr2
  have nr2' : r2 ≠ p := Ne.symm npr
  have nhr : h2 ≠ r2 := fun e => by rw [← e, upd_ne nh2', upd_same] at nr2; cases nr2
  walk_at "ev"
  refine ⟨p, C_Scene, dx, _, rfl, by rw [upd_ne npr]; exact upd_same, T.cl_Scene, T.n_rows, by show 3 < 1000; decide, ?_⟩
  refine h _ h2 r2 ?_ ?_ ?_ fun b o hb nb => ?_
  · rw [upd_same, sceneF_mk]
  · rw [upd_ne nh2', upd_ne nhr, upd_ne nh2', upd_same]
  · rw [upd_ne nr2', upd_same]
  · have n1 : b ≠ h2 := fun e => by rw [← e, upd_ne nb, hb] at nh2; cases nh2
    have n2 : b ≠ r2 := fun e => by rw [← e, upd_ne nb, upd_ne n1, upd_ne nb, hb] at nr2; cases nr2
    rw [upd_ne nb, upd_ne n2, upd_ne nb, upd_ne n1, upd_ne nb]; exact hb
end
def mostT : List (Str × V) := [("slot", .int 999), ("field", .int 999), ("many", .int 8), ("bulk", .int 1000000000000)]
def fHand : Str := "hand"
def fLoad : Str := "load"
def fWord : Str := "word"
inductive Fv (hs : List (Str × Int)) : Str → V → Str → V → Prop
  | hand {h : Nat} {x : Str × Int} (e : hs[h]? = some x) (k : nmOk x.1) : Fv hs fHand (.int h) x.1 (.str x.1)
  | num {f : Str} {m n : Int} (e : mostT.lookup f = some (.int m)) (h0 : 0 ≤ n) (h1 : n ≤ m) (hm : m ≤ 1000000000000) : Fv hs f (.int n) (tS n) (.int n)
  | load {n : Int} (h0 : -(10 ^ 60) < n) (h1 : n < 10 ^ 60) : Fv hs fLoad (.int n) (tS n) (.int n)
  | word {z : Str} (k : wordB z letters 12 = true) : Fv hs fWord (.str z) z (.str z)
def S_value : Sp := fun vs H Q E => ∃ f t, vs = [.str f, .str t] ∧ ∃ hs v d, Fv hs f v t d ∧ t.length ≤ 100 ∧ ∀ H', Same H H' → Q d H'
section
variable {K : PySem.W.Frag} {C_First C_Each C_Last C_Kind C_Scene : Addr} {H : Hp} {Q : VK} {E : XK} {n : St → Hp → Prop} {bk ct : St → Hp → Prop}
theorem value_of_rd {f t : Str} (q : ∃ hs v d, Fv hs f v t d ∧ t.length ≤ 100 ∧ ∀ H', Same H H' → Q d H') : rd_value_of S_word S_load S_num ⟨n, Q, bk, ct⟩ [some (.str f), some (.str t)] H := by
  obtain ⟨hs, v, d, fv, hl, h⟩ := q
  unfold rd_value_of
  have wd : wordB t letters 12 = true → d = .str t → mostT.lookup f = none → f ≠ fLoad → rd_value_of S_word S_load S_num ⟨n, Q, bk, ct⟩ [some (.str f), some (.str t)] H := by
    intro wb ed nl nf
    unfold rd_value_of
    walk_at "ev"
    refine ⟨f, rfl, _, rfl, ?_⟩
    show if (mostT.lookup f).isSome = true then _ else _
    rw [nl]
    refine i_iteF ?_
    walk_at "ev"
    refine ifd (fun e => absurd e nf) (fun _ => ?_)
    walk_at "ev"
    refine ⟨t, rfl, by omega, fun H1 s1 => ?_⟩
    rw [wb]
    walk_at "ev"
    have := h _ s1
    rw [ed] at this
    exact this
  cases fv with
  | hand e k => exact wd k.1 rfl (by decide) (by decide)
  | word k => exact wd k rfl (by decide) (by decide)
  | @num f m i e h0 h1 hm =>
    walk_at "ev"
    refine ⟨f, rfl, _, rfl, ?_⟩
    show if (mostT.lookup f).isSome = true then _ else _
    rw [e]
    refine i_iteT ?_
    walk_at "ev"
    refine ⟨f, _, rfl, e, ?_⟩
    walk_at "ev"
    refine ⟨tS i, _, rfl, by omega, .inr ⟨m, rfl⟩, fun H1 s1 => ?_⟩
    have e2 : numR (tS i) (.int m) = some i := by
      unfold numR
      rw [valO_tS h0 (Int.lt_of_le_of_lt (Int.le_trans h1 hm) (by decide))]
      show (if over i (.int m) = true then none else some i) = _
      rw [if_neg]
      show ¬ decide (m < i) = true
      rw [decide_eq_false (by omega)]
      exact Bool.false_ne_true
    rw [e2]
    exact h _ s1
  | @load i h0 h1 =>
    walk_at "ev"
    refine ⟨fLoad, rfl, _, rfl, ?_⟩
    show if (mostT.lookup fLoad).isSome = true then _ else _
    rw [show mostT.lookup fLoad = none by decide]
    refine i_iteF ?_
    walk_at "ev"
    refine ifd (fun _ => ?_) (fun e => absurd rfl e)
    walk_at "ev"
    refine ⟨tS i, rfl, by omega, fun H1 s1 => ?_⟩
    rw [loadO_tS h0 h1]
    exact h _ s1
end
def frms : List (Str × List Str) := [("make", ["hand", "slot", "many", "bulk"]), ("get", ["hand", "slot", "slot", "field"]), ("put", ["hand", "slot", "field", "slot"]), ("copy", ["hand", "slot", "slot"]), ("drop", ["hand", "slot"]), ("give", ["hand", "slot", "hand", "slot"]), ("write", ["hand", "slot", "load"]), ("read", ["hand", "slot"]), ("name", ["hand", "slot", "word"]), ("seek", ["hand", "slot", "word"])]
def S_forms (K : PySem.W.Frag) : Sp := fun vs H Q E => ∃ w, vs = [.str w] ∧ ∃ fs, (w, fs) ∈ frms ∧ ∀ a, TupG K a (fs.map V.str) → Q (.ref a) H
section
variable {K : PySem.W.Frag} {C_First C_Each C_Last C_Kind C_Scene C_FORMS_copy C_FORMS_drop C_FORMS_get C_FORMS_give C_FORMS_make C_FORMS_name C_FORMS_put C_FORMS_read C_FORMS_seek C_FORMS_write : Addr} {H : Hp} {Q : VK} {E : XK} {n : St → Hp → Prop} {bk ct : St → Hp → Prop}
theorem forms_of_rd {w : Str} (T : TxS K C_Kind C_Scene C_FORMS_copy C_FORMS_drop C_FORMS_get C_FORMS_give C_FORMS_make C_FORMS_name C_FORMS_put C_FORMS_read C_FORMS_seek C_FORMS_write) (q : ∃ fs, (w, fs) ∈ frms ∧ ∀ a, TupG K a (fs.map V.str) → Q (.ref a) H) : rd_forms_of C_FORMS_copy C_FORMS_drop C_FORMS_get C_FORMS_give C_FORMS_make C_FORMS_name C_FORMS_put C_FORMS_read C_FORMS_seek C_FORMS_write ⟨n, Q, bk, ct⟩ [some (.str w)] H := by
  obtain ⟨fs, hm, h⟩ := q
  unfold rd_forms_of
  walk_at "ev"
  refine ⟨w, rfl, ?_⟩
  unfold frms at hm
  simp only [List.mem_cons, List.not_mem_nil, or_false, Prod.mk.injEq] at hm
  rcases hm with ⟨rfl, rfl⟩ | ⟨rfl, rfl⟩ | ⟨rfl, rfl⟩ | ⟨rfl, rfl⟩ | ⟨rfl, rfl⟩ | ⟨rfl, rfl⟩ | ⟨rfl, rfl⟩ | ⟨rfl, rfl⟩ | ⟨rfl, rfl⟩ | ⟨rfl, rfl⟩
  · exact h _ T.f_make
  · exact h _ T.f_get
  · exact h _ T.f_put
  · exact h _ T.f_copy
  · exact h _ T.f_drop
  · exact h _ T.f_give
  · exact h _ T.f_write
  · exact h _ T.f_read
  · exact h _ T.f_name
  · exact h _ T.f_seek
end
section
variable {K : PySem.W.Frag} {t1 t2 : Bool} {a b : Addr} {caps : List Nat} {te : TE} {σ : St} {H : Hp} {Q : VK}
theorem lc_zip2 {xs ys : List V} (hq : ∀ H', Same H H' → SqV K t1 H' a xs) (hr : ∀ H', Same H H' → SqV K t2 H' b ys) (hlen : xs.length = ys.length) (hz : xs.length ≤ 1000000) (R : Nat → V → Prop)
    (hte : ∀ (i : Nat) x y H1, xs[i]? = some x → ys[i]? = some y → Same H H1 → ∀ q : VK, (∀ v H2, Same H1 H2 → R i v → q v H2) → te (some x :: some y :: caps.map (pick σ)) H1 q)
    (h : ∀ vs H', Same H H' → vs.length = xs.length → (∀ (i : Nat) v, vs[i]? = some v → R i v) → ∀ p, H' p = none → Q (.ref p) (upd H' p (.lst vs))) : LCg2 K (Itz2 K t1 t2 a b) caps tTrue te σ H Q := by
  refine ⟨fun i m vs H' => i ≤ xs.length ∧ m = xs.length - i ∧ vs.length = i ∧ Same H H' ∧ ∀ (j : Nat) v, vs[j]? = some v → R j v, ⟨_, Nat.zero_le _, rfl, rfl, Same.refl _, fun j v e => by cases e⟩, ?_⟩
  rintro i m vs H1 ⟨hi, rfl, hl, s1, hv⟩
  by_cases hk : i = xs.length
  · exact .inl ⟨⟨xs, ys, hq _ s1, hr _ s1, .inl (by omega)⟩, fun p hp => h vs H1 s1 (by omega) hv p hp⟩
  · have hlt : i < xs.length := by omega
    refine .inr ⟨⟨xs, ys, xs[i], ys[i]'(by omega), hq _ s1, hr _ s1, List.getElem?_eq_getElem hlt, List.getElem?_eq_getElem (by omega)⟩, Nat.lt_of_lt_of_le (by omega : vs.length < 1000000) (by decide), ?_⟩
    rintro v H2 ⟨t, x, y, rfl, ht, rfl, e1, e2⟩
    have s2 := same_new ht (.tup [x, y])
    refine ⟨t, x, y, rfl, SqT.of upd_same, i_true (iteT ?_)⟩
    refine hte i x y _ (e1 _ (hq _ s1)) (e2 _ (hr _ s1)) (s1.trans s2) _ fun w H3 s3 rw' => ⟨xs.length - (i + 1), by omega, by omega, rfl, by rw [List.length_append, hl]; rfl, s1.trans (s2.trans s3), fun j u hj => ?_⟩
    by_cases hji : j < vs.length
    · rw [List.getElem?_append_left hji] at hj
      exact hv j u hj
    · have hjl := (List.getElem?_eq_some_iff.mp hj).1
      rw [List.length_append] at hjl
      have : [w].length = 1 := rfl
      have hje : j = vs.length := by omega
      rw [hje, List.getElem?_append_right (Nat.le_refl _), Nat.sub_self] at hj
      cases hj
      rw [hje, hl]
      exact rw'
end
abbrev Qd := Str × V × Str × V
def QOk (hs : List (Str × Int)) (q : Qd) : Prop := Fv hs q.1 q.2.1 q.2.2.1 q.2.2.2 ∧ q.2.2.1.length ≤ 100
def S_told : Sp := fun vs H Q E => ∃ p, vs = [.ref p] ∧ ∃ (hs : List (Str × Int)) (w : Str) (q0 : Qd) (qs : List Qd), H p = some (.lst ((q0.2.2.1 :: w :: qs.map (·.2.2.1)).map V.str)) ∧ (w, (q0 :: qs).map (·.1)) ∈ frms ∧ qs.length ≤ 8 ∧ (∀ q ∈ q0 :: qs, QOk hs q) ∧ ∀ l H', Same H H' → H' l = some (.lst ((q0 :: qs).map (·.2.2.2))) → Q (.ref l) H'
theorem Fv.told {hs : List (Str × Int)} {f t : Str} {v d : V} (h : Fv hs f v t d) : flatV d = true ∧ d ≠ .non := by
  cases h <;> exact ⟨rfl, by simp⟩
theorem cut_1 (x : Str) (r : List Str) : cutV ((x :: r).map V.str) none (some 1) = [.str x] := by
  unfold cutV
  have x1 : HT.sIx ((x :: r).map V.str).length 0 none = 0 := rfl
  have x2 : HT.sIx ((x :: r).map V.str).length ((x :: r).map V.str).length (some 1) = 1 := by
    unfold HT.sIx
    simp
    try omega
  rw [x1, x2]
  simp
theorem cut_2 (w t : Str) (r : List Str) : cutV ((w :: t :: r).map V.str) (some 2) none = r.map V.str := by
  unfold cutV
  have x1 : HT.sIx ((w :: t :: r).map V.str).length 0 (some 2) = 2 := by
    unfold HT.sIx
    simp
    try omega
  have x2 : HT.sIx ((w :: t :: r).map V.str).length ((w :: t :: r).map V.str).length none = ((w :: t :: r).map V.str).length := rfl
  rw [x1, x2]
  simp only [List.map_cons, List.drop_succ_cons, List.drop_zero]
  exact List.take_of_length_le (by simp)
theorem inV_no : ∀ {xs : List V}, xs.all flatV = true → (∀ x ∈ xs, x ≠ .non) → inV .non xs = false
  | [], _, _ => rfl
  | x :: xs, h, hn => by
    rw [List.all_cons, Bool.and_eq_true] at h
    have ih := inV_no h.2 (fun y hy => hn y (List.mem_cons_of_mem _ hy))
    have h1 := hn x List.mem_cons_self
    unfold inV at ih ⊢
    rw [List.any_cons, ih]
    cases x with
    | non => exact absurd rfl h1
    | _ => rfl
section
variable {K : PySem.W.Frag} {H : Hp} {Q : VK} {E : XK} {n : St → Hp → Prop} {bk ct : St → Hp → Prop}
theorem told_in_rd {p : Addr} (q : ∃ (hs : List (Str × Int)) (w : Str) (q0 : Qd) (qs : List Qd), H p = some (.lst ((q0.2.2.1 :: w :: qs.map (·.2.2.1)).map V.str)) ∧ (w, (q0 :: qs).map (·.1)) ∈ frms ∧ qs.length ≤ 8 ∧ (∀ q ∈ q0 :: qs, QOk hs q) ∧ ∀ l H', Same H H' → H' l = some (.lst ((q0 :: qs).map (·.2.2.2))) → Q (.ref l) H') : rd_told_in K (S_forms K) S_value ⟨n, Q, bk, ct⟩ [some (.ref p), none, none, none] H := by
  obtain ⟨hs, w, q0, qs, hp, hm, h8, ok, h⟩ := q
  unfold rd_told_in
  walk_at "ev"
  refine i_lenL (SqL.of hp) ?_
  walk_at "ev"
  refine ifd (fun _ => ?_) (fun z => absurd (by rw [List.length_map, List.length_cons, List.length_cons]; omega) z)
  walk_at "ev"
  refine i_ixL (SqL.of hp) (atI_int (by decide) rfl) ?_
  walk_at "ev"
  refine ⟨w, rfl, _, hm, fun fa tf => ?_⟩
  walk_at "ev"
  refine ⟨p, _, rfl, SqL.of hp, fun la hla => ?_⟩
  rw [cut_1]
  have s1 := same_new hla (.lst [.str q0.2.2.1])
  have c1 : upd H la (.lst [.str q0.2.2.1]) la = some (.lst [.str q0.2.2.1]) := upd_same
  generalize upd H la (.lst [.str q0.2.2.1]) = H1 at s1 c1 ⊢
  walk_at "ev"
  refine ⟨p, _, rfl, SqL.of (s1 _ _ hp), fun lb hlb => ?_⟩
  rw [cut_2]
  have s2 := same_new hlb (.lst ((qs.map (·.2.2.1)).map V.str))
  have c2 : upd H1 lb (.lst ((qs.map (·.2.2.1)).map V.str)) lb = some (.lst ((qs.map (·.2.2.1)).map V.str)) := upd_same
  generalize upd H1 lb (.lst ((qs.map (·.2.2.1)).map V.str)) = H2 at s2 c2 ⊢
  refine ⟨la, lb, _, _, rfl, rfl, s2 _ _ c1, c2, len_ok (by rw [List.length_map, List.length_map]; show 1 + _ ≤ _; omega), fun lt hlt => ?_⟩
  have et : [V.str q0.2.2.1] ++ (qs.map (·.2.2.1)).map V.str = ((q0 :: qs).map (·.2.2.1)).map V.str := rfl
  rw [et]
  have s3 := same_new hlt (.lst (((q0 :: qs).map (·.2.2.1)).map V.str))
  have c3 : upd H2 lt (.lst (((q0 :: qs).map (·.2.2.1)).map V.str)) lt = some (.lst (((q0 :: qs).map (·.2.2.1)).map V.str)) := upd_same
  generalize upd H2 lt (.lst (((q0 :: qs).map (·.2.2.1)).map V.str)) = H3 at s3 c3 ⊢
  have s13 := s1.trans (s2.trans s3)
  walk_at "ev"
  refine i_lenL (SqL.of c3) ?_
  walk_at "ev"
  refine ⟨fa, _, rfl, .inr (tf _), ?_⟩
  walk_at "ev"
  refine ifnd (fun z => absurd (by simp only [List.length_map]) z) (fun _ => ?_)
  walk_at "ev"
  refine ⟨fa, lt, rfl, ⟨_, tf _⟩, ⟨_, SqL.of c3⟩, ?_⟩
  refine lc_zip2 (t1 := true) (t2 := false) (xs := ((q0 :: qs).map fun z : Qd => z.1).map V.str) (ys := ((q0 :: qs).map fun z : Qd => z.2.2.1).map V.str) (fun H' _ => tf H') (fun H' s' => SqL.of (s' _ _ c3)) (by simp only [List.length_map]) (by simp only [List.length_map, List.length_cons]; omega) (fun i v => ∃ x, (q0 :: qs)[i]? = some x ∧ v = x.2.2.2) (fun i x y H4 hx hy s4 q' hq => ?_) fun vs H4 s4 hl hv l hl4 => ?_
  · rw [List.getElem?_map, List.getElem?_map] at hx hy
    cases ei : (q0 :: qs)[i]? with
    | none => rw [ei] at hx; cases hx
    | some z =>
      rw [ei] at hx hy
      cases hx
      cases hy
      have oz := ok z (List.mem_of_getElem? ei)
      walk_at "caps"
      walk_at "ev"
      exact ⟨_, _, rfl, hs, _, _, oz.1, oz.2, fun H5 s5 => hq _ _ s5 ⟨z, ei, rfl⟩⟩
  have ev : vs = (q0 :: qs).map (·.2.2.2) := by
    refine List.ext_getElem? fun i => ?_
    rw [List.getElem?_map]
    cases e1 : vs[i]? with
    | none =>
      have := List.getElem?_eq_none_iff.mp e1
      rw [List.getElem?_eq_none (by simp only [List.length_map] at hl; omega)]
      rfl
    | some v =>
      obtain ⟨x, ex, rfl⟩ := hv i v e1
      rw [ex]; rfl
  subst ev
  have s5 := same_new hl4 (.lst ((q0 :: qs).map (·.2.2.2)))
  have c5 : upd H4 l (.lst ((q0 :: qs).map (·.2.2.2))) l = some (.lst ((q0 :: qs).map (·.2.2.2))) := upd_same
  generalize upd H4 l (.lst ((q0 :: qs).map (·.2.2.2))) = H5 at s5 c5 ⊢
  walk_at "ev"
  have fl : ((q0 :: qs).map (·.2.2.2)).all flatV = true := by
    rw [List.all_map, List.all_eq_true]
    exact fun x hx => (ok x hx).1.told.1
  refine ⟨l, _, rfl, .inl (SqL.of c5), rfl, fl, ?_⟩
  rw [if_neg Bool.false_ne_true, inV_no fl (fun x hx => by obtain ⟨y, hy, rfl⟩ := List.mem_map.mp hx; exact (ok y hy).1.told.2)]
  refine ⟨false, rfl, i_iteF ?_⟩
  walk_at "ev"
  exact h l _ (s13.trans (s4.trans s5)) c5
end
theorem nd_take : ∀ {l : List Str} {i : Nat} {y : Str}, l.Nodup → l[i]? = some y → y ∉ l.take i
  | [], _, _, _, h => by cases h
  | _ :: _, 0, _, _, _ => by simp
  | x :: l, i + 1, y, nd, h => by
    rw [List.nodup_cons] at nd
    rw [List.take_succ_cons]
    intro z
    rw [List.getElem?_cons_succ] at h
    rcases List.mem_cons.mp z with e | z
    · exact nd.1 (e ▸ List.mem_of_getElem? h)
    · exact nd_take nd.2 h z
theorem nd_first {l : List Str} {i : Nat} {y : Str} (nd : l.Nodup) (h : l[i]? = some y) : ∀ j, j < i → l[j]? ≠ some y := fun j hj e => by
  refine nd_take nd h ?_
  have : (l.take i)[j]? = some y := by rw [List.getElem?_take_of_lt hj]; exact e
  exact List.mem_of_getElem? this
theorem same_put {H Hx : Hp} {p : Addr} {o : HO} (s : Same H Hx) (hp : H p = none) : Same H (upd Hx p o) := fun b u q => by rw [upd_ne (ne_of_none q hp)]; exact s b u q
theorem Fv.back {hs : List (Str × Int)} {f t : Str} {v d : V} (h : Fv hs f v t d) : (f = fHand ∧ ∃ (k : Nat) (x : Str × Int), hs[k]? = some x ∧ v = .int k ∧ d = .str x.1) ∨ (f ≠ fHand ∧ v = d) := by
  cases h with
  | hand e k => exact .inl ⟨rfl, _, _, e, rfl, rfl⟩
  | num e h0 h1 hm => exact .inr ⟨(fun z => by rw [z, show mostT.lookup fHand = none by decide] at e; cases e), rfl⟩
  | load h0 h1 => exact .inr ⟨by decide, rfl⟩
  | word k => exact .inr ⟨by decide, rfl⟩
def S_with (K : PySem.W.Frag) : Sp := fun vs H Q E => ∃ fa tl k l, vs = [.ref fa, .ref tl, .int k, .ref l] ∧ ∃ (hs : List (Str × Int)) (qs : List Qd), TupG K fa ((qs.map fun z : Qd => z.1).map V.str) ∧ H tl = some (.lst (qs.map fun z : Qd => z.2.2.2)) ∧ HL H l hs ∧ hs.length ≤ 5 ∧ (hs.map (·.1)).Nodup ∧ (∀ q ∈ qs, QOk hs q) ∧ qs.length ≤ 9 ∧ ∀ a H', Same H H' → H' a = some (.lst (qs.map fun z : Qd => z.2.1)) → Q (.ref a) H'
section
variable {K : PySem.W.Frag} {H : Hp} {Q : VK} {E : XK} {n : St → Hp → Prop} {bk ct : St → Hp → Prop}
theorem with_hands_rd {fa tl l : Addr} {k : Int} (q : ∃ (hs : List (Str × Int)) (qs : List Qd), TupG K fa ((qs.map fun z : Qd => z.1).map V.str) ∧ H tl = some (.lst (qs.map fun z : Qd => z.2.2.2)) ∧ HL H l hs ∧ hs.length ≤ 5 ∧ (hs.map (·.1)).Nodup ∧ (∀ q ∈ qs, QOk hs q) ∧ qs.length ≤ 9 ∧ ∀ a H', Same H H' → H' a = some (.lst (qs.map fun z : Qd => z.2.1)) → Q (.ref a) H') : rd_with_hands K S_names ⟨n, Q, bk, ct⟩ [some (.ref fa), some (.ref tl), some (.int k), some (.ref l), none, none, none, none] H := by
  obtain ⟨hs, qs, tf, ht, hl, h5, nd, ok, h9, h⟩ := q
  unfold rd_with_hands
  walk_at "ev"
  refine ⟨l, rfl, hs, hl, h5, fun nm hnm => ?_⟩
  have s1 := same_new hnm (.lst ((hs.map (·.1)).map V.str))
  have c1 : upd H nm (.lst ((hs.map (·.1)).map V.str)) nm = some (.lst ((hs.map (·.1)).map V.str)) := upd_same
  generalize upd H nm (.lst ((hs.map (·.1)).map V.str)) = H1 at s1 c1 ⊢
  walk_at "ev"
  refine ⟨by decide, fun a ha => ?_⟩
  have s2 := same_new ha (.lst [])
  have c2 : upd H1 a (.lst []) a = some (.lst []) := upd_same
  generalize upd H1 a (.lst []) = H2 at s2 c2 ⊢
  walk_at "ev"
  refine ⟨fa, tl, rfl, ⟨_, tf _⟩, ⟨_, SqL.of (s2 _ _ (s1 _ _ ht))⟩, ?_⟩
  refine forZ2 (t1 := true) (t2 := false) ((qs.map fun z : Qd => z.1).map V.str) (qs.map fun z : Qd => z.2.2.2) (by simp only [List.length_map]) (fun i σ Hx => ∃ v6 v7, σ = [some (.ref fa), some (.ref tl), some (.int k), some (.ref l), some (.ref nm), some (.ref a), v6, v7] ∧ Same H1 Hx ∧ Hx a = some (.lst ((qs.take i).map fun z : Qd => z.2.1))) ⟨none, none, rfl, s2, c2⟩ (fun i σ Hx _ ⟨_, _, _, s, _⟩ => ⟨tf Hx, SqL.of (s _ _ (s1 _ _ ht))⟩) ?_ ?_
  · rintro i x y tp σ Hx hx hy ⟨v6, v7, rfl, sx, cx⟩ htp
    rw [List.getElem?_map, List.getElem?_map] at hx
    rw [List.getElem?_map] at hy
    cases ei : qs[i]? with
    | none => rw [ei] at hx; cases hx
    | some z =>
      rw [ei] at hx hy
      cases hx
      cases hy
      have oz := ok z (List.mem_of_getElem? ei)
      have et : qs.take (i + 1) = qs.take i ++ [z] := by rw [List.take_add_one, ei]; rfl
      have s3 := same_new htp (.tup [.str z.1, z.2.2.2])
      have c3 : upd Hx tp (.tup [.str z.1, z.2.2.2]) tp = some (.tup [.str z.1, z.2.2.2]) := upd_same
      generalize upd Hx tp (.tup [.str z.1, z.2.2.2]) = H3 at s3 c3 ⊢
      have hq : qs.length ≤ 1000 := by omega
      have hti : ((qs.take i).map fun z : Qd => z.2.1).length ≤ 1000 := by rw [List.length_map, List.length_take]; omega
      refine ⟨tp, _, rfl, SqT.of c3, rfl, ?_⟩
      refine ⟨_, _, rfl, ?_⟩
      walk_at "ev"
      refine ⟨_, _, rfl, ?_⟩
      walk_at "ev"
      refine ⟨rfl, ?_⟩
      walk_at "ev"
      rcases oz.1.back with ⟨ef, j, x, ej, ev, ed⟩ | ⟨nf, ev⟩
      · have mem : x.1 ∈ hs.map (·.1) := List.mem_map.mpr ⟨x, List.mem_of_getElem? ej, rfl⟩
        have gj : (hs.map (·.1))[j]? = some x.1 := by rw [List.getElem?_map, ej]; rfl
        refine ifd (fun _ => ?_) (fun z => absurd ef z)
        walk_at "ev"
        rw [ed]
        refine ⟨nm, _, rfl, .inl (SqL.of (s3 _ _ (sx _ _ c1))), rfl, flat_str _, ?_⟩
        rw [if_pos rfl, inV_str, decide_eq_true mem]
        refine ⟨_, rfl, ?_⟩
        walk_at "ev"
        refine ⟨.inl ⟨rfl, _, SqL.of (s3 _ _ cx)⟩, ?_⟩
        walk_at "ev"
        refine ifd (fun _ => ?_) (fun z => absurd ef z)
        walk_at "ev"
        refine ⟨.inl ⟨rfl, _, SqL.of (s3 _ _ (sx _ _ c1))⟩, ?_⟩
        walk_at "ev"
        refine ⟨nm, _, _, j, rfl, rfl, SqL.of (s3 _ _ (sx _ _ c1)), gj, nd_first nd gj, ?_⟩
        walk_at "ev"
        refine ⟨a, _, _, rfl, rfl, s3 _ _ cx, Nat.lt_of_le_of_lt hti (by decide), ?_⟩
        walk_at "ev"
        refine ⟨_, _, rfl, same_put (sx.trans s3) ha, ?_⟩
        rw [upd_same, et, List.map_append, ← ev]
        rfl
      · refine ifd (fun z => absurd z nf) (fun _ => ?_)
        walk_at "ev"
        refine ⟨.inl ⟨rfl, _, SqL.of (s3 _ _ cx)⟩, ?_⟩
        walk_at "ev"
        refine ifd (fun z => absurd z nf) (fun _ => ?_)
        walk_at "ev"
        refine ⟨a, _, _, rfl, rfl, s3 _ _ cx, Nat.lt_of_le_of_lt hti (by decide), ?_⟩
        walk_at "ev"
        refine ⟨_, _, rfl, same_put (sx.trans s3) ha, ?_⟩
        rw [upd_same, et, List.map_append, ← ev]
        rfl
  · rintro σ Hx ⟨v6, v7, rfl, sx, cx⟩
    simp only [List.length_map] at cx
    rw [List.take_length] at cx
    walk_at "ev"
    exact h a _ (s1.trans sx) cx
end
def fSlot : Str := "slot"
def SlOk (hs : List (Str × Int)) : Nat → List Qd → Prop
  | _, [] => True
  | o, q :: r => (q.1 = fHand ∧ ∃ h : Nat, q.2.1 = .int h ∧ SlOk hs h r) ∨ (q.1 ≠ fHand ∧ SlOk hs o r ∧ (q.1 = fSlot → ∃ (m : Int) (x : Str × Int), q.2.1 = .int m ∧ hs[o]? = some x ∧ m < x.2))
def S_look (K : PySem.W.Frag) : Sp := fun vs H Q E => ∃ fa vl k l, vs = [.ref fa, .ref vl, .int k, .ref l] ∧ ∃ (hs : List (Str × Int)) (qs : List Qd), TupG K fa ((qs.map fun z : Qd => z.1).map V.str) ∧ H vl = some (.lst (qs.map fun z : Qd => z.2.1)) ∧ HL H l hs ∧ SlOk hs 0 qs ∧ ∀ H', Same H H' → Q .non H'
def S_sweepin : Sp := fun vs H Q E => ∃ p, vs = [.ref p] ∧ ∃ m : Int, H p = some (.lst ([sweepS, tS m].map V.str)) ∧ 1 ≤ m ∧ m ≤ 9999 ∧ ∀ a H', Same H H' → H' a = some (.tup [.str sweepS, .int m]) → Q (.ref a) H'
section
variable {K : PySem.W.Frag} {H : Hp} {Q : VK} {E : XK} {n : St → Hp → Prop} {bk ct : St → Hp → Prop}
theorem look_at_slots_rd {fa vl l : Addr} {k : Int} (q : ∃ (hs : List (Str × Int)) (qs : List Qd), TupG K fa ((qs.map fun z : Qd => z.1).map V.str) ∧ H vl = some (.lst (qs.map fun z : Qd => z.2.1)) ∧ HL H l hs ∧ SlOk hs 0 qs ∧ ∀ H', Same H H' → Q .non H') : rd_look_at_slots K ⟨fun _ H' => Q .non H', Q, bk, ct⟩ [some (.ref fa), some (.ref vl), some (.int k), some (.ref l), none, none, none] H := by
  obtain ⟨hs, qs, tf, hv, hl, so, h⟩ := q
  unfold rd_look_at_slots
  walk_at "ev"
  refine ⟨fa, vl, rfl, ⟨_, tf _⟩, ⟨_, SqL.of hv⟩, ?_⟩
  refine forZ2 (t1 := true) (t2 := false) ((qs.map fun z : Qd => z.1).map V.str) (qs.map fun z : Qd => z.2.1) (by simp only [List.length_map]) (fun i σ Hx => ∃ (o : Nat) (v5 v6 : Option V), σ = [some (.ref fa), some (.ref vl), some (.int k), some (.ref l), some (.int o), v5, v6] ∧ Same H Hx ∧ SlOk hs o (qs.drop i)) ⟨0, none, none, rfl, Same.refl _, so⟩ (fun i σ Hx _ ⟨_, _, _, _, s, _⟩ => ⟨tf Hx, SqL.of (s _ _ hv)⟩) ?_ ?_
  · rintro i x y tp σ Hx hx hy ⟨o, v5, v6, rfl, sx, sl⟩ htp
    rw [List.getElem?_map, List.getElem?_map] at hx
    rw [List.getElem?_map] at hy
    cases ei : qs[i]? with
    | none => rw [ei] at hx; cases hx
    | some z =>
      rw [ei] at hx hy
      cases hx
      cases hy
      have hi := (List.getElem?_eq_some_iff.mp ei).1
      have ed : qs.drop i = z :: qs.drop (i + 1) := by
        rw [List.drop_eq_getElem_cons hi]
        congr 1
        exact (List.getElem?_eq_some_iff.mp ei).2
      rw [ed] at sl
      have s3 := same_new htp (.tup [.str z.1, z.2.1])
      have c3 : upd Hx tp (.tup [.str z.1, z.2.1]) tp = some (.tup [.str z.1, z.2.1]) := upd_same
      generalize upd Hx tp (.tup [.str z.1, z.2.1]) = H3 at s3 c3 ⊢
      refine ⟨tp, _, rfl, SqT.of c3, rfl, ?_⟩
      refine ⟨_, _, rfl, ?_⟩
      walk_at "ev"
      refine ⟨_, _, rfl, ?_⟩
      walk_at "ev"
      refine ⟨rfl, ?_⟩
      walk_at "ev"
      rcases sl with ⟨ef, j, ev, sl⟩ | ⟨nf, sl, hsl⟩
      · refine ifd (fun _ => ?_) (fun z => absurd ef z)
        walk_at "ev"
        refine ifd (fun e => absurd (ef.symm.trans e) (by decide)) (fun _ => ?_)
        walk_at "ev"
        exact ⟨j, _, _, by rw [ev], sx.trans s3, sl⟩
      · refine ifd (fun z => absurd z nf) (fun _ => ?_)
        walk_at "ev"
        refine ifd (fun e => ?_) (fun _ => ?_)
        · obtain ⟨m, x, em, ex, lt⟩ := hsl e
          obtain ⟨as, g1, g2, g3⟩ := hl
          have ho := (List.getElem?_eq_some_iff.mp ex).1
          have ao : as[o]? = some (as[o]'(by omega)) := List.getElem?_eq_getElem (by omega)
          obtain ⟨x', ex', ax⟩ := g3 o _ ao
          rw [ex] at ex'
          cases ex'
          rw [em]
          walk_at "ev"
          refine i_ixL (SqL.of (s3 _ _ (sx _ _ g1))) (atI_nat (by rw [List.getElem?_map, ao]; rfl)) ?_
          walk_at "ev"
          refine ⟨_, _, 1, _, rfl, rfl, SqT.of (s3 _ _ (sx _ _ ax)), rfl, ?_⟩
          walk_at "ev"
          refine ifd (fun z => absurd z (by omega)) (fun _ => ?_)
          walk_at "ev"
          exact ⟨o, _, _, rfl, sx.trans s3, sl⟩
        · walk_at "ev"
          exact ⟨o, _, _, rfl, sx.trans s3, sl⟩
  · rintro σ Hx ⟨o, v5, v6, rfl, sx, _⟩
    exact h _ sx
theorem sweep_in_rd {p : Addr} (q : ∃ m : Int, H p = some (.lst ([sweepS, tS m].map V.str)) ∧ 1 ≤ m ∧ m ≤ 9999 ∧ ∀ a H', Same H H' → H' a = some (.tup [.str sweepS, .int m]) → Q (.ref a) H') : rd_sweep_in K S_btw ⟨n, Q, bk, ct⟩ [some (.ref p), none] H := by
  obtain ⟨m, hp, m0, m1, h⟩ := q
  have hm : m < 10 ^ 60 := Int.lt_of_le_of_lt m1 (by decide)
  have lm := tS_len (i := m) (by omega) hm
  unfold rd_sweep_in
  walk_at "ev"
  refine i_lenL (SqL.of hp) ?_
  walk_at "ev"
  refine ifnd (fun z => absurd rfl z) (fun _ => ?_)
  walk_at "ev"
  refine i_ixL (SqL.of hp) (atI_int (by decide) rfl) ?_
  walk_at "ev"
  refine ⟨tS m, _, _, rfl, by omega, m, valO_tS (by omega) hm, m0, m1, fun H1 s1 => ?_⟩
  walk_at "ev"
  refine ⟨by show 2 ≤ _; decide, fun tp htp => ?_⟩
  exact h tp _ (s1.trans (same_new htp _)) upd_same
end
inductive WRow
  | sw (m : Int)
  | dd (w : Str) (q : Qd) (qs : List Qd)
def partsOf : WRow → List Str
  | .sw m => [sweepS, tS m]
  | .dd w q qs => q.2.2.1 :: w :: qs.map fun z : Qd => z.2.2.1
def valsOf : WRow → List V
  | .sw m => [.str sweepS, .int m]
  | .dd w q qs => .str w :: (q :: qs).map fun z : Qd => z.2.1
def WOk (hs : List (Str × Int)) : WRow → Prop
  | .sw m => 1 ≤ m ∧ m ≤ 9999
  | .dd w q qs => q.1 = fHand ∧ (w, (q :: qs).map fun z : Qd => z.1) ∈ frms ∧ (∀ x ∈ q :: qs, QOk hs x) ∧ SlOk hs 0 (q :: qs) ∧ qs.length ≤ 8
theorem Fv.nm {hs : List (Str × Int)} {f t : Str} {v d : V} (h : Fv hs f v t d) (e : f = fHand) : nmOk t := by
  cases h with
  | hand _ k => exact k
  | num e2 => rw [e, show mostT.lookup fHand = none by decide] at e2; cases e2
  | load => exact absurd e (by decide)
  | word => exact absurd e (by decide)
def S_wrow : Sp := fun vs H Q E => ∃ p k l, vs = [.ref p, .int k, .ref l] ∧ ∃ (hs : List (Str × Int)) (r : WRow), H p = some (.lst ((partsOf r).map V.str)) ∧ HL H l hs ∧ hs.length ≤ 5 ∧ (hs.map (·.1)).Nodup ∧ WOk hs r ∧ ∀ a H', Same H H' → H' a = some (.tup (valsOf r)) → Q (.ref a) H'
section
variable {K : PySem.W.Frag} {H : Hp} {Q : VK} {E : XK} {n : St → Hp → Prop} {bk ct : St → Hp → Prop}
theorem weave_row_rd {p l : Addr} {k : Int} (q : ∃ (hs : List (Str × Int)) (r : WRow), H p = some (.lst ((partsOf r).map V.str)) ∧ HL H l hs ∧ hs.length ≤ 5 ∧ (hs.map (·.1)).Nodup ∧ WOk hs r ∧ ∀ a H', Same H H' → H' a = some (.tup (valsOf r)) → Q (.ref a) H') : rd_weave_row K (S_forms K) (S_look K) S_sweepin S_told S_well (S_with K) ⟨n, Q, bk, ct⟩ [some (.ref p), some (.int k), some (.ref l), none, none, none] H := by
  obtain ⟨hs, r, hp, hl, h5, nd, ok, h⟩ := q
  unfold rd_weave_row
  cases r with
  | sw m =>
    walk_at "ev"
    refine i_ixL (SqL.of hp) (atI_int (by decide) rfl) ?_
    walk_at "ev"
    refine ifd (fun _ => ?_) (fun z => absurd rfl z)
    walk_at "ev"
    refine ⟨p, rfl, m, hp, ok.1, ok.2, fun a H1 s1 ha => ?_⟩
    walk_at "ev"
    exact ⟨_, k, rfl, by simp, h a _ s1 ha⟩
  | dd w q0 qs =>
    obtain ⟨ef, hm, okq, so, h8⟩ := ok
    have nk := (okq q0 List.mem_cons_self).1.nm ef
    walk_at "ev"
    refine i_ixL (SqL.of hp) (atI_int (by decide) rfl) ?_
    walk_at "ev"
    refine ifd (fun z => absurd z nk.2) (fun _ => ?_)
    walk_at "ev"
    refine ⟨p, rfl, hs, w, q0, qs, hp, hm, h8, okq, fun tl H1 s1 ht => ?_⟩
    walk_at "ev"
    refine ⟨_, k, rfl, by simp, ?_⟩
    walk_at "ev"
    refine i_ixL (SqL.of (s1 _ _ hp)) (atI_int (by decide) rfl) ?_
    walk_at "ev"
    refine ⟨w, rfl, _, hm, fun fa tf => ?_⟩
    walk_at "ev"
    refine ⟨fa, tl, k, l, rfl, hs, q0 :: qs, tf, ht, hl.same s1, h5, nd, okq, by rw [List.length_cons]; omega, fun vl H2 s2 hv => ?_⟩
    walk_at "ev"
    refine ⟨fa, vl, k, l, rfl, hs, q0 :: qs, tf, hv, hl.same (s1.trans s2), so, fun H3 s3 => ?_⟩
    have s13 := s1.trans (s2.trans s3)
    walk_at "ev"
    refine i_ixL (SqL.of (s13 _ _ hp)) (atI_int (by decide) rfl) ?_
    walk_at "ev"
    refine ⟨by show 1 ≤ _; decide, fun lw hlw => ?_⟩
    have s4 := same_new hlw (.lst [.str w])
    have c4 : upd H3 lw (.lst [.str w]) lw = some (.lst [.str w]) := upd_same
    generalize upd H3 lw (.lst [.str w]) = H4 at s4 c4 ⊢
    walk_at "ev"
    refine ⟨lw, vl, _, _, rfl, rfl, c4, s4 _ _ (s3 _ _ hv), len_ok (by rw [List.length_map, List.length_cons (as := qs)]; show 1 + _ ≤ _; omega), fun lc hlc => ?_⟩
    have s5 := same_new hlc (.lst ([.str w] ++ (q0 :: qs).map fun z : Qd => z.2.1))
    walk_at "ev"
    refine ⟨lc, _, rfl, .inl ⟨SqL.of upd_same, fun tp htp => ?_⟩⟩
    exact h tp _ (s13.trans (s4.trans (s5.trans (same_new htp _)))) upd_same
end
def rowT (r : WRow) : Str := Str.join ⟨#[32]⟩ (partsOf r)
theorem frms_free : ∀ x ∈ frms, 32 ∉ x.1.cps.toList ∧ 10 ∉ x.1.cps.toList ∧ x.1.length ≤ 100 := by decide
theorem word_let {t : Str} (h : wordB t letters 12 = true) : t.length ≤ 12 ∧ ∀ c ∈ t.cps.toList, 97 ≤ c ∧ c ≤ 122 := by
  unfold wordB at h
  rw [Bool.and_eq_true, Bool.and_eq_true] at h
  have h2 := of_decide_eq_true h.2.1
  refine ⟨by omega, fun c hc => ?_⟩
  have := List.all_eq_true.mp h.2.2 c hc
  exact let_ok c (of_decide_eq_true this)
theorem Fv.free {hs : List (Str × Int)} {f t : Str} {v d : V} (h : Fv hs f v t d) (k : Nat) (hk : k = 32 ∨ k = 10) : k ∉ t.cps.toList := by
  cases h with
  | hand _ n => exact n.free k (by omega)
  | num => exact tS_free k (by omega) _
  | load => exact tS_free k (by omega) _
  | word w => exact fun z => by have := (word_let w).2 k z; omega
theorem WOk.free {hs : List (Str × Int)} {r : WRow} (h : WOk hs r) (k : Nat) (hk : k = 32 ∨ k = 10) : ∀ p ∈ partsOf r, k ∉ p.cps.toList := by
  cases r with
  | sw m =>
    intro p hp
    rcases List.mem_cons.mp hp with rfl | hp
    · rcases hk with rfl | rfl <;> decide
    · rw [List.mem_singleton.mp hp]; exact tS_free k (by omega) m
  | dd w q qs =>
    obtain ⟨ef, hm, okq, so, h8⟩ := h
    intro p hp
    rcases List.mem_cons.mp hp with rfl | hp
    · exact (okq q List.mem_cons_self).1.free k hk
    rcases List.mem_cons.mp hp with rfl | hp
    · rcases hk with rfl | rfl
      · exact (frms_free _ hm).1
      · exact (frms_free _ hm).2.1
    · obtain ⟨z, hz, rfl⟩ := List.mem_map.mp hp
      exact (okq z (List.mem_cons_of_mem _ hz)).1.free k hk
theorem parts_ne (r : WRow) : partsOf r ≠ [] := by cases r <;> simp [partsOf]
theorem WOk.split {hs : List (Str × Int)} {r : WRow} (h : WOk hs r) : Txt.split (rowT r) ⟨#[32]⟩ = partsOf r := split_join (parts_ne r) (h.free 32 (.inl rfl))
theorem sum_le : ∀ {ps : List Str}, (∀ p ∈ ps, p.length ≤ 100) → (ps.map (·.length)).sum ≤ 100 * ps.length
  | [], _ => Nat.zero_le _
  | p :: ps, h => by
    have := sum_le (ps := ps) (fun q hq => h q (List.mem_cons_of_mem _ hq))
    have := h p List.mem_cons_self
    rw [List.map_cons, List.sum_cons, List.length_cons]
    omega
theorem WOk.len {hs : List (Str × Int)} {r : WRow} (h : WOk hs r) : (rowT r).length ≤ 2000 := by
  have e : (rowT r).length + 1 = ((partsOf r).map (·.length)).sum + (partsOf r).length := by
    unfold rowT
    rw [← jl_len 32 (parts_ne r), ← join_jl, str_len]
  have b : (∀ p ∈ partsOf r, p.length ≤ 100) ∧ (partsOf r).length ≤ 10 := by
    cases r with
    | sw m =>
      refine ⟨fun p hp => ?_, by show 2 ≤ 10; decide⟩
      rcases List.mem_cons.mp hp with rfl | hp
      · decide
      · rw [List.mem_singleton.mp hp]
        have := tS_len (i := m) (by have := h.1; omega) (Int.lt_of_le_of_lt h.2 (by decide))
        omega
    | dd w q qs =>
      obtain ⟨ef, hm, okq, so, h8⟩ := h
      refine ⟨fun p hp => ?_, by show (qs.map _).length + 1 + 1 ≤ 10; rw [List.length_map]; omega⟩
      rcases List.mem_cons.mp hp with rfl | hp
      · exact (okq q List.mem_cons_self).2
      rcases List.mem_cons.mp hp with rfl | hp
      · exact (frms_free _ hm).2.2
      · obtain ⟨z, hz, rfl⟩ := List.mem_map.mp hp
        exact (okq z (List.mem_cons_of_mem _ hz)).2
  have := sum_le b.1
  omega
def RL (H : Hp) (l : Addr) (rs : List WRow) : Prop := ∃ as : List Addr, H l = some (.lst (as.map V.ref)) ∧ as.length = rs.length ∧ ∀ (i : Nat) a, as[i]? = some a → ∃ r, rs[i]? = some r ∧ H a = some (.tup (valsOf r))
theorem RL.add {Hx : Hp} {l b : Addr} {rs : List WRow} {r : WRow} {as : List Addr} (h1 : Hx l = some (.lst (as.map V.ref))) (h2 : as.length = rs.length) (h3 : ∀ (i : Nat) a, as[i]? = some a → ∃ r, rs[i]? = some r ∧ Hx a = some (.tup (valsOf r))) (hb : Hx b = some (.tup (valsOf r))) : RL (upd Hx l (.lst (as.map V.ref ++ [.ref b]))) l (rs ++ [r]) := by
  have nt : ∀ {c : Addr} {xs : List V}, Hx c = some (.tup xs) → c ≠ l := fun hc e => by rw [e, h1] at hc; cases hc
  refine ⟨as ++ [b], by rw [upd_same, List.map_append]; rfl, by rw [List.length_append, List.length_append, h2]; rfl, fun i a ha => ?_⟩
  by_cases hi : i < as.length
  · rw [List.getElem?_append_left hi] at ha
    obtain ⟨y, ey, hy⟩ := h3 i a ha
    exact ⟨y, by rw [List.getElem?_append_left (by omega)]; exact ey, by rw [upd_ne (nt hy)]; exact hy⟩
  · rw [List.getElem?_append_right (by omega)] at ha
    have hi2 : i - as.length = 0 := by
      have := (List.getElem?_eq_some_iff.mp ha).1
      simp at this
      omega
    rw [hi2] at ha
    cases ha
    refine ⟨r, ?_, by rw [upd_ne (nt hb)]; exact hb⟩
    rw [List.getElem?_append_right (by omega), ← h2, hi2]; rfl
def S_weave : Sp := fun vs H Q E => ∃ a k l, vs = [.ref a, .int k, .ref l] ∧ ∃ (hs : List (Str × Int)) (pr : List Str) (rs : List WRow), H a = some (.lst ((pr ++ rs.map rowT).map V.str)) ∧ pr.length ≤ 100 ∧ rs.length ≤ 100 ∧ k = pr.length + 1 ∧ HL H l hs ∧ hs.length ≤ 5 ∧ (hs.map (·.1)).Nodup ∧ (∀ r ∈ rs, WOk hs r) ∧ ∀ p H', Same H H' → RL H' p rs → Q (.ref p) H'
section
variable {K : PySem.W.Frag} {H : Hp} {Q : VK} {E : XK} {n : St → Hp → Prop} {bk ct : St → Hp → Prop}
theorem weave_of_rd {a l : Addr} {k : Int} (q : ∃ (hs : List (Str × Int)) (pr : List Str) (rs : List WRow), H a = some (.lst ((pr ++ rs.map rowT).map V.str)) ∧ pr.length ≤ 100 ∧ rs.length ≤ 100 ∧ k = pr.length + 1 ∧ HL H l hs ∧ hs.length ≤ 5 ∧ (hs.map (·.1)).Nodup ∧ (∀ r ∈ rs, WOk hs r) ∧ ∀ p H', Same H H' → RL H' p rs → Q (.ref p) H') : rd_weave_of K S_wrow ⟨n, Q, bk, ct⟩ [some (.ref a), some (.int k), some (.ref l), none, none] H := by
  obtain ⟨hs, pr, rs, ha, lp, lr, rfl, hl, h5, nd, ok, h⟩ := q
  unfold rd_weave_of
  walk_at "ev"
  refine ⟨by decide, fun w hw => ?_⟩
  have s1 := same_new hw (.lst [])
  have c1 : upd H w (.lst []) w = some (.lst []) := upd_same
  generalize upd H w (.lst []) = H1 at s1 c1 ⊢
  walk_at "ev"
  unfold iRng2
  walk_at "ev"
  refine i_lenL (SqL.of (s1 _ _ ha)) ?_
  walk_at "ev"
  rw [List.length_map, List.length_append, List.length_map]
  refine ⟨_, _, rfl, ⟨by omega, by omega, by omega, by omega⟩, ?_⟩
  rw [show (((pr.length + rs.length : Nat) : Int) + 1 - ((pr.length : Int) + 1)).toNat = rs.length from by omega]
  refine forR (fun i σ Hx => ∃ v4, σ = [some (.ref a), some (.int ((pr.length : Int) + 1)), some (.ref l), some (.ref w), v4] ∧ Same H Hx ∧ RL Hx w (rs.take i)) ⟨none, rfl, s1, [], c1, rfl, fun i a h => by cases h⟩ ?_ ?_
  · rintro i σ Hx hi ⟨v4, rfl, sx, rl⟩
    obtain ⟨as, g1, g2, g3⟩ := rl
    have gl : as.length = i := by rw [g2, List.length_take]; omega
    have ri : rs[i]? = some rs[i] := List.getElem?_eq_getElem hi
    have oi := ok _ (List.getElem_mem hi)
    have li := oi.len
    have et : rs.take (i + 1) = rs.take i ++ [rs[i]] := by rw [List.take_add_one, ri]; rfl
    walk_at "ev"
    refine i_lenL (SqL.of g1) ?_
    walk_at "ev"
    rw [List.length_map, gl]
    refine ifd (fun z => absurd z (by omega)) (fun _ => ?_)
    walk_at "ev"
    refine ⟨.inl ⟨rfl, _, SqL.of g1⟩, ?_⟩
    walk_at "ev"
    refine i_ixL (v := .str (rowT rs[i])) (SqL.of (sx _ _ ha)) (atI_int (by omega) (by rw [show ((pr.length : Int) + 1 + (i : Int) - 1).toNat = pr.length + i from by omega, List.getElem?_map, List.getElem?_append_right (by omega), Nat.add_sub_cancel_left, List.getElem?_map, ri]; rfl)) ?_
    walk_at "ev"
    refine ⟨_, _, rfl, rfl, by decide, by omega, fun p hp => ?_⟩
    rw [show Txt.split (rowT rs[i]) " " = partsOf rs[i] from oi.split]
    have s2 := same_new hp (.lst ((partsOf rs[i]).map V.str))
    walk_at "ev"
    refine ⟨p, _, l, rfl, hs, rs[i], upd_same, hl.same (sx.trans s2), h5, nd, oi, fun tp H3 s3 ht => ?_⟩
    have s23 := s2.trans s3
    walk_at "ev"
    refine ⟨w, _, _, rfl, rfl, s23 _ _ g1, by rw [List.length_map, sizeLine_eq]; omega, ?_⟩
    walk_at "ev"
    refine ⟨_, rfl, same_put (sx.trans s23) hw, ?_⟩
    rw [et]
    exact RL.add (s23 _ _ g1) g2 (fun j c hc => let ⟨x, e1, e2⟩ := g3 j c hc; ⟨x, e1, s23 _ _ e2⟩) ht
  · rintro σ Hx ⟨v4, rfl, sx, rl⟩
    rw [List.take_length] at rl
    walk_at "ev"
    exact h w _ sx rl
end
theorem row_app {l ws : List Str} {i : Nat} {x : Str} (h : l[i]? = some x) : (l ++ ws)[i]? = some x := by
  rw [List.getElem?_append_left (List.getElem?_eq_some_iff.mp h).1]; exact h
def S_handsof : Sp := fun vs H Q E => ∃ a, vs = [.ref a] ∧ ∃ m w t hs ws, H a = some (.lst ((rowsT m w t hs ++ ws).map V.str)) ∧ HOk hs ∧ ∀ l H', Same H H' → HL H' l hs → Q (.ref l) H'
theorem jl_free {c : Nat} (hc : c ≠ 32) : ∀ {ps : List Str}, (∀ p ∈ ps, c ∉ p.cps.toList) → c ∉ jl 32 ps
  | [], _ => by simp [jl]
  | [x], h => h x List.mem_cons_self
  | x :: y :: r, h => by
    have ih := jl_free hc (ps := y :: r) (fun p hp => h p (List.mem_cons_of_mem _ hp))
    show c ∉ x.cps.toList ++ 32 :: jl 32 (y :: r)
    intro z
    rcases List.mem_append.mp z with z | z
    · exact h x List.mem_cons_self z
    · rcases List.mem_cons.mp z with z | z
      · exact hc z
      · exact ih z
theorem WOk.nl {hs : List (Str × Int)} {r : WRow} (h : WOk hs r) : 10 ∉ (rowT r).cps.toList := by
  unfold rowT
  rw [join_jl]
  exact jl_free (by decide) (h.free 10 (.inr rfl))
theorem row_hand {m w t : Int} {hs : List (Str × Int)} {i : Nat} {x : Str × Int} (h : hs[i]? = some x) : (rowsT m w t hs)[i + 2]? = some (hdT x) := by
  unfold rowsT
  rw [List.getElem?_cons_succ, List.getElem?_cons_succ, List.getElem?_append_left (by rw [List.length_map]; exact (List.getElem?_eq_some_iff.mp h).1), List.getElem?_map, h]
  rfl
theorem row_weave {m w t : Int} {hs : List (Str × Int)} : (rowsT m w t hs)[hs.length + 2]? = some ("weave" : Str) := by
  unfold rowsT
  rw [List.getElem?_cons_succ, List.getElem?_cons_succ, List.getElem?_append_right (by rw [List.length_map]; exact Nat.le_refl _), List.length_map, Nat.sub_self]
  rfl
theorem hdT_weave (x : Str × Int) : hdT x ≠ ("weave" : Str) := fun e => by
  have e := congrArg (fun z : Str => z.cps.toList.head?) e
  unfold hdT at e
  simp only [app_cps, List.append_assoc] at e
  have : some 104 = some 119 := e
  cases this
theorem HL.add {H Hx : Hp} {l b : Addr} {hs : List (Str × Int)} {x : Str × Int} {as : List Addr} (h1 : Hx l = some (.lst (as.map V.ref))) (h2 : as.length = hs.length) (h3 : ∀ (i : Nat) a, as[i]? = some a → ∃ x, hs[i]? = some x ∧ Hx a = some (.tup [.str x.1, .int x.2])) (hb : Hx b = some (.tup [.str x.1, .int x.2])) : HL (upd Hx l (.lst (as.map V.ref ++ [.ref b]))) l (hs ++ [x]) := by
  have nt : ∀ {c : Addr} {xs : List V}, Hx c = some (.tup xs) → c ≠ l := fun hc e => by rw [e, h1] at hc; cases hc
  refine ⟨as ++ [b], by rw [upd_same, List.map_append]; rfl, by rw [List.length_append, List.length_append, h2]; rfl, fun i a ha => ?_⟩
  by_cases hi : i < as.length
  · rw [List.getElem?_append_left hi] at ha
    obtain ⟨y, ey, hy⟩ := h3 i a ha
    exact ⟨y, by rw [List.getElem?_append_left (by omega)]; exact ey, by rw [upd_ne (nt hy)]; exact hy⟩
  · rw [List.getElem?_append_right (by omega)] at ha
    have hi2 : i - as.length = 0 := by
      have := (List.getElem?_eq_some_iff.mp ha).1
      simp at this
      omega
    rw [hi2] at ha
    cases ha
    refine ⟨x, ?_, by rw [upd_ne (nt hb)]; exact hb⟩
    rw [List.getElem?_append_right (by omega), ← h2, hi2]; rfl
section
variable {K : PySem.W.Frag} {C_First C_Each C_Last C_Kind C_Scene C_FORMS_copy C_FORMS_drop C_FORMS_get C_FORMS_give C_FORMS_make C_FORMS_name C_FORMS_put C_FORMS_read C_FORMS_seek C_FORMS_write : Addr} {H : Hp} {Q : VK} {E : XK} {n : St → Hp → Prop} {bk ct : St → Hp → Prop}
theorem hands_of_rd {a : Addr} (q : ∃ m w t hs ws, H a = some (.lst ((rowsT m w t hs ++ ws).map V.str)) ∧ HOk hs ∧ ∀ l H', Same H H' → HL H' l hs → Q (.ref l) H') : rd_hands_of K S_handof S_rowat ⟨n, Q, bk, ct⟩ [some (.ref a), none, none] H := by
  obtain ⟨m, w, t, hs, ws, ha, ok, h⟩ := q
  obtain ⟨k1, k5, nd, hx⟩ := ok
  unfold rd_hands_of
  walk_at "ev"
  refine ⟨by decide, fun e he => ?_⟩
  have s1 := same_new he (.lst [])
  have c1 : upd H e (.lst []) e = some (.lst []) := upd_same
  generalize upd H e (.lst []) = H1 at s1 c1 ⊢
  walk_at "ev"
  have x0 : hs[0]? = some hs[0] := List.getElem?_eq_getElem k1
  have b0 := hx _ (List.getElem_mem k1)
  refine ⟨a, 3, e, rfl, _, hs[0], [], s1 _ _ ha, by decide, row_app (row_hand x0), b0.1, b0.2.1, b0.2.2, ⟨[], c1, rfl, fun i a h => by cases h⟩, by decide, by simp, fun b H2 s2 hb => ?_⟩
  walk_at "ev"
  refine ⟨by show 1 ≤ _; decide, fun l hl => ?_⟩
  have s3 := same_new hl (.lst [.ref b])
  have c3 : upd H2 l (.lst [.ref b]) l = some (.lst [.ref b]) := upd_same
  have hl0 : H l = none := s1.free (s2.free hl)
  generalize upd H2 l (.lst [.ref b]) = H3 at s3 c3 ⊢
  walk_at "ev"
  refine ⟨fun k σ Hx => ∃ i, k = hs.length - i ∧ 1 ≤ i ∧ i ≤ hs.length ∧ σ = [some (.ref a), some (.ref l), some (.int (3 + (i : Int)))] ∧ Same H Hx ∧ HL Hx l (hs.take i), ⟨_, 1, rfl, Nat.le_refl _, k1, rfl, s1.trans (s2.trans s3), [b], c3, by rw [List.length_take]; show 1 = _; omega, fun i c hc => ?_⟩, ?_⟩
  · match i, hc with
    | 0, hc =>
      cases hc
      refine ⟨hs[0], ?_, s3 _ _ hb⟩
      rw [List.getElem?_take_of_lt (by decide)]
      exact x0
    | i + 1, hc => cases hc
  rintro k σ Hx ⟨i, rfl, i1, il, rfl, sx, hlx⟩
  obtain ⟨as, g1, g2, g3⟩ := id hlx
  have gl : as.length = i := by rw [g2, List.length_take]; omega
  walk_at "ev"
  have hidx : ((3 + (i : Int)) - 1).toNat = i + 2 := by omega
  by_cases hi : i < hs.length
  · have xi : hs[i]? = some hs[i] := List.getElem?_eq_getElem hi
    have bi := hx _ (List.getElem_mem hi)
    refine ⟨a, _, rfl, _, hdT hs[i], sx _ _ ha, by omega, by rw [hidx]; exact row_app (row_hand xi), ?_⟩
    walk_at "ev"
    refine ifnd (fun _ => ?_) (fun z => absurd z (hdT_weave _))
    refine ⟨fun σ' H' => ∃ m', m' < hs.length - i ∧ ∃ i, m' = hs.length - i ∧ 1 ≤ i ∧ i ≤ hs.length ∧ σ' = [some (.ref a), some (.ref l), some (.int (3 + (i : Int)))] ∧ Same H H' ∧ HL H' l (hs.take i), fun σ' H' z => z, ?_⟩
    walk_at "ev"
    refine i_lenL (SqL.of g1) ?_
    walk_at "ev"
    rw [List.length_map, gl]
    refine ifd (fun z => absurd z (by omega)) (fun _ => ?_)
    walk_at "ev"
    refine ⟨.inl ⟨rfl, _, SqL.of g1⟩, ?_⟩
    walk_at "ev"
    refine ⟨a, _, l, rfl, _, hs[i], hs.take i, sx _ _ ha, by omega, by rw [hidx]; exact row_app (row_hand xi), bi.1, bi.2.1, bi.2.2, hlx, by rw [List.length_take]; omega, ?_, fun c H4 s4 hc => ?_⟩
    · rw [List.map_take]
      exact nd_take nd (by rw [List.getElem?_map, xi]; rfl)
    walk_at "ev"
    refine ⟨l, _, _, rfl, rfl, s4 _ _ g1, by rw [List.length_map, sizeLine_eq]; omega, ?_⟩
    walk_at "ev"
    refine ⟨_, Nat.sub_lt_sub_left hi (Nat.lt_succ_self i), i + 1, rfl, by omega, hi, by rw [show (3 : Int) + (i : Int) + 1 = 3 + ((i + 1 : Nat) : Int) from by omega], same_put (sx.trans s4) hl0, ?_⟩
    have et : hs.take (i + 1) = hs.take i ++ [hs[i]] := by rw [List.take_add_one, xi]; rfl
    rw [et]
    exact HL.add (H := H) (s4 _ _ g1) g2 (fun j c hc => let ⟨x, e1, e2⟩ := g3 j c hc; ⟨x, e1, s4 _ _ e2⟩) hc
  · have ei : i = hs.length := by omega
    subst ei
    refine ⟨a, _, rfl, _, ("weave" : Str), sx _ _ ha, by omega, by rw [hidx]; exact row_app row_weave, ?_⟩
    walk_at "ev"
    refine ifnd (fun z => absurd rfl z) (fun _ => ?_)
    walk_at "ev"
    rw [List.take_length] at hlx
    exact h l _ sx hlx
theorem rows_len {m w t : Int} {hs : List (Str × Int)} : (rowsT m w t hs).length = hs.length + 3 := by
  unfold rowsT
  rw [List.length_cons, List.length_cons, List.length_append, List.length_map]; rfl
theorem rows_p {m w t : Int} {hs : List (Str × Int)} (m0 : 0 ≤ m) (m1 : m < 10 ^ 60) (w0 : 0 ≤ w) (w1 : w < 3) (t0 : 0 ≤ t) (t1 : t < 4) (ok : HOk hs) : ∀ p ∈ rowsT m w t hs, p.length ≤ 100 := by
  intro p hp
  have l5 : ("room " : Str).length = 5 := rfl
  have k5 : ("kind " : Str).length = 5 := rfl
  unfold rowsT at hp
  rcases List.mem_cons.mp hp with rfl | hp
  · have := tS_len m0 m1
    rw [app_len]; omega
  rcases List.mem_cons.mp hp with rfl | hp
  · have := (words_ok w0 w1 t0 t1).2
    rw [app_len]; omega
  rcases List.mem_append.mp hp with hp | hp
  · obtain ⟨x, hx, rfl⟩ := List.mem_map.mp hp
    have := ok.2.2.2 x hx
    exact hdT_len this.1 (by omega) (by omega)
  · rw [List.mem_singleton.mp hp]; decide
end
theorem rowsT_free {m w t : Int} {hs : List (Str × Int)} (w0 : 0 ≤ w) (w1 : w < 3) (t0 : 0 ≤ t) (t1 : t < 4) (hk : ∀ x ∈ hs, nmOk x.1) : ∀ p ∈ rowsT m w t hs, 10 ∉ p.cps.toList := by
  have e := rows_split (m := m) w0 w1 t0 t1 hk
  intro p hp
  rw [← e] at hp
  exact StrLaws.split_free _ 10 p hp
theorem rows_all {m w t : Int} {hs : List (Str × Int)} {rs : List WRow} (w0 : 0 ≤ w) (w1 : w < 3) (t0 : 0 ≤ t) (t1 : t < 4) (hk : ∀ x ∈ hs, nmOk x.1) (ho : ∀ r ∈ rs, WOk hs r) : Txt.split (Str.join ⟨#[10]⟩ (rowsT m w t hs ++ rs.map rowT)) ⟨#[10]⟩ = rowsT m w t hs ++ rs.map rowT := by
  refine split_join (by unfold rowsT; simp) (fun p hp => ?_)
  rcases List.mem_append.mp hp with hp | hp
  · exact rowsT_free w0 w1 t0 t1 hk p hp
  · obtain ⟨r, hr, rfl⟩ := List.mem_map.mp hp
    exact (ho r hr).nl
def S_read (CS CK CF CE CL : Addr) : Sp := fun vs H Q E => ∃ z, vs = [.str z] ∧ ∃ m w t hs rs, z = Str.join ⟨#[10]⟩ (rowsT m w t hs ++ rs.map rowT) ∧ 4 ≤ m ∧ m ≤ 1000000000000000 ∧ 0 ≤ w ∧ w < 3 ∧ 0 ≤ t ∧ t < 4 ∧ HOk hs ∧ rs.length ≤ 90 ∧ (∀ r ∈ rs, WOk hs r) ∧ ∀ sc dx kd lk w2 t2 hl rl H', Same H H' → H' sc = some (.ins CS dx (sceneF m kd hl rl)) → KdO CK CF CE CL H' kd lk w2 t2 → 0 ≤ t2 → t2 < 4 → words w t = words w2 t2 → HL H' hl hs → RL H' rl rs → Q (.ref sc) H'
theorem sum2 : ∀ {ps : List Str}, (∀ p ∈ ps, p.length ≤ 2000) → (ps.map (·.length)).sum ≤ 2000 * ps.length
  | [], _ => Nat.zero_le _
  | p :: ps, h => by
    have := sum2 (ps := ps) (fun q hq => h q (List.mem_cons_of_mem _ hq))
    have := h p List.mem_cons_self
    rw [List.map_cons, List.sum_cons, List.length_cons]
    omega
theorem all_sum {m w t : Int} {hs : List (Str × Int)} {rs : List WRow} (m0 : 0 ≤ m) (m1 : m < 10 ^ 60) (w0 : 0 ≤ w) (w1 : w < 3) (t0 : 0 ≤ t) (t1 : t < 4) (ok : HOk hs) (h90 : rs.length ≤ 90) (ho : ∀ r ∈ rs, WOk hs r) : ((rowsT m w t hs ++ rs.map rowT).map (·.length)).sum + (rowsT m w t hs ++ rs.map rowT).length ≤ 300000 := by
  have hp := sum2 (ps := rowsT m w t hs ++ rs.map rowT) (fun p hp => by
    rcases List.mem_append.mp hp with hp | hp
    · exact Nat.le_trans (rows_p m0 m1 w0 w1 t0 t1 ok p hp) (by decide)
    · obtain ⟨r, hr, rfl⟩ := List.mem_map.mp hp
      exact (ho r hr).len)
  have hl := rows_len (m := m) (w := w) (t := t) (hs := hs)
  have h5 := ok.2.1
  have e : (rowsT m w t hs ++ rs.map rowT).length = hs.length + 3 + rs.length := by rw [List.length_append, List.length_map, hl]
  omega
section
variable {K : PySem.W.Frag} {C_First C_Each C_Last C_Kind C_Scene : Addr} {H : Hp} {Q : VK} {E : XK} {n : St → Hp → Prop} {bk ct : St → Hp → Prop}
theorem read_rd {z : Str} (q : ∃ m w t hs rs, z = Str.join ⟨#[10]⟩ (rowsT m w t hs ++ rs.map rowT) ∧ 4 ≤ m ∧ m ≤ 1000000000000000 ∧ 0 ≤ w ∧ w < 3 ∧ 0 ≤ t ∧ t < 4 ∧ HOk hs ∧ rs.length ≤ 90 ∧ (∀ r ∈ rs, WOk hs r) ∧ ∀ sc dx kd lk w2 t2 hl rl H', Same H H' → H' sc = some (.ins C_Scene dx (sceneF m kd hl rl)) → KdO C_Kind C_First C_Each C_Last H' kd lk w2 t2 → 0 ≤ t2 → t2 < 4 → words w t = words w2 t2 → HL H' hl hs → RL H' rl rs → Q (.ref sc) H') :
    rd_read K C_Scene (S_Scene_init C_Scene) S_handsof (S_kindin C_Kind C_First C_Each C_Last) S_room S_rowat S_weave S_well ⟨n, Q, bk, ct⟩ [some (.str z), none, none, none, none, none] H := by
  obtain ⟨m, w, t, hs, rs, rfl, m0, m1, w0, w1, t0, t1, ok, h90, ho, h⟩ := q
  have hm1 : m < 10 ^ 60 := Int.lt_of_le_of_lt m1 (by decide)
  have hp := all_sum (m := m) (by omega) hm1 w0 w1 t0 t1 ok h90 ho
  have hl5 := ok.2.1
  have rl := rows_len (m := m) (w := w) (t := t) (hs := hs)
  have jl1 : (Str.join ⟨#[10]⟩ (rowsT m w t hs ++ rs.map rowT)).length + 1 = ((rowsT m w t hs ++ rs.map rowT).map (·.length)).sum + (rowsT m w t hs ++ rs.map rowT).length := by
    rw [← jl_len 10 (by unfold rowsT; simp), ← join_jl, str_len]
  unfold rd_read
  walk_at "ev"
  refine ⟨_, _, rfl, rfl, by decide, by omega, fun a ha0 => ?_⟩
  rw [show Txt.split (Str.join ⟨#[10]⟩ (rowsT m w t hs ++ rs.map rowT)) "\n" = rowsT m w t hs ++ rs.map rowT from rows_all w0 w1 t0 t1 (fun x hx => (ok.2.2.2 x hx).1) ho]
  have s1 := same_new ha0 (.lst ((rowsT m w t hs ++ rs.map rowT).map V.str))
  have c1 : upd H a (.lst ((rowsT m w t hs ++ rs.map rowT).map V.str)) a = some (.lst ((rowsT m w t hs ++ rs.map rowT).map V.str)) := upd_same
  generalize upd H a (.lst ((rowsT m w t hs ++ rs.map rowT).map V.str)) = H1 at s1 c1 ⊢
  walk_at "ev"
  refine ⟨a, 1, rfl, _, _, c1, by decide, rfl, ?_⟩
  walk_at "ev"
  refine ⟨_, rfl, m, rfl, m0, m1, fun H2 s2 => ?_⟩
  walk_at "ev"
  refine ⟨_, 1, rfl, by simp, ?_⟩
  walk_at "ev"
  refine ⟨a, 2, rfl, _, _, s2 _ _ c1, by decide, rfl, ?_⟩
  walk_at "ev"
  refine ⟨_, rfl, _, rfl, ⟨w, t, w0, w1, t0, t1, rfl⟩, fun w2 t2 kd lk H3 a0 a1 b0 b1 ew s3 k3 => ?_⟩
  walk_at "ev"
  refine ⟨_, 2, rfl, by simp, ?_⟩
  walk_at "ev"
  refine ⟨a, rfl, m, w, t, hs, _, s3 _ _ (s2 _ _ c1), ok, fun l H4 s4 hl4 => ?_⟩
  obtain ⟨as, g1, g2, g3⟩ := id hl4
  walk_at "ev"
  refine i_lenL (SqL.of g1) ?_
  walk_at "ev"
  rw [List.length_map, g2]
  refine ⟨a, _, l, rfl, hs, rowsT m w t hs, rs, s4 _ _ (s3 _ _ (s2 _ _ c1)), by omega, by omega, by omega, hl4, ok.2.1, ok.2.2.1, ho, fun p H5 s5 rl5 => ?_⟩
  obtain ⟨bs, k1, k2, k3'⟩ := id rl5
  walk_at "ev"
  intro x dx nx ndx ne
  have s6 : Same H5 (upd (upd H5 dx (.own x)) x (.ins C_Scene dx [])) := fun b o hb => by rw [upd_ne (ne_of_none hb nx), upd_ne (ne_of_none hb ndx)]; exact hb
  refine ⟨x, m, kd, l, p, rfl, dx, _, _, upd_same, s6 _ _ (s5 _ _ g1), s6 _ _ k1, fun H7 h2 r2 e1 e2 e3 fr => ⟨rfl, ?_⟩⟩
  have s57 : Same H5 H7 := fun b o hb => fr b o (s6 _ _ hb) (ne_of_none hb nx)
  have k7 : KdO C_Kind C_First C_Each C_Last H7 kd lk w2 t2 := by
    have s37 := s4.trans (s5.trans s57)
    obtain ⟨⟨d1, o1⟩, d2, o2⟩ := k3
    refine ⟨⟨d1, s37 _ _ o1⟩, d2, ?_⟩
    rcases o2 with ⟨e, o⟩ | ⟨e, o⟩ | ⟨e, o⟩
    · exact .inl ⟨e, s37 _ _ o⟩
    · exact .inr (.inl ⟨e, s37 _ _ o⟩)
    · exact .inr (.inr ⟨e, s37 _ _ o⟩)
  exact h x dx kd lk w2 t2 h2 r2 H7 (s1.trans (s2.trans (s3.trans (s4.trans (s5.trans s57))))) e1 k7 b0 b1 ew ⟨as, e2, g2, fun i c hc => let ⟨y, q1, q2⟩ := g3 i c hc; ⟨y, q1, s57 _ _ (s5 _ _ q2)⟩⟩ ⟨bs, e3, k2, fun i c hc => let ⟨y, q1, q2⟩ := k3' i c hc; ⟨y, q1, s57 _ _ q2⟩⟩
end
def safeS (t : Str) : Str := if t = sweepS then ("sweeps" : Str) else t
def S_safe : Sp := fun vs H Q E => ∃ t, vs = [.str t] ∧ Q (.str (safeS t)) H
def S_handsby : Sp := fun vs H Q E => ∃ way c, vs = [.int way, .int c] ∧ ∀ l hs H', Same H H' → HL H' l hs → HOk hs → Q (.ref l) H'
def Nm (cA : Bool) (q size base : Int) (pos i : Nat) (nm : Str) : Prop := ∃ raw : Str, nm = safeS raw ∧ wordB raw letters 12 = true ∧ (if cA = true then (raw.length : Int) = 1 + ((i : Int) + q) % 12 ∧ raw ≠ sweepS else (raw.length : Int) = size ∧ raw.cps.toList[pos]? = some (97 + ((base + i) % 26).toNat))
theorem safe_ok {raw : Str} (h : wordB raw letters 12 = true) : nmOk (safeS raw) := by
  unfold safeS
  split
  · exact ⟨by decide +kernel, by decide⟩
  · rename_i e; exact ⟨h, e⟩
theorem Nm.ne {cA : Bool} {q size base : Int} {pos i j : Nat} {a b : Str} (ha : Nm cA q size base pos i a) (hb : Nm cA q size base pos j b) (ij : i < j) (hj : j ≤ 4) : a ≠ b := by
  obtain ⟨r, rfl, _, h1⟩ := ha
  obtain ⟨r', rfl, _, h2⟩ := hb
  cases cA with
  | true =>
    rw [if_pos rfl] at h1 h2
    unfold safeS
    rw [if_neg h1.2, if_neg h2.2]
    intro e
    rw [e, h2.1] at h1
    have := h1.1
    omega
  | false =>
    rw [if_neg Bool.false_ne_true] at h1 h2
    have nr : r ≠ r' := fun e => by
      rw [e] at h1
      rw [h1.2] at h2
      have := Option.some.inj h2.2
      omega
    have ls : (sweepS : Str).length = 5 := rfl
    have ls6 : ("sweeps" : Str).length = 6 := rfl
    unfold safeS
    by_cases e1 : r = sweepS
    · rw [if_pos e1, if_neg (fun e2 => nr (e1.trans e2.symm))]
      intro e
      rw [e1] at h1
      rw [← e] at h2
      have a1 := h1.1
      have a2 := h2.1
      rw [ls] at a1
      rw [ls6] at a2
      omega
    · rw [if_neg e1]
      by_cases e2 : r' = sweepS
      · rw [if_pos e2]
        intro e
        rw [e2] at h2
        rw [e] at h1
        have a1 := h1.1
        have a2 := h2.1
        rw [ls6] at a1
        rw [ls] at a2
        omega
      · rw [if_neg e2]; exact nr
theorem nd_snoc {l : List Str} {y : Str} (h : l.Nodup) (hy : y ∉ l) : (l ++ [y]).Nodup := by
  rw [List.nodup_append]
  refine ⟨h, by simp, fun a ha b hb => ?_⟩
  rw [List.mem_singleton.mp hb]
  exact fun e => hy (e ▸ ha)
theorem let_at {i : Int} (h0 : 0 ≤ i) (h1 : i < 26) : atI letters.cps.toList i = some (97 + i.toNat) := by
  have hk : ∀ k : Nat, k < 26 → letters.cps.toList[k]? = some (97 + k) := by decide +kernel
  exact atI_int h0 (hk _ (by omega))
theorem let_mem {i : Nat} (h1 : i < 26) : 97 + i ∈ letters.cps.toList := by
  have hk : ∀ k : Nat, k < 26 → 97 + k ∈ letters.cps.toList := by decide +kernel
  exact hk _ h1
theorem let_len : letters.length = 26 := by decide +kernel
section
variable {K : PySem.W.Frag} {C_First C_Each C_Last C_Kind C_Scene : Addr} {H : Hp} {Q : VK} {E : XK} {n : St → Hp → Prop} {bk ct : St → Hp → Prop}
theorem _law_safe_rd {t : Str} (q : Q (.str (safeS t)) H) : rd__law_safe ⟨n, Q, bk, ct⟩ [some (.str t)] H := by
  unfold rd__law_safe
  unfold safeS at q
  walk_at "ev"
  refine ifd (fun e => ?_) (fun e => ?_)
  · rw [if_pos (show t = sweepS from e)] at q
    walk_at "ev"
    exact q
  · rw [if_neg (show ¬ t = sweepS from e)] at q
    walk_at "ev"
    exact q
end
theorem rep_list {ch : Nat} {k : Int} : (repS ⟨#[ch]⟩ k).cps.toList = List.replicate k.toNat ch := by
  show ((List.replicate k.toNat [ch]).flatten.toArray).toList = _
  rw [List.flatten_replicate_singleton]
theorem rep_raw {t : Str} {ch : Nat} {k : Int} (et : t = repS ⟨#[ch]⟩ k) (h0 : 1 ≤ k) (h1 : k ≤ 12) (hc : ch ∈ letters.cps.toList) : wordB t letters 12 = true ∧ (t.length : Int) = k ∧ t ≠ sweepS := by
  have el : t.cps.toList = List.replicate k.toNat ch := by rw [et]; exact rep_list
  have hl : t.length = k.toNat := by rw [← str_len, el, List.length_replicate]
  refine ⟨?_, by omega, fun e => ?_⟩
  · unfold wordB
    rw [decide_eq_true (show (1 : Int) ≤ (t.length : Int) by omega), decide_eq_true (show (t.length : Int) ≤ 12 by omega), el]
    rw [Bool.true_and, Bool.true_and, List.all_eq_true]
    intro c hcm
    rw [List.eq_of_mem_replicate hcm]
    exact decide_eq_true hc
  · have es : t.cps.toList = [115, 119, 101, 101, 112] := by rw [e]; decide +kernel
    rw [el] at es
    have m1 : (115 : Nat) ∈ List.replicate k.toNat ch := by rw [es]; simp
    have m2 : (119 : Nat) ∈ List.replicate k.toNat ch := by rw [es]; simp
    have := List.eq_of_mem_replicate m1
    have := List.eq_of_mem_replicate m2
    omega
theorem wordB_of {t : Str} (h1 : 1 ≤ t.length) (h2 : t.length ≤ 12) (h : ∀ c ∈ t.cps.toList, c ∈ letters.cps.toList) : wordB t letters 12 = true := by
  unfold wordB
  rw [decide_eq_true (show (1 : Int) ≤ (t.length : Int) by omega), decide_eq_true (show (t.length : Int) ≤ 12 by omega), Bool.true_and, Bool.true_and, List.all_eq_true]
  exact fun c hc => decide_eq_true (h c hc)
section
variable {K : PySem.W.Frag} {C_First C_Each C_Last C_Kind C_Scene : Addr} {H : Hp} {Q : VK} {E : XK} {n : St → Hp → Prop} {bk ct : St → Hp → Prop}
theorem hb_app {way c size h : Int} {l : Addr} {raw : Str} {hs : List (Str × Int)} {v7 v8 : Option V} (g : HL H l hs) (h5 : hs.length ≤ 5) (h0 : 0 ≤ h) (h4 : h ≤ 4)
    (q : ∀ H', HL H' l (hs ++ [(safeS raw, 3 + (c / 7 + h * h * 2) % 7)]) → (∀ b o, b ≠ l → H b = some o → H' b = some o) → n [some (.int way), some (.int c), some (.str letters), some (.int size), some (.ref l), some (.int h), some (.str raw), v7, v8] H') :
    (tDrop (tBM K "list" rAppend (tVar 4) (tCons (tTup (tCons (tCall S_safe [] E0 (tCons (tVar 6) tNil)) (tCons (tOp (rI0 fun i j => .int (i + j)) (tC (.int 3)) (tOp (rI (fun _ j => 0 < j) fun i j => .int (i % j)) (tOp (rI0 fun i j => .int (i + j)) (tOp (rI CDiv fun i j => .int (i / j)) (tVar 1) (tC (.int 7))) (tOp (rI G.CMulB fun i j => .int (i * j)) (tOp (rI G.CMulB fun i j => .int (i * j)) (tVar 5) (tVar 5)) (tC (.int 2)))) (tC (.int 7)))) tNil))) tNil))) ⟨n, Q, bk, ct⟩ [some (.int way), some (.int c), some (.str letters), some (.int size), some (.ref l), some (.int h), some (.str raw), v7, v8] H := by
  obtain ⟨as, g1, g2, g3⟩ := g
  walk_at "ev"
  refine ⟨.inl ⟨rfl, _, SqL.of g1⟩, ?_⟩
  walk_at "ev"
  refine ⟨raw, rfl, ?_⟩
  walk_at "ev"
  refine ⟨by show 2 ≤ _; decide, fun tp htp => ?_⟩
  have s1 := same_new htp (.tup [.str (safeS raw), .int (3 + (c / 7 + h * h * 2) % 7)])
  walk_at "ev"
  refine ⟨l, _, _, rfl, rfl, s1 _ _ g1, by rw [List.length_map, sizeLine_eq]; omega, ?_⟩
  walk_at "ev"
  refine q _ (HL.add (H := H) (x := (safeS raw, 3 + (c / 7 + h * h * 2) % 7)) (s1 _ _ g1) g2 (fun i a ha => let ⟨x, e, z⟩ := g3 i a ha; ⟨x, e, s1 _ _ z⟩) upd_same) fun b o nb hb => ?_
  rw [upd_ne nb]
  exact s1 _ _ hb
theorem _law_hands_by_rd {way c : Int} (q : ∀ l hs H', Same H H' → HL H' l hs → HOk hs → Q (.ref l) H') : rd__law_hands_by K S_safe ⟨n, Q, bk, ct⟩ [some (.int way), some (.int c), none, none, none, none, none, none, none] H := by
  unfold rd__law_hands_by
  walk_at "ev"
  refine ⟨by decide, fun l hl => ?_⟩
  have s1 := same_new hl (.lst [])
  have c1 : upd H l (.lst []) l = some (.lst []) := upd_same
  generalize upd H l (.lst []) = H1 at s1 c1 ⊢
  walk_at "ev"
  have z0 : 1 ≤ 1 + c / 26 % 12 := by omega
  have z1 : 1 + c / 26 % 12 ≤ 12 := by omega
  generalize 1 + c / 26 % 12 = size at z0 z1 ⊢
  have p0 := Int.emod_nonneg (way / 7) (b := size) (by omega)
  have p1 := Int.emod_lt_of_pos (way / 7) (b := size) (by omega)
  have g0 : 0 ≤ c / 312 % 26 := by omega
  have g26 : c / 312 % 26 < 26 := by omega
  refine ⟨_, rfl, by omega, by omega, forR (fun i σ Hx => ∃ hs v5 v6 v7 v8, σ = [some (.int way), some (.int c), some (.str letters), some (.int size), some (.ref l), v5, v6, v7, v8] ∧ Same H Hx ∧ HL Hx l hs ∧ hs.length = i ∧ (hs.map (·.1)).Nodup ∧ ∀ (j : Nat) x, hs[j]? = some x → Nm (decide (way / 91 % 3 = 1)) (c / 26) size (c + ((way / 7 % size) * (way / 7 % size) * 3 + (way / 7 % size) * (c / 312 % 26))) (way / 7 % size).toNat j x.1 ∧ 3 ≤ x.2 ∧ x.2 ≤ 9) ⟨[], none, none, none, none, rfl, s1, ⟨[], c1, rfl, fun i a h => by cases h⟩, rfl, by simp, fun j x h => by cases h⟩ ?_ ?_⟩
  · rintro i σ Hx hi ⟨hs, v5, v6, v7, v8, rfl, sx, hlx, hlen, nd, hx⟩
    have hi4 : i ≤ 4 := by omega
    have e0 : (0 : Int) + (i : Int) = i := by omega
    rw [e0]
    walk_at "ev"
    have fin : ∀ (raw : Str) (v7 v8 : Option V), wordB raw letters 12 = true → (if decide (way / 91 % 3 = 1) = true then (raw.length : Int) = 1 + ((i : Int) + c / 26) % 12 ∧ raw ≠ sweepS else (raw.length : Int) = size ∧ raw.cps.toList[(way / 7 % size).toNat]? = some (97 + ((c + ((way / 7 % size) * (way / 7 % size) * 3 + (way / 7 % size) * (c / 312 % 26)) + i) % 26).toNat)) → ∀ H', HL H' l (hs ++ [(safeS raw, 3 + (c / 7 + (i : Int) * i * 2) % 7)]) → (∀ b o, b ≠ l → Hx b = some o → H' b = some o) →
        ∃ (hs : List (Str × Int)) (v5 v6 v7' v8' : Option V), ([some (.int way), some (.int c), some (.str letters), some (.int size), some (.ref l), some (.int i), some (.str raw), v7, v8] : St) = [some (.int way), some (.int c), some (.str letters), some (.int size), some (.ref l), v5, v6, v7', v8'] ∧ Same H H' ∧ HL H' l hs ∧ hs.length = i + 1 ∧ (hs.map (·.1)).Nodup ∧ ∀ (j : Nat) x, hs[j]? = some x → Nm (decide (way / 91 % 3 = 1)) (c / 26) size (c + ((way / 7 % size) * (way / 7 % size) * 3 + (way / 7 % size) * (c / 312 % 26))) (way / 7 % size).toNat j x.1 ∧ 3 ≤ x.2 ∧ x.2 ≤ 9 := by
      intro raw v7 v8 wb cond H' hl' fr
      have nm : Nm (decide (way / 91 % 3 = 1)) (c / 26) size (c + ((way / 7 % size) * (way / 7 % size) * 3 + (way / 7 % size) * (c / 312 % 26))) (way / 7 % size).toNat i (safeS raw) := ⟨raw, rfl, wb, cond⟩
      refine ⟨_, _, _, _, _, rfl, fun b o hb => fr b o (ne_of_none hb hl) (sx _ _ hb), hl', by rw [List.length_append, hlen]; rfl, ?_, fun j x hj => ?_⟩
      · rw [List.map_append]
        refine nd_snoc nd fun z => ?_
        obtain ⟨x, hxm, ex⟩ := List.mem_map.mp z
        obtain ⟨j, hj⟩ := List.getElem?_of_mem hxm
        have jl := (List.getElem?_eq_some_iff.mp hj).1
        exact (hx j x hj).1.ne nm (by omega) hi4 ex
      · by_cases hji : j < hs.length
        · rw [List.getElem?_append_left hji] at hj
          exact hx j x hj
        · have hjl := (List.getElem?_eq_some_iff.mp hj).1
          rw [List.length_append] at hjl
          have hje : j = hs.length := by
            have : [(safeS raw, 3 + (c / 7 + (i : Int) * i * 2) % 7)].length = 1 := rfl
            omega
          subst hje
          rw [List.getElem?_append_right (Nat.le_refl _), Nat.sub_self] at hj
          cases hj
          rw [hlen]
          exact ⟨nm, by omega, by omega⟩
    refine ⟨_, rfl, by omega, by omega, forR (fun k σ Hy => ∃ t v7 v8, σ = [some (.int way), some (.int c), some (.str letters), some (.int size), some (.ref l), some (.int i), some (.str t), v7, v8] ∧ Hy = Hx ∧ t.length = k ∧ (∀ ch ∈ t.cps.toList, ch ∈ letters.cps.toList) ∧ ((way / 7 % size).toNat < k → t.cps.toList[(way / 7 % size).toNat]? = some (97 + ((c + ((way / 7 % size) * (way / 7 % size) * 3 + (way / 7 % size) * (c / 312 % 26)) + i) % 26).toNat))) ⟨_, _, _, rfl, rfl, rfl, (fun ch h => by cases h), fun h => absurd h (Nat.not_lt_zero _)⟩ ?_ ?_⟩
    · rintro k σ Hy hk ⟨t, v7, v8, rfl, rfl, tl, tm, tp⟩
      have e0 : (0 : Int) + (k : Int) = k := by omega
      rw [e0]
      have hk12 : (k : Int) ≤ 12 := by omega
      have snoc : ∀ idx : Int, 0 ≤ idx → idx < 26 → ((k : Int) = way / 7 % size → idx = (c + ((way / 7 % size) * (way / 7 % size) * 3 + (way / 7 % size) * (c / 312 % 26)) + i) % 26) → ∀ v7 v8 : Option V, ∃ (t' : Str) (v7' v8' : Option V), ([some (.int way), some (.int c), some (.str letters), some (.int size), some (.ref l), some (.int i), some (.str (t ++ ⟨#[97 + idx.toNat]⟩)), v7, v8] : St) = [some (.int way), some (.int c), some (.str letters), some (.int size), some (.ref l), some (.int i), some (.str t'), v7', v8'] ∧ Hy = Hy ∧ t'.length = k + 1 ∧ (∀ ch ∈ t'.cps.toList, ch ∈ letters.cps.toList) ∧ ((way / 7 % size).toNat < k + 1 → t'.cps.toList[(way / 7 % size).toNat]? = some (97 + ((c + ((way / 7 % size) * (way / 7 % size) * 3 + (way / 7 % size) * (c / 312 % 26)) + i) % 26).toNat)) := by
        intro idx i0 i1 ek v7 v8
        refine ⟨_, _, _, rfl, rfl, by rw [app_len, tl]; rfl, fun ch hch => ?_, fun hp => ?_⟩
        · rw [app_cps] at hch
          rcases List.mem_append.mp hch with h | h
          · exact tm ch h
          · have : ch = 97 + idx.toNat := List.mem_singleton.mp h
            rw [this]
            exact let_mem (by omega)
        · rw [app_cps]
          by_cases hpk : (way / 7 % size).toNat < k
          · rw [List.getElem?_append_left (by rw [str_len, tl]; exact hpk)]
            exact tp hpk
          · have epk : (way / 7 % size).toNat = k := by omega
            rw [epk, List.getElem?_append_right (by rw [str_len, tl]; exact Nat.le_refl _), str_len, tl, Nat.sub_self]
            rw [← ek (by omega)]
            rfl
      walk_at "ev"
      refine ifd (fun e => ?_) (fun e => ?_)
      · walk_at "ev"
        have f0 := Int.emod_nonneg (c + ((k : Int) * k * 3 + k * (c / 312 % 26) + i)) (b := 26) (by decide)
        have f1 := Int.emod_lt_of_pos (c + ((k : Int) * k * 3 + k * (c / 312 % 26) + i)) (b := 26) (by decide)
        refine i_ixS (z := letters) (by rw [let_len]; exact len_ok (by decide)) (let_at f0 f1) ?_
        refine i_catS (len_ok (by show _ + 1 ≤ _; omega)) ?_
        walk_at "ev"
        refine snoc _ f0 f1 (fun ek => ?_) _ _
        rw [← ek]
        congr 1
        omega
      · walk_at "ev"
        have f0 := Int.emod_nonneg (c + ((k : Int) * k * 3 + k * (c / 312 % 26))) (b := 26) (by decide)
        have f1 := Int.emod_lt_of_pos (c + ((k : Int) * k * 3 + k * (c / 312 % 26))) (b := 26) (by decide)
        refine i_ixS (z := letters) (by rw [let_len]; exact len_ok (by decide)) (let_at f0 f1) ?_
        refine i_catS (len_ok (by show _ + 1 ≤ _; omega)) ?_
        walk_at "ev"
        exact snoc _ f0 f1 (fun ek => absurd ek e) _ _
    · rintro σ Hy ⟨t, v7, v8, rfl, rfl, tl, tm, tp⟩
      have tls : (t.length : Int) = size := by omega
      refine i_seq ?_
      walk_at "es"
      refine ifd (fun e => ?_) (fun e => ?_)
      · walk_at "es"
        have f0 : 0 ≤ c % 26 := by omega
        have f1 : c % 26 < 26 := by omega
        refine i_ixS (z := letters) (by rw [let_len]; exact len_ok (by decide)) (let_at f0 f1) ?_
        walk_at "es"
        refine i_repS (by omega) (by omega) (by show 1 ≤ 1000; decide) fun t' _ et => ?_
        obtain ⟨r1, r2, r3⟩ := rep_raw et (by omega) (by omega) (let_mem (by omega))
        exact hb_app hlx (by omega) (by omega) (by omega) (fun H' h1 h2 => fin t' v7 v8 r1 (by rw [decide_eq_true e, if_pos rfl]; exact ⟨r2, r3⟩) H' h1 h2)
      · exact hb_app hlx (by omega) (by omega) (by omega) (fun H' h1 h2 => fin t v7 v8 (wordB_of (by omega) (by omega) tm) (by rw [decide_eq_false e, if_neg Bool.false_ne_true]; exact ⟨tls, tp (by omega)⟩) H' h1 h2)
  · rintro σ Hx ⟨hs, v5, v6, v7, v8, rfl, sx, hlx, hlen, nd, hx⟩
    have hh : ∀ x ∈ hs, nmOk x.1 ∧ 3 ≤ x.2 ∧ x.2 ≤ 9 := fun x hxm => by
      obtain ⟨j, hj⟩ := List.getElem?_of_mem hxm
      obtain ⟨⟨raw, e, wb, _⟩, b⟩ := hx j x hj
      exact ⟨by rw [e]; exact safe_ok wb, b⟩
    have ok : HOk hs := ⟨by omega, by omega, nd, hh⟩
    walk_at "ev"
    refine ifd (fun e => ?_) (fun e => ?_)
    · walk_at "ev"
      obtain ⟨as, g1, g2, g3⟩ := id hlx
      refine ⟨l, rfl, ⟨_, SqL.of g1⟩, lc_names hlx (by omega) fun p hp => ?_⟩
      have s2 := same_new hp (.lst ((hs.map (·.1)).map V.str))
      refine ⟨p, _, rfl, .inl (SqL.of upd_same), rfl, flat_str _, ?_⟩
      rw [if_pos rfl, inV_str]
      refine ⟨_, rfl, ?_⟩
      generalize upd Hx p (.lst ((hs.map (·.1)).map V.str)) = H2 at s2 ⊢
      refine ifnd (fun ni => ?_) (fun _ => ?_)
      · obtain ⟨x, hs, rfl⟩ : ∃ x r, hs = x :: r := by
            cases hs with
            | nil => exact absurd ok.1 (by decide)
            | cons x r => exact ⟨x, r, rfl⟩
        obtain ⟨a, as, rfl⟩ : ∃ x r, as = x :: r := by
            cases as with
            | nil => cases g2
            | cons x r => exact ⟨x, r, rfl⟩
        have ga := g3 0 a rfl
        obtain ⟨x', e1, e2⟩ := ga
        cases e1
        walk_at "ev"
        refine i_ixL (SqL.of (s2 _ _ g1)) (atI_int (by decide) rfl) ?_
        walk_at "ev"
        refine ⟨a, _, 1, _, rfl, rfl, SqT.of (s2 _ _ e2), rfl, ?_⟩
        walk_at "ev"
        refine ⟨by show 2 ≤ _; decide, fun tp htp => ?_⟩
        have s3 := same_new htp (.tup [.str "sweeper", .int x.2])
        have c3 : upd H2 tp (.tup [.str "sweeper", .int x.2]) tp = some (.tup [.str "sweeper", .int x.2]) := upd_same
        generalize upd H2 tp (.tup [.str "sweeper", .int x.2]) = H3 at s3 c3 ⊢
        have s23 := s2.trans s3
        walk_at "ev"
        refine ⟨l, _, 0, 0, rfl, rfl, s23 _ _ g1, ixN_nat (by rw [List.length_map]; show 0 < as.length + 1; omega), ?_⟩
        walk_at "ev"
        have nt : ∀ {d : Addr} {xs : List V}, H3 d = some (.tup xs) → d ≠ l := fun hc e => by rw [e, s23 _ _ g1] at hc; cases hc
        refine q l (("sweeper", x.2) :: hs) _ (same_put (sx.trans s23) hl) ⟨tp :: as, upd_same, by rw [List.length_cons, List.length_cons]; simpa using g2, fun j d hd => ?_⟩ ⟨by rw [List.length_cons]; omega, by rw [List.length_cons] at hlen ⊢; omega, ?_, fun y hy => ?_⟩
        · match j, hd with
          | 0, hd => cases hd; exact ⟨_, rfl, by rw [upd_ne (nt c3)]; exact c3⟩
          | j + 1, hd =>
            obtain ⟨y, q1, q2⟩ := g3 (j + 1) d hd
            exact ⟨y, q1, by rw [upd_ne (nt (s23 _ _ q2))]; exact s23 _ _ q2⟩
        · rw [List.map_cons, List.nodup_cons] at nd ⊢
          exact ⟨fun z => ni (by rw [List.map_cons]; exact List.mem_cons_of_mem _ z), nd.2⟩
        · rcases List.mem_cons.mp hy with rfl | hy
          · have := hh x List.mem_cons_self
            exact ⟨(show nmOk ("sweeper" : Str) from ⟨by decide +kernel, by decide⟩), this.2⟩
          · exact hh y (List.mem_cons_of_mem _ hy)
      · walk_at "ev"
        exact q l hs _ (sx.trans s2) (hlx.same s2) ok
    · walk_at "ev"
      exact q l hs _ sx hlx ok
end
def S_wordby : Sp := fun vs H Q E => ∃ c o, vs = [.int c, .int o] ∧ ∀ z : Str, wordB z letters 12 = true → Q (.str z) H
def S_large : Sp := fun vs H Q E => ∃ c w m, vs = [.int c, .int w, .int m] ∧ Builtin.Int.intBits (c + 3) ≤ 2 ^ 20 + 4 ∧ 0 ≤ m ∧ ∀ z : Int, 0 ≤ z → z ≤ m → Q (.int z) H
def flV (v : V) : Prop := (∃ i, v = .int i) ∨ ∃ z, v = .str z
def S_srow : Sp := fun vs H Q E => ∃ a b, vs = [.ref a, .ref b] ∧ ∃ xs : List V, H a = some (.tup xs) ∧ H b = some (.tup xs) ∧ xs.length ≤ 100 ∧ (∀ x ∈ xs, flV x) ∧ ∀ H', Same H H' → Q (.bl true) H'
section
variable {K : PySem.W.Frag} {H : Hp} {Q : VK} {E : XK} {n : St → Hp → Prop} {bk ct : St → Hp → Prop}
theorem _law_word_by_rd {c o : Int} (q : ∀ z : Str, wordB z letters 12 = true → Q (.str z) H) : rd__law_word_by ⟨n, Q, bk, ct⟩ [some (.int c), some (.int o), none, none, none] H := by
  unfold rd__law_word_by
  walk_at "ev"
  have g0 : 0 ≤ o / 12 % 26 := by omega
  have g26 : o / 12 % 26 < 26 := by omega
  refine ⟨_, rfl, by omega, by omega, forR (fun k σ Hy => ∃ t v4, σ = [some (.int c), some (.int o), some (.str letters), some (.str t), v4] ∧ Hy = H ∧ t.length = k ∧ ∀ ch ∈ t.cps.toList, ch ∈ letters.cps.toList) ⟨_, _, rfl, rfl, rfl, fun ch h => by cases h⟩ ?_ ?_⟩
  · rintro k σ Hy hk ⟨t, v4, rfl, rfl, tl, tm⟩
    have e0 : (0 : Int) + (k : Int) = k := by omega
    rw [e0]
    have hk12 : (k : Int) ≤ 12 := by omega
    walk_at "ev"
    have f0 := Int.emod_nonneg (c + (k : Int) * k * (o / 12 % 26)) (b := 26) (by decide)
    have f1 := Int.emod_lt_of_pos (c + (k : Int) * k * (o / 12 % 26)) (b := 26) (by decide)
    refine i_ixS (z := letters) (by rw [let_len]; exact len_ok (by decide)) (let_at f0 f1) ?_
    refine i_catS (len_ok (by show _ + 1 ≤ _; omega)) ?_
    walk_at "ev"
    refine ⟨_, _, rfl, rfl, by rw [app_len, tl]; rfl, fun ch hch => ?_⟩
    rw [app_cps] at hch
    rcases List.mem_append.mp hch with h | h
    · exact tm ch h
    · have : ch = 97 + ((c + (k : Int) * k * (o / 12 % 26)) % 26).toNat := List.mem_singleton.mp h
      rw [this]
      exact let_mem (by omega)
  · rintro σ Hy ⟨t, v4, rfl, rfl, tl, tm⟩
    walk_at "ev"
    exact q t (wordB_of (by omega) (by omega) tm)
theorem _law_same_row_rd {a b : Addr} (q : ∃ xs : List V, H a = some (.tup xs) ∧ H b = some (.tup xs) ∧ xs.length ≤ 100 ∧ (∀ x ∈ xs, flV x) ∧ ∀ H', Same H H' → Q (.bl true) H') : rd__law_same_row K S_whole ⟨n, Q, bk, ct⟩ [some (.ref a), some (.ref b), none, none] H := by
  obtain ⟨xs, ha, hb, h100, fx, h⟩ := q
  unfold rd__law_same_row
  walk_at "ev"
  refine i_isiT_tuple ha ?_
  walk_at "ev"
  refine ⟨a, _, rfl, .inr (SqT.of ha), ?_⟩
  walk_at "ev"
  refine ⟨b, _, rfl, .inr (SqT.of hb), ?_⟩
  walk_at "ev"
  refine ifnd (fun z => absurd rfl z) (fun _ => ?_)
  walk_at "ev"
  refine ⟨a, b, rfl, ⟨_, SqT.of ha⟩, ⟨_, SqT.of hb⟩, ?_⟩
  refine forZ2 (t1 := true) (t2 := true) xs xs rfl (fun i σ H2 => ∃ v2 v3, σ = [some (.ref a), some (.ref b), v2, v3] ∧ Same H H2) ⟨none, none, rfl, Same.refl _⟩ (fun i σ H2 _ ⟨_, _, _, s⟩ => ⟨SqT.of (s _ _ ha), SqT.of (s _ _ hb)⟩) ?_ ?_
  · rintro i x y tp σ H2 hx hy ⟨v2, v3, rfl, s2⟩ htp
    rw [hx] at hy
    cases hy
    have s3 := same_new htp (.tup [x, x])
    have c3 : upd H2 tp (.tup [x, x]) tp = some (.tup [x, x]) := upd_same
    generalize upd H2 tp (.tup [x, x]) = H3 at s3 c3 ⊢
    refine ⟨tp, _, rfl, SqT.of c3, rfl, ?_⟩
    refine ⟨_, _, rfl, ?_⟩
    walk_at "ev"
    refine ⟨_, _, rfl, ?_⟩
    walk_at "ev"
    refine ⟨rfl, ?_⟩
    rcases fx x (List.mem_of_getElem? hx) with ⟨j, rfl⟩ | ⟨z, rfl⟩
    · walk_at "ev"
      refine ⟨j, rfl, ?_⟩
      walk_at "ev"
      refine ifnd (fun z => absurd rfl z) (fun _ => ?_)
      walk_at "ev"
      exact ⟨_, _, rfl, s2.trans s3⟩
    · walk_at "ev"
      refine ifnd (fun z => absurd rfl z) (fun _ => ?_)
      walk_at "ev"
      exact ⟨_, _, rfl, s2.trans s3⟩
  · rintro σ H2 ⟨v2, v3, rfl, s2⟩
    walk_at "ev"
    exact h _ s2
end
section
variable {K : PySem.W.Frag} {H : Hp} {Q : VK} {E : XK} {n : St → Hp → Prop} {bk ct : St → Hp → Prop}
theorem _law_large_rd {c w m : Int} (q : Builtin.Int.intBits (c + 3) ≤ 2 ^ 20 + 4 ∧ 0 ≤ m ∧ ∀ z : Int, 0 ≤ z → z ≤ m → Q (.int z) H) : rd__law_large ⟨n, Q, bk, ct⟩ [some (.int c), some (.int w), some (.int m)] H := by
  obtain ⟨hb, m0, h⟩ := q
  unfold rd__law_large
  walk_at "ev"
  refine ifd (fun _ => ?_) (fun _ => ?_)
  · walk_at "ev"
    refine i_I (IntMulOk.of_le hb (show Builtin.Int.intBits 31415926535897932384626433832795028841971693993751 ≤ 200 by decide) (by decide)) ?_
    walk_at "ev"
    have f0 := Int.emod_nonneg ((c + 3) * 31415926535897932384626433832795028841971693993751) (b := m + 1) (by omega)
    have f1 := Int.emod_lt_of_pos ((c + 3) * 31415926535897932384626433832795028841971693993751) (b := m + 1) (by omega)
    exact h _ f0 (by omega)
  · walk_at "ev"
    have f0 := Int.emod_nonneg c (b := m + 1) (by omega)
    have f1 := Int.emod_lt_of_pos c (b := m + 1) (by omega)
    exact h _ f0 (by omega)
end
def fMany : Str := "many"
def fBulk : Str := "bulk"
def fField : Str := "field"
def qH (h : Nat) (x : Str × Int) : Qd := (fHand, .int h, x.1, .str x.1)
def qN (f : Str) (i : Int) : Qd := (f, .int i, tS i, .int i)
def qW (z : Str) : Qd := (fWord, .str z, z, .str z)
theorem HL.at {H : Hp} {l : Addr} {hs : List (Str × Int)} (h : HL H l hs) {i : Nat} {x : Str × Int} (e : hs[i]? = some x) : ∃ (as : List Addr) (b : Addr), H l = some (.lst (as.map V.ref)) ∧ as[i]? = some b ∧ H b = some (.tup [.str x.1, .int x.2]) := by
  obtain ⟨as, h1, h2, h3⟩ := h
  have hi : i < as.length := by rw [h2]; exact (List.getElem?_eq_some_iff.mp e).1
  obtain ⟨y, e1, e2⟩ := h3 i as[i] (List.getElem?_eq_getElem hi)
  rw [e] at e1
  cases e1
  exact ⟨as, as[i], h1, List.getElem?_eq_getElem hi, e2⟩
section
variable {hs : List (Str × Int)}
theorem okH {h : Nat} {x : Str × Int} (e : hs[h]? = some x) (k : nmOk x.1) : QOk hs (qH h x) := ⟨.hand e k, by have := (word_let k.1).1; show x.1.length ≤ 100; omega⟩
theorem okN {f : Str} {m i : Int} (e : mostT.lookup f = some (.int m)) (hm : m ≤ 1000000000000) (h0 : 0 ≤ i) (h1 : i ≤ m) : QOk hs (qN f i) :=
  ⟨.num e h0 h1 hm, Nat.le_trans (tS_len h0 (Int.lt_of_le_of_lt (Int.le_trans h1 hm) (by decide))) (by decide)⟩
theorem tS_lenA {i : Int} (h0 : -(10 ^ 60) < i) (h1 : i < 10 ^ 60) : (tS i).length ≤ 62 := by
  by_cases hi : 0 ≤ i
  · exact Nat.le_trans (tS_len hi h1) (by decide)
  · obtain ⟨m, rfl⟩ : ∃ m : Nat, i = -((m + 1 : Nat) : Int) := ⟨(-i).toNat - 1, by omega⟩
    have e1 := neg_tS m
    have e2 := (Nat.length_toDigits_le_iff (n := m + 1) (b := 10) (k := 60) (by decide) (by decide)).mpr (by omega)
    rw [← str_len, e1, List.length_cons, List.length_map]
    omega
theorem okL {i : Int} (h0 : -(10 ^ 60) < i) (h1 : i < 10 ^ 60) : QOk hs (qN fLoad i) := ⟨.load h0 h1, Nat.le_trans (tS_lenA h0 h1) (by decide)⟩
theorem okW {z : Str} (k : wordB z letters 12 = true) : QOk hs (qW z) := ⟨.word k, by have := (word_let k).1; show z.length ≤ 100; omega⟩
theorem slH {o h : Nat} {x : Str × Int} {r : List Qd} (q : SlOk hs h r) : SlOk hs o (qH h x :: r) := .inl ⟨rfl, h, rfl, q⟩
theorem slS {o : Nat} {x : Str × Int} {s : Int} {r : List Qd} (e : hs[o]? = some x) (l : s < x.2) (q : SlOk hs o r) : SlOk hs o (qN fSlot s :: r) := .inr ⟨by show fSlot ≠ fHand; decide, q, fun _ => ⟨s, x, rfl, e, l⟩⟩
theorem slO {o : Nat} {p : Qd} {r : List Qd} (h1 : p.1 ≠ fHand) (h2 : p.1 ≠ fSlot) (q : SlOk hs o r) : SlOk hs o (p :: r) := .inr ⟨h1, q, fun z => absurd z h2⟩
theorem WOk.fl {r : WRow} (h : WOk hs r) : (valsOf r).length ≤ 100 ∧ ∀ x ∈ valsOf r, flV x := by
  cases r with
  | sw m =>
    refine ⟨by show 2 ≤ 100; decide, fun x hx => ?_⟩
    rcases List.mem_cons.mp hx with rfl | hx
    · exact .inr ⟨_, rfl⟩
    · rw [List.mem_singleton.mp hx]; exact .inl ⟨_, rfl⟩
  | dd w q qs =>
    obtain ⟨ef, hm, okq, so, h8⟩ := h
    refine ⟨by show (List.map _ (q :: qs)).length + 1 ≤ 100; rw [List.length_map, List.length_cons]; omega, fun x hx => ?_⟩
    rcases List.mem_cons.mp hx with rfl | hx
    · exact .inr ⟨_, rfl⟩
    · obtain ⟨z, hz, rfl⟩ := List.mem_map.mp hx
      have fv := (okq z hz).1
      generalize z.1 = f, z.2.1 = v, z.2.2.1 = t, z.2.2.2 = d at fv ⊢
      cases fv
      · exact .inl ⟨_, rfl⟩
      · exact .inl ⟨_, rfl⟩
      · exact .inl ⟨_, rfl⟩
      · exact .inr ⟨_, rfl⟩
end
theorem all_q {p : Qd → Prop} : (∀ x ∈ ([] : List Qd), p x) := fun x h => by cases h
theorem all_c {p : Qd → Prop} {q : Qd} {r : List Qd} (h : p q) (t : ∀ x ∈ r, p x) : ∀ x ∈ q :: r, p x := fun x hx => by
  rcases List.mem_cons.mp hx with rfl | hx
  · exact h
  · exact t x hx
theorem fm_make : (("make" : Str), [fHand, fSlot, fMany, fBulk]) ∈ frms := by decide
theorem fm_get' : (("get" : Str), [fHand, fSlot, fSlot, fField]) ∈ frms := by decide
theorem fm_put : (("put" : Str), [fHand, fSlot, fField, fSlot]) ∈ frms := by decide
theorem fm_copy : (("copy" : Str), [fHand, fSlot, fSlot]) ∈ frms := by decide
theorem fm_drop : (("drop" : Str), [fHand, fSlot]) ∈ frms := by decide
theorem fm_give : (("give" : Str), [fHand, fSlot, fHand, fSlot]) ∈ frms := by decide
theorem fm_write : (("write" : Str), [fHand, fSlot, fLoad]) ∈ frms := by decide
theorem fm_read : (("read" : Str), [fHand, fSlot]) ∈ frms := by decide
theorem fm_name : (("name" : Str), [fHand, fSlot, fWord]) ∈ frms := by decide
theorem fm_seek : (("seek" : Str), [fHand, fSlot, fWord]) ∈ frms := by decide
def S_rowby : Sp := fun vs H Q E => ∃ c k l, vs = [.int c, .int k, .ref l] ∧ ∃ hs : List (Str × Int), HL H l hs ∧ HOk hs ∧ 0 ≤ k ∧ k < 1000 ∧ Builtin.Int.intBits c ≤ 2 ^ 20 ∧ ∀ a r H', Same H H' → WOk hs r → H' a = some (.tup (valsOf r)) → Q (.ref a) H'
section
variable {K : PySem.W.Frag} {H : Hp} {Q : VK} {E : XK} {n : St → Hp → Prop} {bk ct : St → Hp → Prop}
theorem rowby_ret {c k way other s t f load : Int} {h g : Nat} {word : Str} {l : Addr} {hs : List (Str × Int)} {x y : Str × Int} (hl : HL H l hs) (ok : HOk hs) (cb : Builtin.Int.intBits (c + 3) ≤ 2 ^ 20 + 4)
    (xh : hs[h]? = some x) (xg : hs[g]? = some y) (w0 : 0 ≤ way) (s0 : 0 ≤ s) (s1 : s < x.2) (t0 : 0 ≤ t) (t1 : t < x.2) (f0 : 0 ≤ f) (f1 : f ≤ 999) (l0 : -(10 ^ 60) < load) (l1 : load < 10 ^ 60) (wb : wordB word letters 12 = true)
    (q : ∀ a r H', Same H H' → WOk hs r → H' a = some (.tup (valsOf r)) → Q (.ref a) H') :
    (tRet (tOp (rIxL K) (tLst (tCons (tTup (tCons (tC (.str "make")) (tCons (tVar 5) (tCons (tVar 7) (tCons (tOp (rI (fun _ j => 0 < j) fun i j => .int (i % j)) (tOp (rI CDiv fun i j => .int (i / j)) (tVar 4) (tC (.int 45))) (tC (.int 9))) (tCons (tCall S_large [] E0 (tCons (tVar 0) (tCons (tVar 3) (tCons (tOp (rI CPow fun i j => .int (i ^ j.toNat)) (tC (.int 10)) (tC (.int 12))) tNil)))) tNil)))))) (tCons (tTup (tCons (tC (.str "get")) (tCons (tVar 5) (tCons (tVar 7) (tCons (tVar 8) (tCons (tVar 9) tNil)))))) (tCons (tTup (tCons (tC (.str "put")) (tCons (tVar 5) (tCons (tVar 8) (tCons (tVar 9) (tCons (tVar 7) tNil)))))) (tCons (tTup (tCons (tC (.str "copy")) (tCons (tVar 5) (tCons (tVar 7) (tCons (tVar 8) tNil))))) (tCons (tTup (tCons (tC (.str "drop")) (tCons (tVar 5) (tCons (tVar 7) tNil)))) (tCons (tTup (tCons (tC (.str "give")) (tCons (tVar 5) (tCons (tVar 7) (tCons (tVar 6) (tCons (tOp (rI (fun _ j => 0 < j) fun i j => .int (i % j)) (tOp (rI CDiv fun i j => .int (i / j)) (tVar 3) (tC (.int 55))) (tOp (rIxT K) (tOp (rIxL K) (tVar 2) (tVar 6)) (tC (.int 1)))) tNil)))))) (tCons (tTup (tCons (tC (.str "write")) (tCons (tVar 5) (tCons (tVar 8) (tCons (tVar 10) tNil))))) (tCons (tTup (tCons (tC (.str "read")) (tCons (tVar 5) (tCons (tVar 8) tNil)))) (tCons (tTup (tCons (tC (.str "name")) (tCons (tVar 5) (tCons (tVar 8) (tCons (tVar 11) tNil))))) (tCons (tTup (tCons (tC (.str "seek")) (tCons (tVar 5) (tCons (tVar 7) (tCons (tVar 11) tNil))))) (tCons (tTup (tCons (tC (.str "sweep")) (tCons (tOp (rI0 fun i j => .int (i + j)) (tC (.int 1)) (tCall S_large [] E0 (tCons (tVar 0) (tCons (tVar 3) (tCons (tC (.int 9998)) tNil))))) tNil))) tNil)))))))))))) (tOp (rI (fun _ j => 0 < j) fun i j => .int (i % j)) (tVar 3) (tC (.int 11))))) ⟨n, Q, bk, ct⟩ [some (.int c), some (.int k), some (.ref l), some (.int way), some (.int other), some (.int h), some (.int g), some (.int s), some (.int t), some (.int f), some (.int load), some (.str word)] H := by
  obtain ⟨k1, k5, nd, hx⟩ := ok
  have bx := hx x (List.mem_of_getElem? xh)
  have by' := hx y (List.mem_of_getElem? xg)
  obtain ⟨as, g1, g2, g3⟩ := id hl
  have eb : ∀ i : Nat, i < as.length → as[i]? = some (as.getD i 0) := fun i hi => by rw [List.getElem?_eq_getElem hi, List.getD_eq_getElem?_getD, List.getElem?_eq_getElem hi]; rfl
  have hgl : g < as.length := by rw [g2]; exact (List.getElem?_eq_some_iff.mp xg).1
  obtain ⟨y', ey, gy⟩ := g3 g _ (eb g hgl)
  rw [xg] at ey
  cases ey
  walk_at "ev"
  refine ⟨_, _, _, rfl, cb, by decide, fun bulk b0 b1 => ?_⟩
  walk_at "ev"
  refine ⟨by show 5 ≤ _; decide, fun a0 n0 => ?_⟩
  have e0 := same_new n0 (.tup [.str "make", .int (h : Int), .int s, .int (other / 45 % 9), .int bulk])
  have c0 : upd H a0 (.tup [.str "make", .int (h : Int), .int s, .int (other / 45 % 9), .int bulk]) a0 = some (.tup [.str "make", .int (h : Int), .int s, .int (other / 45 % 9), .int bulk]) := upd_same
  generalize upd H a0 (.tup [.str "make", .int (h : Int), .int s, .int (other / 45 % 9), .int bulk]) = H1 at e0 c0 ⊢
  have z1 : Same H H1 := e0
  walk_at "ev"
  refine ⟨by show 5 ≤ _; decide, fun a1 n1 => ?_⟩
  have e1 := same_new n1 (.tup [.str "get", .int (h : Int), .int s, .int t, .int f])
  have c1 : upd H1 a1 (.tup [.str "get", .int (h : Int), .int s, .int t, .int f]) a1 = some (.tup [.str "get", .int (h : Int), .int s, .int t, .int f]) := upd_same
  generalize upd H1 a1 (.tup [.str "get", .int (h : Int), .int s, .int t, .int f]) = H2 at e1 c1 ⊢
  replace c0 := e1 _ _ c0
  have z2 : Same H H2 := z1.trans e1
  walk_at "ev"
  refine ⟨by show 5 ≤ _; decide, fun a2 n2 => ?_⟩
  have e2 := same_new n2 (.tup [.str "put", .int (h : Int), .int t, .int f, .int s])
  have c2 : upd H2 a2 (.tup [.str "put", .int (h : Int), .int t, .int f, .int s]) a2 = some (.tup [.str "put", .int (h : Int), .int t, .int f, .int s]) := upd_same
  generalize upd H2 a2 (.tup [.str "put", .int (h : Int), .int t, .int f, .int s]) = H3 at e2 c2 ⊢
  replace c0 := e2 _ _ c0
  replace c1 := e2 _ _ c1
  have z3 : Same H H3 := z2.trans e2
  walk_at "ev"
  refine ⟨by show 4 ≤ _; decide, fun a3 n3 => ?_⟩
  have e3 := same_new n3 (.tup [.str "copy", .int (h : Int), .int s, .int t])
  have c3 : upd H3 a3 (.tup [.str "copy", .int (h : Int), .int s, .int t]) a3 = some (.tup [.str "copy", .int (h : Int), .int s, .int t]) := upd_same
  generalize upd H3 a3 (.tup [.str "copy", .int (h : Int), .int s, .int t]) = H4 at e3 c3 ⊢
  replace c0 := e3 _ _ c0
  replace c1 := e3 _ _ c1
  replace c2 := e3 _ _ c2
  have z4 : Same H H4 := z3.trans e3
  walk_at "ev"
  refine ⟨by show 3 ≤ _; decide, fun a4 n4 => ?_⟩
  have e4 := same_new n4 (.tup [.str "drop", .int (h : Int), .int s])
  have c4 : upd H4 a4 (.tup [.str "drop", .int (h : Int), .int s]) a4 = some (.tup [.str "drop", .int (h : Int), .int s]) := upd_same
  generalize upd H4 a4 (.tup [.str "drop", .int (h : Int), .int s]) = H5 at e4 c4 ⊢
  replace c0 := e4 _ _ c0
  replace c1 := e4 _ _ c1
  replace c2 := e4 _ _ c2
  replace c3 := e4 _ _ c3
  have z5 : Same H H5 := z4.trans e4
  walk_at "ev"
  refine i_ixL (v := .ref (as.getD g 0)) (SqL.of (z5 _ _ g1)) (atI_nat (by rw [List.getElem?_map, eb g hgl]; rfl)) ?_
  walk_at "ev"
  refine ⟨_, _, 1, _, rfl, rfl, SqT.of (z5 _ _ gy), rfl, ?_⟩
  walk_at "ev"
  refine ⟨by show 5 ≤ _; decide, fun a5 n5 => ?_⟩
  have e5 := same_new n5 (.tup [.str "give", .int (h : Int), .int s, .int (g : Int), .int (way / 55 % y.2)])
  have c5 : upd H5 a5 (.tup [.str "give", .int (h : Int), .int s, .int (g : Int), .int (way / 55 % y.2)]) a5 = some (.tup [.str "give", .int (h : Int), .int s, .int (g : Int), .int (way / 55 % y.2)]) := upd_same
  generalize upd H5 a5 (.tup [.str "give", .int (h : Int), .int s, .int (g : Int), .int (way / 55 % y.2)]) = H6 at e5 c5 ⊢
  replace c0 := e5 _ _ c0
  replace c1 := e5 _ _ c1
  replace c2 := e5 _ _ c2
  replace c3 := e5 _ _ c3
  replace c4 := e5 _ _ c4
  have z6 : Same H H6 := z5.trans e5
  walk_at "ev"
  refine ⟨by show 4 ≤ _; decide, fun a6 n6 => ?_⟩
  have e6 := same_new n6 (.tup [.str "write", .int (h : Int), .int t, .int load])
  have c6 : upd H6 a6 (.tup [.str "write", .int (h : Int), .int t, .int load]) a6 = some (.tup [.str "write", .int (h : Int), .int t, .int load]) := upd_same
  generalize upd H6 a6 (.tup [.str "write", .int (h : Int), .int t, .int load]) = H7 at e6 c6 ⊢
  replace c0 := e6 _ _ c0
  replace c1 := e6 _ _ c1
  replace c2 := e6 _ _ c2
  replace c3 := e6 _ _ c3
  replace c4 := e6 _ _ c4
  replace c5 := e6 _ _ c5
  have z7 : Same H H7 := z6.trans e6
  walk_at "ev"
  refine ⟨by show 3 ≤ _; decide, fun a7 n7 => ?_⟩
  have e7 := same_new n7 (.tup [.str "read", .int (h : Int), .int t])
  have c7 : upd H7 a7 (.tup [.str "read", .int (h : Int), .int t]) a7 = some (.tup [.str "read", .int (h : Int), .int t]) := upd_same
  generalize upd H7 a7 (.tup [.str "read", .int (h : Int), .int t]) = H8 at e7 c7 ⊢
  replace c0 := e7 _ _ c0
  replace c1 := e7 _ _ c1
  replace c2 := e7 _ _ c2
  replace c3 := e7 _ _ c3
  replace c4 := e7 _ _ c4
  replace c5 := e7 _ _ c5
  replace c6 := e7 _ _ c6
  have z8 : Same H H8 := z7.trans e7
  walk_at "ev"
  refine ⟨by show 4 ≤ _; decide, fun a8 n8 => ?_⟩
  have e8 := same_new n8 (.tup [.str "name", .int (h : Int), .int t, .str word])
  have c8 : upd H8 a8 (.tup [.str "name", .int (h : Int), .int t, .str word]) a8 = some (.tup [.str "name", .int (h : Int), .int t, .str word]) := upd_same
  generalize upd H8 a8 (.tup [.str "name", .int (h : Int), .int t, .str word]) = H9 at e8 c8 ⊢
  replace c0 := e8 _ _ c0
  replace c1 := e8 _ _ c1
  replace c2 := e8 _ _ c2
  replace c3 := e8 _ _ c3
  replace c4 := e8 _ _ c4
  replace c5 := e8 _ _ c5
  replace c6 := e8 _ _ c6
  replace c7 := e8 _ _ c7
  have z9 : Same H H9 := z8.trans e8
  walk_at "ev"
  refine ⟨by show 4 ≤ _; decide, fun a9 n9 => ?_⟩
  have e9 := same_new n9 (.tup [.str "seek", .int (h : Int), .int s, .str word])
  have c9 : upd H9 a9 (.tup [.str "seek", .int (h : Int), .int s, .str word]) a9 = some (.tup [.str "seek", .int (h : Int), .int s, .str word]) := upd_same
  generalize upd H9 a9 (.tup [.str "seek", .int (h : Int), .int s, .str word]) = H10 at e9 c9 ⊢
  replace c0 := e9 _ _ c0
  replace c1 := e9 _ _ c1
  replace c2 := e9 _ _ c2
  replace c3 := e9 _ _ c3
  replace c4 := e9 _ _ c4
  replace c5 := e9 _ _ c5
  replace c6 := e9 _ _ c6
  replace c7 := e9 _ _ c7
  replace c8 := e9 _ _ c8
  have z10 : Same H H10 := z9.trans e9
  walk_at "ev"
  refine ⟨_, _, _, rfl, cb, by decide, fun stp p0 p1 => ?_⟩
  walk_at "ev"
  refine ⟨by show 2 ≤ _; decide, fun a10 n10 => ?_⟩
  have e10 := same_new n10 (.tup [.str "sweep", .int (1 + stp)])
  have c10 : upd H10 a10 (.tup [.str "sweep", .int (1 + stp)]) a10 = some (.tup [.str "sweep", .int (1 + stp)]) := upd_same
  generalize upd H10 a10 (.tup [.str "sweep", .int (1 + stp)]) = H11 at e10 c10 ⊢
  replace c0 := e10 _ _ c0
  replace c1 := e10 _ _ c1
  replace c2 := e10 _ _ c2
  replace c3 := e10 _ _ c3
  replace c4 := e10 _ _ c4
  replace c5 := e10 _ _ c5
  replace c6 := e10 _ _ c6
  replace c7 := e10 _ _ c7
  replace c8 := e10 _ _ c8
  replace c9 := e10 _ _ c9
  have z11 : Same H H11 := z10.trans e10
  walk_at "ev"
  refine ⟨by show 11 ≤ _; decide, fun al nl => ?_⟩
  have e11 := same_new nl (.lst [.ref a0, .ref a1, .ref a2, .ref a3, .ref a4, .ref a5, .ref a6, .ref a7, .ref a8, .ref a9, .ref a10])
  have c11 : upd H11 al (.lst [.ref a0, .ref a1, .ref a2, .ref a3, .ref a4, .ref a5, .ref a6, .ref a7, .ref a8, .ref a9, .ref a10]) al = some (.lst [.ref a0, .ref a1, .ref a2, .ref a3, .ref a4, .ref a5, .ref a6, .ref a7, .ref a8, .ref a9, .ref a10]) := upd_same
  generalize upd H11 al (.lst [.ref a0, .ref a1, .ref a2, .ref a3, .ref a4, .ref a5, .ref a6, .ref a7, .ref a8, .ref a9, .ref a10]) = H12 at e11 c11 ⊢
  have z12 := z11.trans e11
  walk_at "ev"
  have sx : s ≤ 999 := by omega
  have tx : t ≤ 999 := by omega
  have gs0 : 0 ≤ way / 55 % y.2 := Int.emod_nonneg _ (by omega)
  have gs1 : way / 55 % y.2 < y.2 := Int.emod_lt_of_pos _ (by omega)
  have kh := okH xh bx.1
  have kg := okH xg by'.1
  have ks : QOk hs (qN fSlot s) := okN (m := 999) rfl (by decide) s0 sx
  have kt : QOk hs (qN fSlot t) := okN (m := 999) rfl (by decide) t0 tx
  have kf : QOk hs (qN fField f) := okN (m := 999) rfl (by decide) f0 f1
  have kl : QOk hs (qN fLoad load) := okL l0 l1
  have kw : QOk hs (qW word) := okW wb
  have hc : way % 11 = 0 ∨ way % 11 = 1 ∨ way % 11 = 2 ∨ way % 11 = 3 ∨ way % 11 = 4 ∨ way % 11 = 5 ∨ way % 11 = 6 ∨ way % 11 = 7 ∨ way % 11 = 8 ∨ way % 11 = 9 ∨ way % 11 = 10 := by omega
  rcases hc with hc | hc | hc | hc | hc | hc | hc | hc | hc | hc | hc
  · rw [hc]
    refine i_ixL (SqL.of c11) (atI_int (by decide) rfl) ?_
    exact q a0 (.dd "make" (qH h x) [qN fSlot s, qN fMany (other / 45 % 9), qN fBulk bulk]) H12 z12 ⟨rfl, fm_make, (all_c kh (all_c ks (all_c (okN (m := 8) rfl (by decide) (by omega) (by omega)) (all_c (okN (m := 1000000000000) rfl (by decide) b0 b1) all_q)))), (slH (slS xh s1 (slO (by show fMany ≠ fHand; decide) (by show fMany ≠ fSlot; decide) (slO (by show fBulk ≠ fHand; decide) (by show fBulk ≠ fSlot; decide) trivial)))), (show 3 ≤ 8 by decide)⟩ (e11 _ _ c0)
  · rw [hc]
    refine i_ixL (SqL.of c11) (atI_int (by decide) rfl) ?_
    exact q a1 (.dd "get" (qH h x) [qN fSlot s, qN fSlot t, qN fField f]) H12 z12 ⟨rfl, fm_get', (all_c kh (all_c ks (all_c kt (all_c kf all_q)))), (slH (slS xh s1 (slS xh t1 (slO (by show fField ≠ fHand; decide) (by show fField ≠ fSlot; decide) trivial)))), (show 3 ≤ 8 by decide)⟩ (e11 _ _ c1)
  · rw [hc]
    refine i_ixL (SqL.of c11) (atI_int (by decide) rfl) ?_
    exact q a2 (.dd "put" (qH h x) [qN fSlot t, qN fField f, qN fSlot s]) H12 z12 ⟨rfl, fm_put, (all_c kh (all_c kt (all_c kf (all_c ks all_q)))), (slH (slS xh t1 (slO (by show fField ≠ fHand; decide) (by show fField ≠ fSlot; decide) (slS xh s1 trivial)))), (show 3 ≤ 8 by decide)⟩ (e11 _ _ c2)
  · rw [hc]
    refine i_ixL (SqL.of c11) (atI_int (by decide) rfl) ?_
    exact q a3 (.dd "copy" (qH h x) [qN fSlot s, qN fSlot t]) H12 z12 ⟨rfl, fm_copy, (all_c kh (all_c ks (all_c kt all_q))), (slH (slS xh s1 (slS xh t1 trivial))), (show 2 ≤ 8 by decide)⟩ (e11 _ _ c3)
  · rw [hc]
    refine i_ixL (SqL.of c11) (atI_int (by decide) rfl) ?_
    exact q a4 (.dd "drop" (qH h x) [qN fSlot s]) H12 z12 ⟨rfl, fm_drop, (all_c kh (all_c ks all_q)), (slH (slS xh s1 trivial)), (show 1 ≤ 8 by decide)⟩ (e11 _ _ c4)
  · rw [hc]
    refine i_ixL (SqL.of c11) (atI_int (by decide) rfl) ?_
    exact q a5 (.dd "give" (qH h x) [qN fSlot s, qH g y, qN fSlot (way / 55 % y.2)]) H12 z12 ⟨rfl, fm_give, (all_c kh (all_c ks (all_c kg (all_c (okN (m := 999) rfl (by decide) gs0 (by omega)) all_q)))), (slH (slS xh s1 (slH (slS xg gs1 trivial)))), (show 3 ≤ 8 by decide)⟩ (e11 _ _ c5)
  · rw [hc]
    refine i_ixL (SqL.of c11) (atI_int (by decide) rfl) ?_
    exact q a6 (.dd "write" (qH h x) [qN fSlot t, qN fLoad load]) H12 z12 ⟨rfl, fm_write, (all_c kh (all_c kt (all_c kl all_q))), (slH (slS xh t1 (slO (by show fLoad ≠ fHand; decide) (by show fLoad ≠ fSlot; decide) trivial))), (show 2 ≤ 8 by decide)⟩ (e11 _ _ c6)
  · rw [hc]
    refine i_ixL (SqL.of c11) (atI_int (by decide) rfl) ?_
    exact q a7 (.dd "read" (qH h x) [qN fSlot t]) H12 z12 ⟨rfl, fm_read, (all_c kh (all_c kt all_q)), (slH (slS xh t1 trivial)), (show 1 ≤ 8 by decide)⟩ (e11 _ _ c7)
  · rw [hc]
    refine i_ixL (SqL.of c11) (atI_int (by decide) rfl) ?_
    exact q a8 (.dd "name" (qH h x) [qN fSlot t, qW word]) H12 z12 ⟨rfl, fm_name, (all_c kh (all_c kt (all_c kw all_q))), (slH (slS xh t1 (slO (by show fWord ≠ fHand; decide) (by show fWord ≠ fSlot; decide) trivial))), (show 2 ≤ 8 by decide)⟩ (e11 _ _ c8)
  · rw [hc]
    refine i_ixL (SqL.of c11) (atI_int (by decide) rfl) ?_
    exact q a9 (.dd "seek" (qH h x) [qN fSlot s, qW word]) H12 z12 ⟨rfl, fm_seek, (all_c kh (all_c ks (all_c kw all_q))), (slH (slS xh s1 (slO (by show fWord ≠ fHand; decide) (by show fWord ≠ fSlot; decide) trivial))), (show 2 ≤ 8 by decide)⟩ (e11 _ _ c9)
  · rw [hc]
    refine i_ixL (SqL.of c11) (atI_int (by decide) rfl) ?_
    exact q a10 (.sw (1 + stp)) H12 z12 ⟨by omega, by omega⟩ (e11 _ _ c10)
theorem rowby_word {c k way other s t f load : Int} {h g : Nat} {l : Addr} {hs : List (Str × Int)} {x y : Str × Int} (hl : HL H l hs) (ok : HOk hs) (cb : Builtin.Int.intBits (c + 3) ≤ 2 ^ 20 + 4)
    (xh : hs[h]? = some x) (xg : hs[g]? = some y) (w0 : 0 ≤ way) (s0 : 0 ≤ s) (s1 : s < x.2) (t0 : 0 ≤ t) (t1 : t < x.2) (f0 : 0 ≤ f) (f1 : f ≤ 999) (l0 : -(10 ^ 60) < load) (l1 : load < 10 ^ 60)
    (q : ∀ a r H', Same H H' → WOk hs r → H' a = some (.tup (valsOf r)) → Q (.ref a) H') :
    (tSeq (tAsg (tCall S_wordby [] E0 (tCons (tVar 0) (tCons (tVar 4) tNil))) (gName 11))
      (tSeq (tIfS (tTest (tOp (rEq) (tOp (rI (fun _ j => 0 < j) fun i j => .int (i % j)) (tOp (rI CDiv fun i j => .int (i / j)) (tVar 4) (tC (.int 3))) (tC (.int 5))) (tC (.int 1)))) (tAsg (tC (.str "sweep")) (gName 11)) tNext)
      (tRet (tOp (rIxL K) (tLst (tCons (tTup (tCons (tC (.str "make")) (tCons (tVar 5) (tCons (tVar 7) (tCons (tOp (rI (fun _ j => 0 < j) fun i j => .int (i % j)) (tOp (rI CDiv fun i j => .int (i / j)) (tVar 4) (tC (.int 45))) (tC (.int 9))) (tCons (tCall S_large [] E0 (tCons (tVar 0) (tCons (tVar 3) (tCons (tOp (rI CPow fun i j => .int (i ^ j.toNat)) (tC (.int 10)) (tC (.int 12))) tNil)))) tNil)))))) (tCons (tTup (tCons (tC (.str "get")) (tCons (tVar 5) (tCons (tVar 7) (tCons (tVar 8) (tCons (tVar 9) tNil)))))) (tCons (tTup (tCons (tC (.str "put")) (tCons (tVar 5) (tCons (tVar 8) (tCons (tVar 9) (tCons (tVar 7) tNil)))))) (tCons (tTup (tCons (tC (.str "copy")) (tCons (tVar 5) (tCons (tVar 7) (tCons (tVar 8) tNil))))) (tCons (tTup (tCons (tC (.str "drop")) (tCons (tVar 5) (tCons (tVar 7) tNil)))) (tCons (tTup (tCons (tC (.str "give")) (tCons (tVar 5) (tCons (tVar 7) (tCons (tVar 6) (tCons (tOp (rI (fun _ j => 0 < j) fun i j => .int (i % j)) (tOp (rI CDiv fun i j => .int (i / j)) (tVar 3) (tC (.int 55))) (tOp (rIxT K) (tOp (rIxL K) (tVar 2) (tVar 6)) (tC (.int 1)))) tNil)))))) (tCons (tTup (tCons (tC (.str "write")) (tCons (tVar 5) (tCons (tVar 8) (tCons (tVar 10) tNil))))) (tCons (tTup (tCons (tC (.str "read")) (tCons (tVar 5) (tCons (tVar 8) tNil)))) (tCons (tTup (tCons (tC (.str "name")) (tCons (tVar 5) (tCons (tVar 8) (tCons (tVar 11) tNil))))) (tCons (tTup (tCons (tC (.str "seek")) (tCons (tVar 5) (tCons (tVar 7) (tCons (tVar 11) tNil))))) (tCons (tTup (tCons (tC (.str "sweep")) (tCons (tOp (rI0 fun i j => .int (i + j)) (tC (.int 1)) (tCall S_large [] E0 (tCons (tVar 0) (tCons (tVar 3) (tCons (tC (.int 9998)) tNil))))) tNil))) tNil)))))))))))) (tOp (rI (fun _ j => 0 < j) fun i j => .int (i % j)) (tVar 3) (tC (.int 11))))))) ⟨n, Q, bk, ct⟩ [some (.int c), some (.int k), some (.ref l), some (.int way), some (.int other), some (.int h), some (.int g), some (.int s), some (.int t), some (.int f), some (.int load), none] H := by
  walk_at "ev"
  refine ⟨_, _, rfl, fun word wb => ?_⟩
  walk_at "ev"
  refine ifd (fun _ => ?_) (fun _ => ?_)
  · exact rowby_ret (word := "sweep") hl ok cb xh xg w0 s0 s1 t0 t1 f0 f1 l0 l1 (by decide +kernel) q
  · exact rowby_ret hl ok cb xh xg w0 s0 s1 t0 t1 f0 f1 l0 l1 wb q
theorem p60 : ((10 : Int) ^ Int.toNat 60) = 10 ^ 60 := rfl
theorem _law_row_by_rd {c k : Int} {l : Addr} (q : ∃ hs : List (Str × Int), HL H l hs ∧ HOk hs ∧ 0 ≤ k ∧ k < 1000 ∧ Builtin.Int.intBits c ≤ 2 ^ 20 ∧ ∀ a r H', Same H H' → WOk hs r → H' a = some (.tup (valsOf r)) → Q (.ref a) H') : rd__law_row_by K S_large S_wordby ⟨n, Q, bk, ct⟩ [some (.int c), some (.int k), some (.ref l), none, none, none, none, none, none, none, none, none] H := by
  obtain ⟨hs, hl, ok, k0, k1, cb', q⟩ := q
  have cb : Builtin.Int.intBits (c + 3) ≤ 2 ^ 20 + 4 := Nat.le_trans (intBits_add_le (n := 2) cb' (by decide)) (by decide)
  obtain ⟨o1, o5, nd, hx⟩ := id ok
  obtain ⟨as, g1, g2, g3⟩ := id hl
  have eb : ∀ i : Nat, i < as.length → as[i]? = some (as.getD i 0) := fun i hi => by rw [List.getElem?_eq_getElem hi, List.getD_eq_getElem?_getD, List.getElem?_eq_getElem hi]; rfl
  unfold rd__law_row_by
  walk_at "ev"
  generalize hway : (c + 17 * k * k + 29) * 48271 % 7919 = way
  generalize hoth : (c + 31 * k + 7) * 16807 % 6133 = other
  have w0 : 0 ≤ way := by rw [← hway]; exact Int.emod_nonneg _ (by decide)
  have v0 : 0 ≤ other := by rw [← hoth]; exact Int.emod_nonneg _ (by decide)
  refine i_lenL (SqL.of g1) ?_
  rw [List.length_map, g2]
  walk_at "ev"
  refine i_lenL (SqL.of g1) ?_
  rw [List.length_map, g2]
  walk_at "ev"
  have hn1 : (0 : Int) < (hs.length : Int) := by omega
  have a0 := Int.emod_nonneg (way / 11) (b := (hs.length : Int)) (by omega)
  have a1 := Int.emod_lt_of_pos (way / 11) hn1
  have b0 := Int.emod_nonneg other (b := (hs.length : Int)) (by omega)
  have b1 := Int.emod_lt_of_pos other hn1
  generalize way / 11 % (hs.length : Int) = h' at a0 a1 ⊢
  generalize other % (hs.length : Int) = g' at b0 b1 ⊢
  obtain ⟨h, rfl⟩ := Int.eq_ofNat_of_zero_le a0
  obtain ⟨g, rfl⟩ := Int.eq_ofNat_of_zero_le b0
  have xh : hs[h]? = some hs[h] := List.getElem?_eq_getElem (by omega)
  have xg : hs[g]? = some hs[g] := List.getElem?_eq_getElem (by omega)
  have bx := hx _ (List.mem_of_getElem? xh)
  obtain ⟨x, hxe⟩ : ∃ x, x = hs[h] := ⟨_, rfl⟩
  rw [← hxe] at xh bx
  obtain ⟨as1, b, g1', eb', gb⟩ := hl.at xh
  have x0 : 0 < x.2 := by omega
  have ixh : ∀ {H' : Hp}, Same H H' → SqL K H' l (as1.map V.ref) := fun s => SqL.of (s _ _ g1')
  have ixa : atI (as1.map V.ref) (h : Int) = some (.ref b) := atI_nat (by rw [List.getElem?_map, eb']; rfl)
  refine i_ixL (ixh (Same.refl _)) ixa ?_
  walk_at "ev"
  refine ⟨b, _, 1, _, rfl, rfl, SqT.of gb, rfl, ?_⟩
  walk_at "ev"
  refine i_ixL (ixh (Same.refl _)) ixa ?_
  walk_at "ev"
  refine ⟨b, _, 1, _, rfl, rfl, SqT.of gb, rfl, ?_⟩
  walk_at "ev"
  have s0 := Int.emod_nonneg (other / 5) (b := x.2) (by omega)
  have s1 := Int.emod_lt_of_pos (other / 5) x0
  have t0 := Int.emod_nonneg (way / 55) (b := x.2) (by omega)
  have t1 := Int.emod_lt_of_pos (way / 55) x0
  generalize other / 5 % x.2 = s at s0 s1 ⊢
  generalize way / 55 % x.2 = t at t0 t1 ⊢
  refine ⟨by show 2 ≤ _; decide, fun e he => ?_⟩
  have s2 := same_new he (.lst [.int 8, .int 999])
  have c2 : upd H e (.lst [.int 8, .int 999]) e = some (.lst [.int 8, .int 999]) := upd_same
  generalize upd H e (.lst [.int 8, .int 999]) = H2 at s2 c2 ⊢
  walk_at "ev"
  obtain ⟨m, em, m0, m1⟩ : ∃ m : Int, atI [V.int 8, V.int 999] (other % 2) = some (.int m) ∧ 0 ≤ m ∧ m ≤ 999 := by
    rcases (show other % 2 = 0 ∨ other % 2 = 1 by omega) with z | z <;> rw [z]
    · exact ⟨8, rfl, by decide, by decide⟩
    · exact ⟨999, rfl, by decide, by decide⟩
  refine i_ixL (SqL.of c2) em ?_
  walk_at "ev"
  refine ⟨_, _, _, rfl, cb, m0, fun f f0 f1 => ?_⟩
  walk_at "ev"
  refine ⟨_, _, _, rfl, cb, by rw [p60]; decide, fun load l0 l1 => ?_⟩
  rw [p60] at l1
  walk_at "ev"
  have q2 : ∀ a r H', Same H2 H' → WOk hs r → H' a = some (.tup (valsOf r)) → Q (.ref a) H' := fun a r H' s3 => q a r H' (s2.trans s3)
  refine ifd (fun _ => ?_) (fun _ => ?_)
  · walk_at "es"
    exact rowby_word (load := 0 - load) (hl.same s2) ok cb xh xg w0 s0 s1 t0 t1 f0 (by omega) (by omega) (by omega) q2
  · exact rowby_word (hl.same s2) ok cb xh xg w0 s0 s1 t0 t1 f0 (by omega) (by omega) (by omega) q2
end
def giveS : Str := "give"
theorem frm_hand : ∀ p ∈ frms, p.1 ≠ sweepS ∧ ∀ i : Nat, i < 8 → (p.2[i + 1]? = some fHand ↔ p.1 = giveS ∧ i = 1) := by decide +kernel
theorem Fv.isHand {hs : List (Str × Int)} {f t : Str} {v d : V} (h : Fv hs f v t d) (e : f = fHand) : ∃ (k : Nat) (x : Str × Int), hs[k]? = some x ∧ v = .int k ∧ t = x.1 ∧ nmOk x.1 := by
  cases h with
  | hand e2 k => exact ⟨_, _, e2, rfl, rfl, k⟩
  | num e2 => rw [e, show mostT.lookup fHand = none by decide] at e2; cases e2
  | load => exact absurd e (by decide)
  | word => exact absurd e (by decide)
theorem Fv.str {hs : List (Str × Int)} {f t : Str} {v d : V} (h : Fv hs f v t d) (e : f ≠ fHand) {H : Hp} {Q : VK} (q : Q (.str t) H) : cStrV [v] H Q := by
  have big : ∀ i : Int, -(10 ^ 60) < i → i < 10 ^ 60 → i.natAbs.log2 < 1920 := fun i a b => by
    by_cases h0 : i.natAbs = 0
    · rw [h0]; decide
    · rw [Nat.log2_lt h0]
      have h1 : i.natAbs < 10 ^ 60 := by omega
      exact Nat.lt_trans (Nat.lt_trans h1 (show (10 : Nat) ^ 60 < 2 ^ 200 by decide)) (Nat.pow_lt_pow_right (by decide) (by decide))
  cases h with
  | hand e2 k => exact absurd rfl e
  | num e2 h0 h1 hm => exact .inl ⟨_, rfl, big _ (Int.lt_of_lt_of_le (by decide) h0) (Int.lt_of_le_of_lt (Int.le_trans h1 hm) (by decide)), q⟩
  | load h0 h1 => exact .inl ⟨_, rfl, big _ h0 h1, q⟩
  | word k => exact .inr ⟨_, rfl, q⟩
def S_textof : Sp := fun vs H Q E => ∃ a l, vs = [.ref a, .ref l] ∧ ∃ (hs : List (Str × Int)) (r : WRow), HL H l hs ∧ hs.length ≤ 5 ∧ H a = some (.tup (valsOf r)) ∧ WOk hs r ∧ Q (.str (rowT r)) H
section
variable {K : PySem.W.Frag} {H : Hp} {Q : VK} {E : XK} {n : St → Hp → Prop} {bk ct : St → Hp → Prop}
theorem _law_text_of_rd {a l : Addr} (q : ∃ (hs : List (Str × Int)) (r : WRow), HL H l hs ∧ hs.length ≤ 5 ∧ H a = some (.tup (valsOf r)) ∧ WOk hs r ∧ Q (.str (rowT r)) H) : rd__law_text_of K ⟨n, Q, bk, ct⟩ [some (.ref a), some (.ref l), none, none, none] H := by
  obtain ⟨hs, r, hl, h5, ha, ok, h⟩ := q
  have b1l : (" " : Str).length = 1 := rfl
  have b6l : ("sweep " : Str).length = 6 := rfl
  unfold rd__law_text_of
  cases r with
  | sw m =>
    walk_at "ev"
    refine ⟨a, _, 0, _, rfl, rfl, SqT.of ha, rfl, ?_⟩
    walk_at "ev"
    refine ifd (fun _ => ?_) (fun z => absurd rfl z)
    walk_at "ev"
    refine ⟨a, _, 1, _, rfl, rfl, SqT.of ha, rfl, ?_⟩
    walk_at "ev"
    have ok1 := ok.1
    refine i_strI (by omega) (Int.lt_of_le_of_lt ok.2 (by decide)) fun t et _ t2 => ?_
    obtain rfl : t = tS m := et
    refine i_catS (len_ok (by omega)) ?_
    have e : ("sweep " : Str) ++ tS m = rowT (.sw m) := by
      refine str_ext ?_
      unfold rowT
      rw [join_jl, app_cps]
      rfl
    rw [e]
    exact h
  | dd w q0 qs =>
    obtain ⟨ef, hm, okq, so, h8⟩ := ok
    obtain ⟨k, x, ek, ev, et, nk⟩ := (okq q0 List.mem_cons_self).1.isHand ef
    obtain ⟨as, b, g1, g2, g3⟩ := hl.at ek
    have fh := frm_hand _ hm
    have wl : w.length ≤ 100 := (frms_free _ hm).2.2
    have xl := (word_let nk.1).1
    have v0 : atI (valsOf (.dd w q0 qs)) 0 = some (.str w) := atI_int (by decide) rfl
    have v1 : atI (valsOf (.dd w q0 qs)) 1 = some (.int k) := atI_int (by decide) (congrArg some ev)
    have vi : ∀ (i : Nat) z, qs[i]? = some z → atI (valsOf (.dd w q0 qs)) (2 + (i : Int)) = some z.2.1 := fun i z e => atI_int (by omega) (by
      rw [show (2 + (i : Int)).toNat = i + 1 + 1 from by omega]
      show ((q0 :: qs).map fun z : Qd => z.2.1)[i + 1]? = _
      rw [List.getElem?_map, List.getElem?_cons_succ, e]; rfl)
    have vl : (valsOf (.dd w q0 qs)).length = qs.length + 2 := by show (List.map _ (q0 :: qs)).length + 1 = _; rw [List.length_map, List.length_cons]
    have tl : ∀ i : Nat, (Str.join ⟨#[32]⟩ (x.1 :: w :: (qs.take i).map fun z : Qd => z.2.2.1)).length ≤ 1100 := fun i => by
      have e := jl_len 32 (ps := x.1 :: w :: (qs.take i).map fun z : Qd => z.2.2.1) (by simp)
      rw [← join_jl, str_len] at e
      have b := sum_le (ps := x.1 :: w :: (qs.take i).map fun z : Qd => z.2.2.1) (fun p hp => by
        rcases List.mem_cons.mp hp with rfl | hp
        · omega
        rcases List.mem_cons.mp hp with rfl | hp
        · exact wl
        obtain ⟨z, hz, rfl⟩ := List.mem_map.mp hp
        exact (okq z (List.mem_cons_of_mem _ (List.mem_of_mem_take hz))).2)
      have c : (x.1 :: w :: (qs.take i).map fun z : Qd => z.2.2.1).length ≤ 10 := by
        rw [List.length_cons, List.length_cons, List.length_map, List.length_take]; omega
      omega
    walk_at "ev"
    refine ⟨a, _, 0, _, rfl, rfl, SqT.of ha, v0, ?_⟩
    walk_at "ev"
    refine ifd (fun z => absurd z fh.1) (fun _ => ?_)
    walk_at "ev"
    refine ⟨a, _, 1, _, rfl, rfl, SqT.of ha, v1, ?_⟩
    walk_at "ev"
    refine i_ixL (v := .ref b) (SqL.of g1) (atI_nat (by rw [List.getElem?_map, g2]; rfl)) ?_
    walk_at "ev"
    refine ⟨b, _, 0, _, rfl, rfl, SqT.of g3, rfl, ?_⟩
    walk_at "ev"
    refine i_catS (len_ok (by omega)) ?_
    walk_at "ev"
    refine ⟨a, _, 0, _, rfl, rfl, SqT.of ha, v0, ?_⟩
    walk_at "ev"
    refine i_catS (len_ok (by rw [app_len]; omega)) ?_
    walk_at "ev"
    unfold iRng2
    walk_at "ev"
    refine ⟨a, _, rfl, .inr (SqT.of ha), ?_⟩
    rw [vl]
    walk_at "ev"
    refine ⟨_, _, rfl, ⟨by omega, by omega, by omega, by omega⟩, ?_⟩
    rw [show (((qs.length + 2 : Nat) : Int) - 2).toNat = qs.length from by omega]
    refine forR (fun i σ Hx => ∃ v3 v4, σ = [some (.ref a), some (.ref l), some (.str (Str.join ⟨#[32]⟩ (x.1 :: w :: (qs.take i).map fun z : Qd => z.2.2.1))), v3, v4] ∧ Hx = H) ⟨none, none, rfl, rfl⟩ ?_ ?_
    · rintro i σ Hx hi ⟨v3, v4, rfl, rfl⟩
      have ez : qs[i]? = some qs[i] := List.getElem?_eq_getElem hi
      have zk := okq _ (List.mem_cons_of_mem _ (List.getElem_mem hi))
      have fi := fh.2 i (by omega)
      have fz : ((w, (q0 :: qs).map fun z : Qd => z.1).2)[i + 1]? = some qs[i].1 := by
        show ((q0 :: qs).map fun z : Qd => z.1)[i + 1]? = _
        rw [List.getElem?_map, List.getElem?_cons_succ, ez]; rfl
      rw [fz] at fi
      have vz := vi i _ ez
      have et2 : qs.take (i + 1) = qs.take i ++ [qs[i]] := by rw [List.take_add_one, ez]; rfl
      have ti := tl i
      generalize qs[i] = z at zk fi vz et2
      have zl := zk.2
      have fin : Str.join ⟨#[32]⟩ (x.1 :: w :: (qs.take (i + 1)).map fun z : Qd => z.2.2.1) = Str.join ⟨#[32]⟩ (x.1 :: w :: (qs.take i).map fun z : Qd => z.2.2.1) ++ (" " : Str) ++ z.2.2.1 := by
        rw [et2, List.map_append]
        exact join_snoc (ps := x.1 :: w :: (qs.take i).map fun z : Qd => z.2.2.1) (by simp)
      walk_at "ev"
      refine ⟨a, _, _, _, rfl, rfl, SqT.of ha, vz, ?_⟩
      walk_at "ev"
      by_cases hz : z.1 = fHand
      · obtain ⟨k2, x2, ek2, ev2, et2', nk2⟩ := zk.1.isHand hz
        obtain ⟨as2, b2, g12, g22, g32⟩ := hl.at ek2
        have hk2 := (List.getElem?_eq_some_iff.mp ek2).1
        obtain ⟨ew, ei⟩ := fi.mp (congrArg some hz)
        have ew : w = giveS := ew
        subst ei
        rw [ev2] at vz ⊢
        refine .inl ⟨_, rfl, ?_, ?_⟩
        · show k2.log2 < 1920
          exact Nat.lt_of_le_of_lt (Nat.log2_le_self k2) (by omega)
        walk_at "ev"
        refine ⟨a, _, 0, _, rfl, rfl, SqT.of ha, v0, ?_⟩
        walk_at "ev"
        refine ifd (fun _ => ?_) (fun e => absurd ew e)
        walk_at "ev"
        refine ifd (fun _ => ?_) (fun e => absurd (by decide) e)
        walk_at "ev"
        refine ⟨a, _, 3, _, rfl, rfl, SqT.of ha, vz, ?_⟩
        walk_at "ev"
        refine i_ixL (v := .ref b2) (SqL.of g12) (atI_nat (by rw [List.getElem?_map, g22]; rfl)) ?_
        walk_at "ev"
        refine ⟨b2, _, 0, _, rfl, rfl, SqT.of g32, rfl, ?_⟩
        rw [et2'] at fin zl
        walk_at "ev"
        refine i_catS (len_ok (by omega)) ?_
        walk_at "ev"
        refine i_catS (len_ok (by rw [app_len]; omega)) ?_
        walk_at "ev"
        exact ⟨_, _, by rw [fin], rfl⟩
      · refine zk.1.str hz ?_
        walk_at "ev"
        refine ⟨a, _, 0, _, rfl, rfl, SqT.of ha, v0, ?_⟩
        walk_at "ev"
        refine ifd (fun ew => ?_) (fun _ => ?_)
        · walk_at "ev"
          refine ifd (fun e3 => absurd (Option.some.inj (fi.mpr ⟨ew, by omega⟩)) hz) (fun _ => ?_)
          walk_at "ev"
          refine i_catS (len_ok (by omega)) ?_
          walk_at "ev"
          refine i_catS (len_ok (by rw [app_len]; omega)) ?_
          walk_at "ev"
          exact ⟨_, _, by rw [fin], rfl⟩
        · skip
          walk_at "ev"
          refine i_catS (len_ok (by omega)) ?_
          walk_at "ev"
          refine i_catS (len_ok (by rw [app_len]; omega)) ?_
          walk_at "ev"
          exact ⟨_, _, by rw [fin], rfl⟩
    · rintro σ Hx ⟨v3, v4, rfl, rfl⟩
      rw [List.take_length]
      walk_at "ev"
      rw [← et]
      exact h
end
def S_wpart : Sp := fun vs H Q E => ∃ f v nl, vs = [.str f, v, .ref nl] ∧ ∃ (hs : List (Str × Int)) (t : Str) (d : V), H nl = some (.lst ((hs.map fun z : Str × Int => z.1).map V.str)) ∧ Fv hs f v t d ∧ Q (.str t) H
def S_wrowW : Sp := fun vs H Q E => ∃ a nl, vs = [.ref a, .ref nl] ∧ ∃ (hs : List (Str × Int)) (r : WRow), H nl = some (.lst ((hs.map fun z : Str × Int => z.1).map V.str)) ∧ H a = some (.tup (valsOf r)) ∧ WOk hs r ∧ ∀ H', Same H H' → Q (.str (rowT r)) H'
section
variable {K : PySem.W.Frag} {H : Hp} {Q : VK} {E : XK} {n : St → Hp → Prop} {bk ct : St → Hp → Prop}
theorem written_part_rd {f : Str} {v : V} {nl : Addr} (q : ∃ (hs : List (Str × Int)) (t : Str) (d : V), H nl = some (.lst ((hs.map fun z : Str × Int => z.1).map V.str)) ∧ Fv hs f v t d ∧ Q (.str t) H) : rd_written_part K ⟨n, Q, bk, ct⟩ [some (.str f), some v, some (.ref nl)] H := by
  obtain ⟨hs, t, d, hn, fv, h⟩ := q
  unfold rd_written_part
  walk_at "ev"
  refine ifd (fun e => ?_) (fun e => ?_)
  · obtain ⟨k, x, ek, rfl, rfl, nk⟩ := fv.isHand e
    walk_at "ev"
    exact i_ixL (v := .str x.1) (SqL.of hn) (atI_nat (by rw [List.getElem?_map, List.getElem?_map, ek]; rfl)) h
  · walk_at "ev"
    exact fv.str e h
theorem sx_one (w : V) (r : List V) : HT.sIx (w :: r).length 0 (some 1) = 1 := by
  unfold HT.sIx
  simp
  try omega
theorem cut_t1 (w : V) (r : List V) : cutV (w :: r) (some 1) none = r := by
  unfold cutV
  have x1 : HT.sIx (w :: r).length 0 (some 1) = 1 := by
    unfold HT.sIx
    simp
    try omega
  have x2 : HT.sIx (w :: r).length (w :: r).length none = (w :: r).length := rfl
  rw [x1, x2]
  simp
theorem cut_h1 (w : V) (r : List V) : cutV (w :: r) none (some 1) = [w] := by
  unfold cutV
  have x1 : HT.sIx (w :: r).length 0 none = 0 := rfl
  have x2 : HT.sIx (w :: r).length (w :: r).length (some 1) = 1 := by
    unfold HT.sIx
    simp
    try omega
  rw [x1, x2]
  simp
theorem written_row_rd {a nl : Addr} (q : ∃ (hs : List (Str × Int)) (r : WRow), H nl = some (.lst ((hs.map fun z : Str × Int => z.1).map V.str)) ∧ H a = some (.tup (valsOf r)) ∧ WOk hs r ∧ ∀ H', Same H H' → Q (.str (rowT r)) H') : rd_written_row K (S_forms K) S_wpart ⟨n, Q, bk, ct⟩ [some (.ref a), some (.ref nl), none, none] H := by
  obtain ⟨hs, r, hn, ha, ok, h⟩ := q
  have rl := ok.len
  unfold rd_written_row
  cases r with
  | sw m =>
    walk_at "ev"
    refine ⟨a, _, 0, _, rfl, rfl, SqT.of ha, rfl, ?_⟩
    walk_at "ev"
    refine ifd (fun _ => ?_) (fun z => absurd rfl z)
    walk_at "ev"
    refine ⟨a, _, 1, _, rfl, rfl, SqT.of ha, rfl, ?_⟩
    walk_at "ev"
    have ok1 := ok.1
    refine i_strI (by omega) (Int.lt_of_le_of_lt ok.2 (by decide)) fun t et _ t2 => ?_
    obtain rfl : t = tS m := et
    walk_at "ev"
    refine ⟨by show 2 ≤ _; decide, fun lw hlw => ?_⟩
    have s1 := same_new hlw (.lst [.str sweepS, .str (tS m)])
    have c1 : upd H lw (.lst [.str sweepS, .str (tS m)]) lw = some (.lst ([sweepS, tS m].map V.str)) := upd_same
    generalize upd H lw (.lst [.str sweepS, .str (tS m)]) = H1 at s1 c1 ⊢
    have l5 : (sweepS : Str).length = 5 := rfl
    refine ⟨" ", lw, [sweepS, tS m], rfl, rfl, SqL.of c1, by decide, (show sweepS.length + ((tS m).length + 0) + 2 ≤ _ by omega), ?_⟩
    rw [show Txt.join " " [sweepS, tS m] = rowT (.sw m) from StrLaws.glued_eq_join _ _]
    exact h _ s1
  | dd w q0 qs =>
    obtain ⟨ef, hm, okq, so, h8⟩ := ok
    have fh := frm_hand _ hm
    have v0 : atI (valsOf (.dd w q0 qs)) 0 = some (.str w) := atI_int (by decide) rfl
    walk_at "ev"
    refine ⟨a, _, 0, _, rfl, rfl, SqT.of ha, v0, ?_⟩
    walk_at "ev"
    refine ifd (fun z => absurd z fh.1) (fun _ => ?_)
    walk_at "ev"
    refine ⟨w, rfl, _, hm, fun fa tf => ?_⟩
    walk_at "ev"
    refine ⟨a, _, rfl, SqT.of ha, (fun z => by have z1 := z.1; rw [show HT.sIx (valsOf (.dd w q0 qs)).length 0 (some 1) = 1 from sx_one _ _] at z1; cases z1), fun ta hta => ?_⟩
    rw [show cutV (valsOf (.dd w q0 qs)) (some 1) none = (q0 :: qs).map (fun z : Qd => z.2.1) from cut_t1 _ _]
    have s1 := same_new hta (.tup ((q0 :: qs).map fun z : Qd => z.2.1))
    have c1 : upd H ta (.tup ((q0 :: qs).map fun z : Qd => z.2.1)) ta = some (.tup ((q0 :: qs).map fun z : Qd => z.2.1)) := upd_same
    generalize upd H ta (.tup ((q0 :: qs).map fun z : Qd => z.2.1)) = H1 at s1 c1 ⊢
    walk_at "ev"
    refine ⟨fa, ta, rfl, ⟨_, tf _⟩, ⟨_, SqT.of c1⟩, ?_⟩
    refine lc_zip2 (t1 := true) (t2 := true) (xs := ((q0 :: qs).map fun z : Qd => z.1).map V.str) (ys := (q0 :: qs).map fun z : Qd => z.2.1) (fun H' _ => tf H') (fun H' s' => SqT.of (s' _ _ c1)) (by simp only [List.length_map]) (by simp only [List.length_map, List.length_cons]; omega) (fun i v => ∃ x, (q0 :: qs)[i]? = some x ∧ v = .str x.2.2.1) (fun i x y H4 hx hy s4 q' hq => ?_) fun vs H4 s4 hl hv l hl4 => ?_
    · rw [List.getElem?_map, List.getElem?_map] at hx
      rw [List.getElem?_map] at hy
      cases ei : (q0 :: qs)[i]? with
      | none => rw [ei] at hx; cases hx
      | some z =>
        rw [ei] at hx hy
        cases hx
        cases hy
        have oz := okq z (List.mem_of_getElem? ei)
        walk_at "caps"
        walk_at "ev"
        exact ⟨_, _, nl, rfl, hs, _, _, s4 _ _ (s1 _ _ hn), oz.1, hq _ _ (Same.refl _) ⟨z, ei, rfl⟩⟩
    have ev : vs = ((q0 :: qs).map fun z : Qd => z.2.2.1).map V.str := by
      refine List.ext_getElem? fun i => ?_
      rw [List.getElem?_map, List.getElem?_map]
      cases e1 : vs[i]? with
      | none =>
        have := List.getElem?_eq_none_iff.mp e1
        rw [List.getElem?_eq_none (by simp only [List.length_map] at hl; omega)]
        rfl
      | some v =>
        obtain ⟨x, ex, rfl⟩ := hv i v e1
        rw [ex]; rfl
    subst ev
    have s5 := same_new hl4 (.lst (((q0 :: qs).map fun z : Qd => z.2.2.1).map V.str))
    have c5 : upd H4 l (.lst (((q0 :: qs).map fun z : Qd => z.2.2.1).map V.str)) l = some (.lst (((q0 :: qs).map fun z : Qd => z.2.2.1).map V.str)) := upd_same
    generalize upd H4 l (.lst (((q0 :: qs).map fun z : Qd => z.2.2.1).map V.str)) = H5 at s5 c5 ⊢
    walk_at "ev"
    refine ⟨l, _, rfl, SqL.of c5, fun la hla => ?_⟩
    rw [show cutV (((q0 :: qs).map fun z : Qd => z.2.2.1).map V.str) none (some 1) = [.str q0.2.2.1] from cut_h1 _ _]
    have s6 := same_new hla (.lst [.str q0.2.2.1])
    have c6 : upd H5 la (.lst [.str q0.2.2.1]) la = some (.lst [.str q0.2.2.1]) := upd_same
    generalize upd H5 la (.lst [.str q0.2.2.1]) = H6 at s6 c6 ⊢
    walk_at "ev"
    refine ⟨by show 1 ≤ _; decide, fun lb hlb => ?_⟩
    have s7 := same_new hlb (.lst [.str w])
    have c7 : upd H6 lb (.lst [.str w]) lb = some (.lst [.str w]) := upd_same
    generalize upd H6 lb (.lst [.str w]) = H7 at s7 c7 ⊢
    walk_at "ev"
    refine ⟨la, lb, _, _, rfl, rfl, s7 _ _ c6, c7, len_ok (by show 1 + 1 ≤ _; decide), fun lc hlc => ?_⟩
    have s8 := same_new hlc (.lst ([.str q0.2.2.1] ++ [.str w]))
    have c8 : upd H7 lc (.lst ([.str q0.2.2.1] ++ [.str w])) lc = some (.lst ([.str q0.2.2.1] ++ [.str w])) := upd_same
    generalize upd H7 lc (.lst ([.str q0.2.2.1] ++ [.str w])) = H8 at s8 c8 ⊢
    walk_at "ev"
    have c58 := s8 _ _ (s7 _ _ (s6 _ _ c5))
    refine ⟨l, _, rfl, SqL.of c58, fun ld hld => ?_⟩
    rw [show cutV (((q0 :: qs).map fun z : Qd => z.2.2.1).map V.str) (some 1) none = (qs.map fun z : Qd => z.2.2.1).map V.str from cut_t1 _ _]
    have s9 := same_new hld (.lst ((qs.map fun z : Qd => z.2.2.1).map V.str))
    have c9 : upd H8 ld (.lst ((qs.map fun z : Qd => z.2.2.1).map V.str)) ld = some (.lst ((qs.map fun z : Qd => z.2.2.1).map V.str)) := upd_same
    generalize upd H8 ld (.lst ((qs.map fun z : Qd => z.2.2.1).map V.str)) = H9 at s9 c9 ⊢
    refine ⟨lc, ld, _, _, rfl, rfl, s9 _ _ c8, c9, len_ok (by rw [List.length_map, List.length_map]; show 2 + _ ≤ _; omega), fun le hle => ?_⟩
    have s10 := same_new hle (.lst ([.str q0.2.2.1] ++ [.str w] ++ (qs.map fun z : Qd => z.2.2.1).map V.str))
    have c10 : upd H9 le (.lst ([.str q0.2.2.1] ++ [.str w] ++ (qs.map fun z : Qd => z.2.2.1).map V.str)) le = some (.lst ((partsOf (.dd w q0 qs)).map V.str)) := upd_same
    generalize upd H9 le (.lst ([.str q0.2.2.1] ++ [.str w] ++ (qs.map fun z : Qd => z.2.2.1).map V.str)) = H10 at s10 c10 ⊢
    walk_at "ev"
    have jn : (rowT (.dd w q0 qs)).length + 1 = ((partsOf (.dd w q0 qs)).map (·.length)).sum + (partsOf (.dd w q0 qs)).length := by
      unfold rowT
      rw [← jl_len 32 (parts_ne _), ← join_jl, str_len]
    refine ⟨" ", le, partsOf (.dd w q0 qs), rfl, rfl, SqL.of c10, by decide, by omega, ?_⟩
    rw [show Txt.join " " (partsOf (.dd w q0 qs)) = rowT (.dd w q0 qs) from StrLaws.glued_eq_join _ _]
    exact h _ (s1.trans (s4.trans (s5.trans (s6.trans (s7.trans (s8.trans (s9.trans s10)))))))
end
def RV (H : Hp) (l : Addr) (vss : List (List V)) : Prop := ∃ as : List Addr, H l = some (.lst (as.map V.ref)) ∧ as.length = vss.length ∧ ∀ (i : Nat) a, as[i]? = some a → ∃ vs, vss[i]? = some vs ∧ H a = some (.tup vs)
def hdV (x : Str × Int) : List V := [.str x.1, .int x.2]
theorem HL.rv {H : Hp} {l : Addr} {hs : List (Str × Int)} (h : HL H l hs) : RV H l (hs.map hdV) := by
  obtain ⟨as, h1, h2, h3⟩ := h
  exact ⟨as, h1, by rw [List.length_map, h2], fun i a ha => let ⟨x, e, q⟩ := h3 i a ha; ⟨_, by rw [List.getElem?_map, e]; rfl, q⟩⟩
theorem RL.rv {H : Hp} {l : Addr} {rs : List WRow} (h : RL H l rs) : RV H l (rs.map valsOf) := by
  obtain ⟨as, h1, h2, h3⟩ := h
  exact ⟨as, h1, by rw [List.length_map, h2], fun i a ha => let ⟨x, e, q⟩ := h3 i a ha; ⟨_, by rw [List.getElem?_map, e]; rfl, q⟩⟩
theorem RL.same {H H1 : Hp} {l : Addr} {rs : List WRow} (h : RL H l rs) (s : Same H H1) : RL H1 l rs := by
  obtain ⟨as, h1, h2, h3⟩ := h
  exact ⟨as, s _ _ h1, h2, fun i a ha => let ⟨x, e, q⟩ := h3 i a ha; ⟨x, e, s _ _ q⟩⟩
theorem RV.same {H H1 : Hp} {l : Addr} {rs : List (List V)} (h : RV H l rs) (s : Same H H1) : RV H1 l rs := by
  obtain ⟨as, h1, h2, h3⟩ := h
  exact ⟨as, s _ _ h1, h2, fun i a ha => let ⟨x, e, q⟩ := h3 i a ha; ⟨x, e, s _ _ q⟩⟩
def VOk (vss : List (List V)) : Prop := vss.length ≤ 100 ∧ ∀ r ∈ vss, r.length ≤ 100 ∧ ∀ x ∈ r, flV x
theorem hd_ok {hs : List (Str × Int)} (h : hs.length ≤ 5) : VOk (hs.map hdV) := by
  refine ⟨by rw [List.length_map]; omega, fun r hr => ?_⟩
  obtain ⟨x, _, rfl⟩ := List.mem_map.mp hr
  refine ⟨by show 2 ≤ 100; decide, fun v hv => ?_⟩
  rcases List.mem_cons.mp hv with rfl | hv
  · exact .inr ⟨_, rfl⟩
  · rw [List.mem_singleton.mp hv]; exact .inl ⟨_, rfl⟩
theorem rw_ok {hs : List (Str × Int)} {rs : List WRow} (h : rs.length ≤ 90) (ok : ∀ r ∈ rs, WOk hs r) : VOk (rs.map valsOf) := by
  refine ⟨by rw [List.length_map]; omega, fun r hr => ?_⟩
  obtain ⟨x, hx, rfl⟩ := List.mem_map.mp hr
  exact (ok x hx).fl
def S_srows : Sp := fun vs H Q E => ∃ l1 l2, vs = [.ref l1, .ref l2] ∧ ∃ rs : List (List V), RV H l1 rs ∧ RV H l2 rs ∧ rs.length ≤ 100 ∧ (∀ r ∈ rs, r.length ≤ 100 ∧ ∀ x ∈ r, flV x) ∧ ∀ H', Same H H' → Q (.bl true) H'
def S_kindby : Sp := fun vs H Q E => ∃ c, vs = [.int c] ∧ ∀ w t H', 0 ≤ w → w < 3 → 0 ≤ t → t < 4 → Same H H' → Q (.str (words w t)) H'
def S_sscene (CS CK CF CE CL : Addr) : Sp := fun vs H Q E => ∃ sc m z hl rl, vs = [.ref sc, .int m, .str z, .ref hl, .ref rl] ∧ ∃ dx kd h2 r2 lk w t vh vr, H sc = some (.ins CS dx (sceneF m kd h2 r2)) ∧ KdO CK CF CE CL H kd lk w t ∧ 0 ≤ t ∧ t < 4 ∧ z = words w t ∧ RV H h2 vh ∧ RV H hl vh ∧ VOk vh ∧ RV H r2 vr ∧ RV H rl vr ∧ VOk vr ∧ ∀ H', Same H H' → Q (.bl true) H'
section
variable {K : PySem.W.Frag} {C_First C_Each C_Last C_Kind C_Scene C_FORMS_copy C_FORMS_drop C_FORMS_get C_FORMS_give C_FORMS_make C_FORMS_name C_FORMS_put C_FORMS_read C_FORMS_seek C_FORMS_write : Addr} {H : Hp} {Q : VK} {E : XK} {n : St → Hp → Prop} {bk ct : St → Hp → Prop}
theorem _law_same_rows_rd {l1 l2 : Addr} (q : ∃ rs : List (List V), RV H l1 rs ∧ RV H l2 rs ∧ rs.length ≤ 100 ∧ (∀ r ∈ rs, r.length ≤ 100 ∧ ∀ x ∈ r, flV x) ∧ ∀ H', Same H H' → Q (.bl true) H') : rd__law_same_rows K S_srow ⟨n, Q, bk, ct⟩ [some (.ref l1), some (.ref l2), none, none] H := by
  obtain ⟨rs, ⟨as, a1, a2, a3⟩, ⟨bs, b1, b2, b3⟩, h100, fx, h⟩ := q
  unfold rd__law_same_rows
  walk_at "ev"
  refine i_isiL_list a1 ?_
  walk_at "ev"
  refine i_lenL (SqL.of a1) ?_
  walk_at "ev"
  refine i_lenL (SqL.of b1) ?_
  walk_at "ev"
  rw [List.length_map, List.length_map, a2, b2]
  refine ifnd (fun z => absurd rfl z) (fun _ => ?_)
  walk_at "ev"
  refine ⟨l1, l2, rfl, ⟨_, SqL.of a1⟩, ⟨_, SqL.of b1⟩, ?_⟩
  refine forZ (as.map V.ref) (bs.map V.ref) (by rw [List.length_map, List.length_map]; omega) (fun i σ H2 => ∃ v2 v3, σ = [some (.ref l1), some (.ref l2), v2, v3] ∧ Same H H2) ⟨none, none, rfl, Same.refl _⟩ (fun i σ H2 _ ⟨_, _, _, s⟩ => ⟨SqL.of (s _ _ a1), SqL.of (s _ _ b1)⟩) ?_ ?_
  · rintro i x y tp σ H2 hx hy ⟨v2, v3, rfl, s2⟩ htp
    rw [List.getElem?_map] at hx hy
    obtain ⟨a, ha, rfl⟩ := Option.map_eq_some_iff.mp hx
    obtain ⟨b, hb, rfl⟩ := Option.map_eq_some_iff.mp hy
    obtain ⟨z, ez, az⟩ := a3 i a ha
    obtain ⟨z', ez', bz⟩ := b3 i b hb
    rw [ez] at ez'
    cases ez'
    have fz := fx z (List.mem_of_getElem? ez)
    have s3 := same_new htp (.tup [.ref a, .ref b])
    have c3 : upd H2 tp (.tup [.ref a, .ref b]) tp = some (.tup [.ref a, .ref b]) := upd_same
    generalize upd H2 tp (.tup [.ref a, .ref b]) = H3 at s3 c3 ⊢
    refine ⟨tp, _, rfl, SqT.of c3, rfl, ?_⟩
    refine ⟨_, _, rfl, ?_⟩
    walk_at "ev"
    refine ⟨_, _, rfl, ?_⟩
    walk_at "ev"
    refine ⟨rfl, ?_⟩
    walk_at "ev"
    refine ⟨a, b, rfl, z, s3 _ _ (s2 _ _ az), s3 _ _ (s2 _ _ bz), fz.1, fz.2, fun H4 s4 => ?_⟩
    walk_at "ev"
    exact ⟨_, _, rfl, s2.trans (s3.trans s4)⟩
  · rintro σ H2 ⟨v2, v3, rfl, s2⟩
    walk_at "ev"
    exact h _ s2
theorem _law_kind_by_rd {c : Int} (q : ∀ w t H', 0 ≤ w → w < 3 → 0 ≤ t → t < 4 → Same H H' → Q (.str (words w t)) H') : rd__law_kind_by K ⟨n, Q, bk, ct⟩ [some (.int c), none] H := by
  unfold rd__law_kind_by
  walk_at "ev"
  refine ⟨by decide, fun l hl => ?_⟩
  have s1 := same_new hl (.lst [.str "first", .str "each", .str "last"])
  have c1 : upd H l (.lst [.str "first", .str "each", .str "last"]) l = some (.lst [.str "first", .str "each", .str "last"]) := upd_same
  generalize upd H l (.lst [.str "first", .str "each", .str "last"]) = H1 at s1 c1 ⊢
  walk_at "ev"
  have w0 : 0 ≤ c % 3 := by omega
  have w1 : c % 3 < 3 := by omega
  generalize c % 3 = w at w0 w1 ⊢
  have hw : w = 0 ∨ w = 1 ∨ w = 2 := by omega
  have ea : atI ([.str "first", .str "each", .str "last"] : List V) w = some (.str (wd w)) := by
    rcases hw with rfl | rfl | rfl <;> rfl
  refine i_ixL (SqL.of c1) ea ?_
  have lw := wd_len w
  have l4 : (" old" : Str).length = 4 := rfl
  have l5 : (" new" : Str).length = 4 := rfl
  walk_at "ev"
  refine ifd (fun e => ?_) (fun e => ?_)
  · walk_at "ev"
    refine i_catS (len_ok (by omega)) ?_
    walk_at "ev"
    refine ifd (fun e => ?_) (fun e => ?_)
    · walk_at "ev"
      refine i_catS (len_ok (by rw [app_len]; omega)) ?_
      walk_at "ev"
      rw [← w3 hw]
      exact q w 3 _ w0 w1 (by decide) (by decide) s1
    · walk_at "ev"
      exact q w 1 _ w0 w1 (by decide) (by decide) s1
  · walk_at "ev"
    refine ifd (fun e => ?_) (fun e => ?_)
    · walk_at "ev"
      refine i_catS (len_ok (by omega)) ?_
      walk_at "ev"
      exact q w 2 _ w0 w1 (by decide) (by decide) s1
    · walk_at "ev"
      rw [← K38.w0 hw]
      exact q w 0 _ w0 w1 (by decide) (by decide) s1
theorem _law_same_scene_rd {sc hl rl : Addr} {m : Int} {z : Str} (T : TxS K C_Kind C_Scene C_FORMS_copy C_FORMS_drop C_FORMS_get C_FORMS_give C_FORMS_make C_FORMS_name C_FORMS_put C_FORMS_read C_FORMS_seek C_FORMS_write) (q : ∃ dx kd h2 r2 lk w t vh vr, H sc = some (.ins C_Scene dx (sceneF m kd h2 r2)) ∧ KdO C_Kind C_First C_Each C_Last H kd lk w t ∧ 0 ≤ t ∧ t < 4 ∧ z = words w t ∧ RV H h2 vh ∧ RV H hl vh ∧ VOk vh ∧ RV H r2 vr ∧ RV H rl vr ∧ VOk vr ∧ ∀ H', Same H H' → Q (.bl true) H') :
    rd__law_same_scene K C_Kind (S_words C_Kind C_First C_Each C_Last) S_srows S_whole ⟨n, Q, bk, ct⟩ [some (.ref sc), some (.int m), some (.str z), some (.ref hl), some (.ref rl)] H := by
  obtain ⟨dx, kd, h2, r2, lk, w, t, vh, vr, o, kk, t0, t1, rfl, a1, a2, ao, b1, b2, bo, h⟩ := q
  unfold rd__law_same_scene
  walk_at "ev"
  refine i_fldK o T.cl_Scene T.n_room sceneF_lk_room ?_
  walk_at "ev"
  refine ⟨m, rfl, ?_⟩
  walk_at "ev"
  refine i_fldK o T.cl_Scene T.n_room sceneF_lk_room ?_
  walk_at "ev"
  refine ifnd (fun z => absurd rfl z) (fun _ => ?_)
  walk_at "ev"
  refine i_fldK o T.cl_Scene T.n_kind sceneF_lk_kind ?_
  walk_at "ev"
  obtain ⟨dk, ok7⟩ := kk.ok
  refine ⟨kd, dk, _, rfl, ok7, kindF_no_words, ?_⟩
  walk_at "ev"
  refine ⟨kd, rfl, lk, w, t, kk, t0, t1, fun H6 s6 => ?_⟩
  walk_at "ev"
  refine ifnd (fun z => absurd rfl z) (fun _ => ?_)
  walk_at "ev"
  refine i_fldK (s6 _ _ o) T.cl_Scene T.n_hands sceneF_lk_hands ?_
  walk_at "ev"
  refine ⟨h2, hl, rfl, vh, a1.same s6, a2.same s6, ao.1, ao.2, fun H7 s7 => ?_⟩
  walk_at "ev"
  have s67 := s6.trans s7
  refine i_fldK (s67 _ _ o) T.cl_Scene T.n_rows sceneF_lk_rows ?_
  walk_at "ev"
  exact ⟨r2, rl, rfl, vr, b1.same s67, b2.same s67, bo.1, bo.2, fun H8 s8 => h _ (s67.trans s8)⟩
end
theorem e_app (x : Str) : Str.empty ++ x = x := str_ext (by rw [app_cps]; rfl)
theorem KdO.wb {CK CF CE CL : Addr} {H : Hp} {kd lk : Addr} {w t : Int} (h : KdO CK CF CE CL H kd lk w t) : 0 ≤ w ∧ w < 3 := by
  obtain ⟨_, _, h⟩ := h
  rcases h with ⟨e, _⟩ | ⟨e, _⟩ | ⟨e, _⟩ <;> omega
theorem big_log {i : Int} (a : 0 ≤ i) (b : i < 10 ^ 60) : i.natAbs.log2 < 1920 := by
  by_cases h0 : i.natAbs = 0
  · rw [h0]; decide
  · rw [Nat.log2_lt h0]
    have h1 : i.natAbs < 10 ^ 60 := by omega
    exact Nat.lt_trans (Nat.lt_trans h1 (show (10 : Nat) ^ 60 < 2 ^ 200 by decide)) (Nat.pow_lt_pow_right (by decide) (by decide))
def S_written (CS CK CF CE CL : Addr) : Sp := fun vs H Q E => ∃ sc, vs = [.ref sc] ∧ ∃ m dx kd hl rl lk w t hs rs, H sc = some (.ins CS dx (sceneF m kd hl rl)) ∧ KdO CK CF CE CL H kd lk w t ∧ 0 ≤ t ∧ t < 4 ∧ 4 ≤ m ∧ m ≤ 1000000000000000 ∧ HL H hl hs ∧ HOk hs ∧ RL H rl rs ∧ rs.length ≤ 90 ∧ (∀ r ∈ rs, WOk hs r) ∧ ∀ H', Same H H' → Q (.str (Str.join ⟨#[10]⟩ (rowsT m w t hs ++ rs.map rowT))) H'
section
variable {K : PySem.W.Frag} {H : Hp} {Q : VK} {E : XK} {n : St → Hp → Prop} {bk ct : St → Hp → Prop}
theorem lc_hdT {l : Addr} {hs : List (Str × Int)} {σ : St} {Q' : VK} (hl : HL H l hs) (ok : HOk hs) (h : ∀ p, H p = none → Q' (.ref p) (upd H p (.lst ((hs.map hdT).map V.str)))) : LCg2 K (Itl K l) [] tTrue (G.tFs [(tC (.str "hand ")), (G.tFmt (tVar 0)), (tC (.str " ")), (G.tFmt (tVar 1))] Str.empty) σ H Q' := by
  obtain ⟨as, h1, h2, h3⟩ := hl
  have h5 := ok.2.1
  have h5l : ("hand " : Str).length = 5 := rfl
  have b1l : (" " : Str).length = 1 := rfl
  refine lcg2_of ?_
  refine lc_list (SqL.of h1) (fun i => (hs[i]?).map fun x => .str (hdT x)) (by rw [List.length_map]; omega) (fun i x hx => ?_) fun p hp => ?_
  · rw [List.getElem?_map] at hx
    obtain ⟨a, ha, rfl⟩ := Option.map_eq_some_iff.mp hx
    obtain ⟨y, ey, hy⟩ := h3 i a ha
    have pk := ok.2.2.2 y (List.mem_of_getElem? ey)
    have pl := pk.1.let.1
    have tl := tS_len (i := y.2) (by omega) (Int.lt_of_le_of_lt pk.2.2 (by decide))
    refine ⟨fun q hq => ?_, fun v q hv hq => ?_⟩
    · rw [ey] at hq; exact hq
    · rw [ey] at hv
      cases hv
      refine ⟨a, _, _, _, rfl, SqT.of hy, ?_⟩
      walk_at "ev"
      refine ⟨_, rfl, by rw [e_app]; exact len_ok (by omega), ?_⟩
      rw [e_app]
      walk_at "ev"
      refine .inr ⟨_, rfl, len_ok (by omega), _, rfl, by rw [app_len]; exact len_ok (by omega), ?_⟩
      walk_at "ev"
      refine ⟨_, rfl, by rw [app_len, app_len]; exact len_ok (by omega), ?_⟩
      walk_at "ev"
      have e3 : (("hand " : Str) ++ y.1 ++ (" " : Str) ++ tS y.2).length ≤ sizeLine := by rw [app_len, app_len, app_len]; exact len_ok (by omega)
      refine .inl ⟨_, rfl, big_log (by omega) (Int.lt_of_le_of_lt pk.2.2 (by decide)), _, rfl, e3, e3, ?_⟩
      exact hq
  · have := h p hp
    rw [List.length_map, h2, fm_get (fun x : Str × Int => V.str (hdT x))]
    rw [List.map_map] at this
    exact this
end
section
variable {K : PySem.W.Frag} {C_First C_Each C_Last C_Kind C_Scene C_FORMS_copy C_FORMS_drop C_FORMS_get C_FORMS_give C_FORMS_make C_FORMS_name C_FORMS_put C_FORMS_read C_FORMS_seek C_FORMS_write : Addr} {H : Hp} {Q : VK} {E : XK} {n : St → Hp → Prop} {bk ct : St → Hp → Prop}
theorem KdO.same {CK CF CE CL : Addr} {H H1 : Hp} {kd lk : Addr} {w t : Int} (h : KdO CK CF CE CL H kd lk w t) (s : Same H H1) : KdO CK CF CE CL H1 kd lk w t := by
  obtain ⟨⟨d1, o1⟩, d2, o2⟩ := h
  refine ⟨⟨d1, s _ _ o1⟩, d2, ?_⟩
  rcases o2 with ⟨e, o⟩ | ⟨e, o⟩ | ⟨e, o⟩
  · exact .inl ⟨e, s _ _ o⟩
  · exact .inr (.inl ⟨e, s _ _ o⟩)
  · exact .inr (.inr ⟨e, s _ _ o⟩)
theorem written_rd {sc : Addr} (T : TxS K C_Kind C_Scene C_FORMS_copy C_FORMS_drop C_FORMS_get C_FORMS_give C_FORMS_make C_FORMS_name C_FORMS_put C_FORMS_read C_FORMS_seek C_FORMS_write) (q : ∃ m dx kd hl rl lk w t hs rs, H sc = some (.ins C_Scene dx (sceneF m kd hl rl)) ∧ KdO C_Kind C_First C_Each C_Last H kd lk w t ∧ 0 ≤ t ∧ t < 4 ∧ 4 ≤ m ∧ m ≤ 1000000000000000 ∧ HL H hl hs ∧ HOk hs ∧ RL H rl rs ∧ rs.length ≤ 90 ∧ (∀ r ∈ rs, WOk hs r) ∧ ∀ H', Same H H' → Q (.str (Str.join ⟨#[10]⟩ (rowsT m w t hs ++ rs.map rowT))) H') :
    rd_written K C_Kind (S_words C_Kind C_First C_Each C_Last) S_wrowW ⟨n, Q, bk, ct⟩ [some (.ref sc), none, none, none, none] H := by
  obtain ⟨m, dx, kd, hl, rl, lk, w, t, hs, rs, o, kk, t0, t1, m0, m1, hls, ok, rls, h90, rok, h⟩ := q
  obtain ⟨w0, w1⟩ := kk.wb
  have hm60 : m < 10 ^ 60 := Int.lt_of_le_of_lt m1 (by decide)
  have wl := (words_ok w0 w1 t0 t1).2
  have l5 : ("room " : Str).length = 5 := rfl
  have k5 : ("kind " : Str).length = 5 := rfl
  have ml := tS_len (i := m) (by omega) hm60
  have ok5 := ok.2.1
  obtain ⟨as, g1, g2, g3⟩ := id hls
  unfold rd_written
  walk_at "ev"
  refine i_fldK o T.cl_Scene T.n_hands sceneF_lk_hands ?_
  walk_at "ev"
  refine ⟨hl, rfl, ⟨_, SqL.of g1⟩, lc_names hls ok5 fun nl hnl => ?_⟩
  have s1 := same_new hnl (.lst ((hs.map (·.1)).map V.str))
  have c1 : upd H nl (.lst ((hs.map (·.1)).map V.str)) nl = some (.lst ((hs.map fun z : Str × Int => z.1).map V.str)) := upd_same
  generalize upd H nl (.lst ((hs.map (·.1)).map V.str)) = H1 at s1 c1 ⊢
  walk_at "ev"
  refine i_fldK (s1 _ _ o) T.cl_Scene T.n_room sceneF_lk_room ?_
  walk_at "ev"
  refine i_fldK (s1 _ _ o) T.cl_Scene T.n_kind sceneF_lk_kind ?_
  walk_at "ev"
  obtain ⟨dk, ok7⟩ := (kk.same s1).ok
  refine ⟨kd, dk, _, rfl, ok7, kindF_no_words, ?_⟩
  walk_at "ev"
  refine ⟨kd, rfl, lk, w, t, kk.same s1, t0, t1, fun H2 s2 => ?_⟩
  have s12 := s1.trans s2
  walk_at "ev"
  refine ⟨_, rfl, by rw [e_app]; exact len_ok (by omega), ?_⟩
  rw [e_app]
  walk_at "ev"
  have e3 : (("room " : Str) ++ tS m).length ≤ sizeLine := by rw [app_len]; exact len_ok (by omega)
  refine .inl ⟨_, rfl, big_log (by omega) hm60, _, rfl, e3, e3, ?_⟩
  walk_at "ev"
  refine ⟨_, rfl, by rw [e_app]; exact len_ok (by omega), ?_⟩
  rw [e_app]
  walk_at "ev"
  have e4 : (("kind " : Str) ++ words w t).length ≤ sizeLine := by rw [app_len]; exact len_ok (by omega)
  refine .inr ⟨_, rfl, len_ok (by omega), _, rfl, e4, e4, ?_⟩
  walk_at "ev"
  refine ⟨by show 2 ≤ _; decide, fun p hp => ?_⟩
  have s3 := same_new hp (.lst [.str (("room " : Str) ++ Str.ofString (toString m)), .str (("kind " : Str) ++ words w t)])
  have c3 : upd H2 p (.lst [.str (("room " : Str) ++ Str.ofString (toString m)), .str (("kind " : Str) ++ words w t)]) p = some (.lst ([("room " : Str) ++ tS m, ("kind " : Str) ++ words w t].map V.str)) := upd_same
  generalize upd H2 p (.lst [.str (("room " : Str) ++ Str.ofString (toString m)), .str (("kind " : Str) ++ words w t)]) = H3 at s3 c3 ⊢
  have s13 := s12.trans s3
  walk_at "ev"
  refine ⟨.inl ⟨rfl, _, SqL.of c3⟩, ?_⟩
  walk_at "ev"
  refine i_fldK (s13 _ _ o) T.cl_Scene T.n_hands sceneF_lk_hands ?_
  walk_at "ev"
  refine ⟨hl, rfl, ⟨_, SqL.of (s13 _ _ g1)⟩, lc_hdT (hls.same s13) ok fun l4 hl4 => ?_⟩
  have s4 := same_new hl4 (.lst ((hs.map hdT).map V.str))
  have c4 : upd H3 l4 (.lst ((hs.map hdT).map V.str)) l4 = some (.lst ((hs.map hdT).map V.str)) := upd_same
  generalize upd H3 l4 (.lst ((hs.map hdT).map V.str)) = H4 at s4 c4 ⊢
  walk_at "ev"
  refine ⟨p, l4, _, _, rfl, rfl, s4 _ _ c3, c4, by rw [List.length_map, List.length_map, List.length_map, sizeLine_eq]; show 2 + _ ≤ _; omega, ?_⟩
  have hp0 : ∀ {b : Addr} {ob : HO}, H2 b = some ob → b ≠ p := fun hb => ne_of_none hb hp
  have s5 : Same H2 (upd H4 p (.lst ([("room " : Str) ++ tS m, ("kind " : Str) ++ words w t].map V.str ++ (hs.map hdT).map V.str))) := same_put (s3.trans s4) hp
  have c5 : upd H4 p (.lst ([("room " : Str) ++ tS m, ("kind " : Str) ++ words w t].map V.str ++ (hs.map hdT).map V.str)) p = some (.lst (([("room " : Str) ++ tS m, ("kind " : Str) ++ words w t] ++ hs.map hdT).map V.str)) := by rw [upd_same, List.map_append]
  generalize upd H4 p (.lst ([("room " : Str) ++ tS m, ("kind " : Str) ++ words w t].map V.str ++ (hs.map hdT).map V.str)) = H5 at s5 c5 ⊢
  walk_at "ev"
  refine ⟨.inl ⟨rfl, _, SqL.of c5⟩, ?_⟩
  walk_at "ev"
  refine ⟨p, _, _, rfl, rfl, c5, by rw [List.length_map, List.length_append, List.length_map, sizeLine_eq]; show 2 + _ < _; omega, ?_⟩
  have s6 := same_put (o := .lst (([("room " : Str) ++ tS m, ("kind " : Str) ++ words w t] ++ hs.map hdT).map V.str ++ [.str "weave"])) s5 hp
  have c6 : upd H5 p (.lst (([("room " : Str) ++ tS m, ("kind " : Str) ++ words w t] ++ hs.map hdT).map V.str ++ [.str "weave"])) p = some (.lst ((rowsT m w t hs).map V.str)) := by
    rw [upd_same]
    unfold rowsT
    rw [← List.cons_append, ← List.cons_append, List.map_append (f := V.str) (l₂ := [("weave" : Str)])]
    rfl
  generalize upd H5 p (.lst (([("room " : Str) ++ tS m, ("kind " : Str) ++ words w t] ++ hs.map hdT).map V.str ++ [.str "weave"])) = H6 at s6 c6 ⊢
  have s06 := s12.trans s6
  walk_at "ev"
  refine ⟨.inl ⟨rfl, _, SqL.of c6⟩, ?_⟩
  walk_at "ev"
  refine i_lcg ?_
  walk_at "ev"
  refine i_fldK (s06 _ _ o) T.cl_Scene T.n_rows sceneF_lk_rows ?_
  walk_at "ev"
  obtain ⟨bs, k1, k2, k3⟩ := rls.same s06
  refine ⟨rl, rfl, ⟨_, SqL.of k1⟩, ?_⟩
  refine lc_newL (SqL.of k1) (by rw [List.length_map]; omega) (fun i y _ => ∃ r, rs[i]? = some r ∧ y = .str (rowT r)) (fun _ _ _ _ h _ => h) (fun x H' q hq => by walk_at "ev"; exact hq) (fun i x H7 hx s7 q' hq => ?_) (fun ys H7 s7 yl hy l8 hl8 => ?_)
  · rw [List.getElem?_map] at hx
    obtain ⟨b, hb, rfl⟩ := Option.map_eq_some_iff.mp hx
    obtain ⟨r, er, hbr⟩ := k3 i b hb
    walk_at "caps"
    walk_at "ev"
    exact ⟨b, nl, rfl, hs, r, s7 _ _ (s6 _ _ (s2 _ _ c1)), s7 _ _ hbr, rok r (List.mem_of_getElem? er), fun H8 s8 => hq _ _ s8 ⟨r, er, rfl⟩⟩
  have ey : ys = (rs.map rowT).map V.str := by
    refine List.ext_getElem? fun i => ?_
    rw [List.getElem?_map, List.getElem?_map]
    cases e1 : ys[i]? with
    | none =>
      have := List.getElem?_eq_none_iff.mp e1
      rw [List.length_map] at yl
      rw [List.getElem?_eq_none (by omega)]
      rfl
    | some v =>
      obtain ⟨x, ex, rfl⟩ := hy i v e1
      rw [ex]; rfl
  subst ey
  have s8 := same_new hl8 (.lst ((rs.map rowT).map V.str))
  have c8 : upd H7 l8 (.lst ((rs.map rowT).map V.str)) l8 = some (.lst ((rs.map rowT).map V.str)) := upd_same
  generalize upd H7 l8 (.lst ((rs.map rowT).map V.str)) = H8 at s8 c8 ⊢
  have s68 := s7.trans s8
  walk_at "ev"
  refine ⟨p, l8, _, _, rfl, rfl, s68 _ _ c6, c8, by rw [List.length_map, List.length_map, List.length_map, rows_len, sizeLine_eq]; omega, ?_⟩
  have s9 := same_put (o := .lst ((rowsT m w t hs).map V.str ++ (rs.map rowT).map V.str)) (s6.trans s68) hp
  have c9 : upd H8 p (.lst ((rowsT m w t hs).map V.str ++ (rs.map rowT).map V.str)) p = some (.lst ((rowsT m w t hs ++ rs.map rowT).map V.str)) := by rw [upd_same, List.map_append]
  generalize upd H8 p (.lst ((rowsT m w t hs).map V.str ++ (rs.map rowT).map V.str)) = H9 at s9 c9 ⊢
  walk_at "ev"
  have hsum := all_sum (m := m) (by omega) hm60 w0 w1 t0 t1 ok h90 rok
  refine ⟨"\n", p, rowsT m w t hs ++ rs.map rowT, rfl, rfl, SqL.of c9, by decide, by omega, ?_⟩
  rw [show Txt.join "\n" (rowsT m w t hs ++ rs.map rowT) = Str.join ⟨#[10]⟩ (rowsT m w t hs ++ rs.map rowT) from StrLaws.glued_eq_join _ _]
  exact h _ (s12.trans s9)
end
theorem rowsT_w {m w t w' t' : Int} {hs : List (Str × Int)} (e : words w t = words w' t') : rowsT m w t hs = rowsT m w' t' hs := by
  unfold rowsT
  rw [e]
def S_law (K : PySem.W.Frag) : Sp := fun vs H Q E => ∃ a, vs = [.ref a] ∧ ∃ ns : List Int, SqL K H a (ns.map V.int) ∧ ns.length ≤ 63 ∧ BitsOk ns ∧ ∀ H', Q (.bl true) H'
section
variable {K : PySem.W.Frag} {a : Addr} {caps : List Nat} {te : TE} {σ : St} {H : Hp} {Q : VK}
theorem lc_enumN {xs : List V} (hq : SqL K H a xs) (hz : xs.length ≤ 1000000) (R : Nat → V → Hp → Prop) (mono : ∀ i y H1 H2, R i y H1 → Same H1 H2 → R i y H2)
    (hte : ∀ (i : Nat) x H1, xs[i]? = some x → Same H H1 → ∀ q : VK, (∀ v H2, Same H1 H2 → R i v H2 → q v H2) → te (some (.int i) :: some x :: caps.map (pick σ)) H1 q)
    (h : ∀ vs H', Same H H' → vs.length = xs.length → (∀ (i : Nat) v, vs[i]? = some v → R i v H') → ∀ p, H' p = none → Q (.ref p) (upd H' p (.lst vs))) : LCg2 K (Ite K a) caps tTrue te σ H Q := by
  refine ⟨fun i m vs H' => i ≤ xs.length ∧ m = xs.length - i ∧ vs.length = i ∧ Same H H' ∧ ∀ (j : Nat) v, vs[j]? = some v → R j v H', ⟨_, Nat.zero_le _, rfl, rfl, Same.refl _, fun j v e => by cases e⟩, ?_⟩
  rintro i m vs H1 ⟨hi, rfl, hl, s1, hv⟩
  by_cases hk : i = xs.length
  · exact .inl ⟨⟨xs, s1.seq hq, by omega⟩, fun p hp => h vs H1 s1 (by omega) hv p hp⟩
  · have hlt : i < xs.length := by omega
    refine .inr ⟨⟨xs, xs[i], s1.seq hq, List.getElem?_eq_getElem hlt⟩, Nat.lt_of_lt_of_le (by omega : vs.length < 1000000) (by decide), ?_⟩
    rintro v H2 ⟨t, x, rfl, ht, rfl, e1⟩
    have s2 := same_new ht (.tup [.int i, x])
    refine ⟨t, .int i, x, rfl, SqT.of upd_same, i_true (iteT ?_)⟩
    refine hte i x _ (e1 _ (s1.seq hq)) (s1.trans s2) _ fun w H3 s3 rw' => ⟨xs.length - (i + 1), by omega, by omega, rfl, by rw [List.length_append, hl]; rfl, s1.trans (s2.trans s3), fun j u hj => ?_⟩
    by_cases hji : j < vs.length
    · rw [List.getElem?_append_left hji] at hj
      exact mono _ _ _ _ (hv j u hj) (s2.trans s3)
    · have hjl := (List.getElem?_eq_some_iff.mp hj).1
      rw [List.length_append] at hjl
      have : [w].length = 1 := rfl
      have hje : j = vs.length := by omega
      rw [hje, List.getElem?_append_right (Nat.le_refl _), Nat.sub_self] at hj
      cases hj
      rw [hje, hl]
      exact rw'
end
theorem rl_of {hs : List (Str × Int)} {H : Hp} : ∀ {vs : List V}, (∀ (i : Nat) v, vs[i]? = some v → ∃ b r, v = .ref b ∧ WOk hs r ∧ H b = some (.tup (valsOf r))) → ∃ (as : List Addr) (rs : List WRow), vs = as.map V.ref ∧ as.length = rs.length ∧ (∀ r ∈ rs, WOk hs r) ∧ ∀ (i : Nat) a, as[i]? = some a → ∃ r, rs[i]? = some r ∧ H a = some (.tup (valsOf r))
  | [], _ => ⟨[], [], rfl, rfl, (fun _ h => by cases h), (fun _ _ h => by cases h)⟩
  | v :: vs, h => by
    obtain ⟨as, rs, e1, e2, e3, e4⟩ := rl_of (vs := vs) (fun i v e => h (i + 1) v e)
    obtain ⟨b, r, rfl, ok, hb⟩ := h 0 v rfl
    refine ⟨b :: as, r :: rs, by rw [e1]; rfl, by rw [List.length_cons, List.length_cons, e2], fun x hx => ?_, fun i a ha => ?_⟩
    · rcases List.mem_cons.mp hx with rfl | hx
      · exact ok
      · exact e3 x hx
    · match i, ha with
      | 0, ha => cases ha; exact ⟨r, rfl, hb⟩
      | i + 1, ha => exact e4 i a ha
section
variable {K : PySem.W.Frag} {C_First C_Each C_Last C_Kind C_Scene C_FORMS_copy C_FORMS_drop C_FORMS_get C_FORMS_give C_FORMS_make C_FORMS_name C_FORMS_put C_FORMS_read C_FORMS_seek C_FORMS_write : Addr} {H : Hp} {Q : VK} {E : XK} {n : St → Hp → Prop} {bk ct : St → Hp → Prop}
theorem law_tail {v0 v1 v6 v7 v8 v9 : Option V} {l wv : Addr} {m w t : Int} {hs : List (Str × Int)} {rs : List WRow} (T : TxS K C_Kind C_Scene C_FORMS_copy C_FORMS_drop C_FORMS_get C_FORMS_give C_FORMS_make C_FORMS_name C_FORMS_put C_FORMS_read C_FORMS_seek C_FORMS_write) (hl : HL H l hs) (ok : HOk hs) (rl : RL H wv rs) (h90 : rs.length ≤ 90) (rok : ∀ r ∈ rs, WOk hs r) (m0 : 4 ≤ m) (m1 : m ≤ 1000000000000000) (w0 : 0 ≤ w) (w1 : w < 3) (t0 : 0 ≤ t) (t1 : t < 4) (h : ∀ H', Q (.bl true) H') :
    (tSeq (tAsg (tMake C_Scene (S_Scene_init C_Scene) [] E0 (tCons (tVar 3) (tCons (tCall (S_kind_of C_Kind C_First C_Each C_Last) [] E0 (tCons (tVar 4) tNil)) (tCons (tCB (G.cListL K) (tCons (tVar 2) tNil)) (tCons (tCB (G.cListL K) (tCons (tVar 5) tNil)) tNil))))) (gName 11))
      (tSeq (tAsg (tCall (S_written C_Scene C_Kind C_First C_Each C_Last) [] E0 (tCons (tVar 11) tNil)) (gName 12))
      (tSeq (tIfS ((tOr (tNot (tB (tCB (G.cIsi) (tCons (tVar 12) (tCons (tC (.ty "str")) tNil))))) (tOr (tTest (tOp (rNe) (tVar 12) (tVar 10))) (tNot (tB (tCall (S_sscene C_Scene C_Kind C_First C_Each C_Last) [] E0 (tCons (tVar 11) (tCons (tVar 3) (tCons (tVar 4) (tCons (tVar 2) (tCons (tVar 5) tNil))))))))))) (tRet (tC (.bl false))) tNext)
      (tSeq (tAsg (tCall (S_read C_Scene C_Kind C_First C_Each C_Last) [] E0 (tCons (tVar 12) tNil)) (gName 13))
      (tRet ((tAndV (tCall (S_sscene C_Scene C_Kind C_First C_Each C_Last) [] E0 (tCons (tVar 13) (tCons (tVar 3) (tCons (tVar 4) (tCons (tVar 2) (tCons (tVar 5) tNil)))))) (tOp (rEq) (tCall (S_written C_Scene C_Kind C_First C_Each C_Last) [] E0 (tCons (tVar 13) tNil)) (tVar 10))))))))) ⟨n, Q, bk, ct⟩ [v0, v1, some (.ref l), some (.int m), some (.str (words w t)), some (.ref wv), v6, v7, v8, v9, some (.str (Str.join ⟨#[10]⟩ (rowsT m w t hs ++ rs.map rowT))), none, none, none] H := by
  have wl := (words_ok w0 w1 t0 t1).2
  have ok5 := ok.2.1
  obtain ⟨as, g1, g2, g3⟩ := id hl
  obtain ⟨bs, k1, k2, k3⟩ := id rl
  walk_at "ev"
  refine ⟨_, rfl, by omega, fun w' t' w0' w1' t0' t1' ew ki lk H1 s1 kk => ?_, fun no => absurd rfl (no w t w0 w1 t0 t1)⟩
  walk_at "ev"
  refine ⟨l, _, rfl, SqL.of (s1 _ _ g1), fun la hla => ?_⟩
  have s2 := same_new hla (.lst (as.map V.ref))
  have c2 : upd H1 la (.lst (as.map V.ref)) la = some (.lst (as.map V.ref)) := upd_same
  generalize upd H1 la (.lst (as.map V.ref)) = H2 at s2 c2 ⊢
  walk_at "ev"
  refine ⟨wv, _, rfl, SqL.of (s2 _ _ (s1 _ _ k1)), fun lb hlb => ?_⟩
  have s3 := same_new hlb (.lst (bs.map V.ref))
  have c3 : upd H2 lb (.lst (bs.map V.ref)) lb = some (.lst (bs.map V.ref)) := upd_same
  generalize upd H2 lb (.lst (bs.map V.ref)) = H3 at s3 c3 ⊢
  walk_at "ev"
  intro x dx nx ndx ne
  have s4 : Same H3 (upd (upd H3 dx (.own x)) x (.ins C_Scene dx [])) := fun b o hb => by rw [upd_ne (ne_of_none hb nx), upd_ne (ne_of_none hb ndx)]; exact hb
  refine ⟨x, m, ki, la, lb, rfl, dx, _, _, upd_same, s4 _ _ (s3 _ _ c2), s4 _ _ c3, fun H7 h2 r2 e1 e2 e3 fr => ⟨rfl, ?_⟩⟩
  have s37 : Same H3 H7 := fun b o hb => fr b o (s4 _ _ hb) (ne_of_none hb nx)
  have s17 := s2.trans (s3.trans s37)
  have s07 := s1.trans s17
  have hl7 : HL H7 h2 hs := ⟨as, e2, g2, fun i c hc => let ⟨y, q1, q2⟩ := g3 i c hc; ⟨y, q1, s07 _ _ q2⟩⟩
  have rl7 : RL H7 r2 rs := ⟨bs, e3, k2, fun i c hc => let ⟨y, q1, q2⟩ := k3 i c hc; ⟨y, q1, s07 _ _ q2⟩⟩
  walk_at "ev"
  refine ⟨x, rfl, m, dx, ki, h2, r2, lk, w', t', hs, rs, e1, kk.same s17, t0', t1', m0, m1, hl7, ok, rl7, h90, rok, fun H8 s8 => ?_⟩
  rw [← rowsT_w ew]
  walk_at "ev"
  refine ifnd (fun z => absurd rfl z) (fun _ => ?_)
  walk_at "ev"
  have s08 := s07.trans s8
  refine ⟨x, m, _, l, wv, rfl, dx, ki, h2, r2, lk, w', t', _, _, s8 _ _ e1, kk.same (s17.trans s8), t0', t1', ew, (hl7.same s8).rv, (hl.same s08).rv, hd_ok ok5, (rl7.same s8).rv, (rl.same s08).rv, rw_ok h90 rok, fun H9 s9 => ?_⟩
  walk_at "ev"
  have s09 := s08.trans s9
  refine ⟨_, rfl, m, w, t, hs, rs, rfl, m0, m1, w0, w1, t0, t1, ok, h90, rok, fun sc dx2 kd2 lk2 w2 t2 hl2 rl2 HA sA oA kA ta tb ew2 hlA rlA => ?_⟩
  walk_at "ev"
  have s0A := s09.trans sA
  refine ⟨sc, m, _, l, wv, rfl, dx2, kd2, hl2, rl2, lk2, w2, t2, _, _, oA, kA, ta, tb, ew2, hlA.rv, (hl.same s0A).rv, hd_ok ok5, rlA.rv, (rl.same s0A).rv, rw_ok h90 rok, fun HB sB => ?_⟩
  walk_at "ev"
  refine ⟨sc, rfl, m, dx2, kd2, hl2, rl2, lk2, w2, t2, hs, rs, sB _ _ oA, kA.same sB, ta, tb, m0, m1, hlA.same sB, ok, rlA.same sB, h90, rok, fun HC sC => ?_⟩
  rw [← rowsT_w ew2]
  walk_at "ev"
  rw [decide_eq_true rfl]
  exact h _
end
section
variable {K : PySem.W.Frag} {C_First C_Each C_Last C_Kind C_Scene C_FORMS_copy C_FORMS_drop C_FORMS_get C_FORMS_give C_FORMS_make C_FORMS_name C_FORMS_put C_FORMS_read C_FORMS_seek C_FORMS_write : Addr} {H : Hp} {Q : VK} {E : XK} {n : St → Hp → Prop} {bk ct : St → Hp → Prop}
theorem p15 : ((10 : Int) ^ Int.toNat 15) = 1000000000000000 := rfl
theorem law_rd {a : Addr} (T : TxS K C_Kind C_Scene C_FORMS_copy C_FORMS_drop C_FORMS_get C_FORMS_give C_FORMS_make C_FORMS_name C_FORMS_put C_FORMS_read C_FORMS_seek C_FORMS_write) (q : ∃ ns : List Int, SqL K H a (ns.map V.int) ∧ ns.length ≤ 63 ∧ BitsOk ns ∧ ∀ H', Q (.bl true) H') :
    rd_law K C_Scene (S_Scene_init C_Scene) (S_at K) S_handsby S_kindby S_rowby (S_sscene C_Scene C_Kind C_First C_Each C_Last) S_textof (S_kind_of C_Kind C_First C_Each C_Last) (S_read C_Scene C_Kind C_First C_Each C_Last) (S_written C_Scene C_Kind C_First C_Each C_Last) ⟨n, Q, bk, ct⟩ [some (.ref a), none, none, none, none, none, none, none, none, none, none, none, none, none] H := by
  obtain ⟨ns, hS, hlen, hb, h⟩ := q
  have h5l : ("hand " : Str).length = 5 := rfl
  have b1l : (" " : Str).length = 1 := rfl
  have l5 : ("room " : Str).length = 5 := rfl
  have k5 : ("kind " : Str).length = 5 := rfl
  unfold rd_law
  walk_at "ev"
  refine ⟨a, _, rfl, ns, hS, by decide, fun c0 => ?_⟩
  walk_at "ev"
  refine ⟨a, _, rfl, ns, hS, by decide, fun c1 => ?_⟩
  walk_at "ev"
  refine ⟨_, _, rfl, fun l hs H1 s1 hl ok => ?_⟩
  obtain ⟨as, g1, g2, g3⟩ := id hl
  have ok5 := ok.2.1
  walk_at "ev"
  refine ⟨a, _, rfl, ns, s1.seq hS, by decide, fun c2 => ?_⟩
  walk_at "ev"
  rw [p15]
  walk_at "ev"
  obtain ⟨m, em⟩ : ∃ m : Int, m = 4 + c2 % (1000000000000000 - 3) := ⟨_, rfl⟩
  have m0 : 4 ≤ m := by omega
  have m1 : m ≤ 1000000000000000 := by omega
  rw [← em]
  have hm60 : m < 10 ^ 60 := Int.lt_of_le_of_lt m1 (by decide)
  refine ⟨a, _, rfl, ns, s1.seq hS, by decide, fun c3 => ?_⟩
  walk_at "ev"
  refine ⟨_, rfl, fun w t H2 w0 w1 t0 t1 s2 => ?_⟩
  have s02 := s1.trans s2
  have wl := (words_ok w0 w1 t0 t1).2
  walk_at "ev"
  refine ⟨a, _, rfl, s02.seq hS, fun cp hcp => ?_⟩
  have ec : cutV (ns.map V.int) (some 4) (some 64) = ((ns.drop (HT.sIx ns.length 0 (some 4))).take (HT.sIx ns.length ns.length (some 64) - HT.sIx ns.length 0 (some 4))).map V.int := by
    unfold cutV
    rw [List.map_take, List.map_drop, List.length_map]
  rw [ec]
  generalize hcs : (ns.drop (HT.sIx ns.length 0 (some 4))).take (HT.sIx ns.length ns.length (some 64) - HT.sIx ns.length 0 (some 4)) = cs
  have lcs : cs.length ≤ 63 := by rw [← hcs, List.length_take, List.length_drop]; omega
  have bcs : BitsOk cs := fun i hi => hb i (List.mem_of_mem_drop (List.mem_of_mem_take (by rw [hcs]; exact hi)))
  have s3 := same_new hcp (.lst (cs.map V.int))
  have c3 : upd H2 cp (.lst (cs.map V.int)) cp = some (.lst (cs.map V.int)) := upd_same
  generalize upd H2 cp (.lst (cs.map V.int)) = H3 at s3 c3 ⊢
  have s23 := s2.trans s3
  walk_at "ev"
  refine ⟨cp, rfl, ⟨_, SqL.of c3⟩, ?_⟩
  refine lc_enumN (SqL.of c3) (by rw [List.length_map]; omega) (fun _ v H' => ∃ b r, v = .ref b ∧ WOk hs r ∧ H' b = some (.tup (valsOf r))) (fun _ _ _ _ ⟨b, r, e, k, hb⟩ s => ⟨b, r, e, k, s _ _ hb⟩) (fun i x H4 hx s4 q' hq => ?_) (fun vs H4 s4 vl hv wv hwv => ?_)
  · rw [List.getElem?_map] at hx
    obtain ⟨c, hci, rfl⟩ := Option.map_eq_some_iff.mp hx
    have hi := (List.getElem?_eq_some_iff.mp hci).1
    walk_at "caps"
    walk_at "ev"
    exact ⟨_, _, l, rfl, hs, hl.same (s23.trans s4), ok, by omega, by omega, bcs c (List.mem_of_getElem? hci), fun b r H5 s5 wk hb5 => hq _ _ s5 ⟨b, r, rfl, wk, hb5⟩⟩
  obtain ⟨bs, rs, rfl, k2, rok, k3⟩ := rl_of hv
  rw [List.length_map, List.length_map] at vl
  have h90 : rs.length ≤ 90 := by omega
  have s5 := same_new hwv (.lst (bs.map V.ref))
  have rl : RL (upd H4 wv (.lst (bs.map V.ref))) wv rs := ⟨bs, upd_same, k2, fun i c hc => let ⟨y, q1, q2⟩ := k3 i c hc; ⟨y, q1, s5 _ _ q2⟩⟩
  generalize upd H4 wv (.lst (bs.map V.ref)) = H5 at s5 rl ⊢
  have s15 := s23.trans (s4.trans s5)
  obtain ⟨bs, k1, k2, k3⟩ := id rl
  walk_at "ev"
  refine i_strI (by omega) (Int.lt_trans hm60 (by decide)) fun tm em e1 e2 => ?_
  obtain rfl : tm = tS m := em
  refine i_catS (len_ok (by omega)) ?_
  walk_at "ev"
  refine i_catS (len_ok (by omega)) ?_
  walk_at "ev"
  refine ⟨by show 2 ≤ _; decide, fun p hp => ?_⟩
  have s6 := same_new hp (.lst [.str (("room " : Str) ++ tS m), .str (("kind " : Str) ++ words w t)])
  have c6 : upd H5 p (.lst [.str (("room " : Str) ++ tS m), .str (("kind " : Str) ++ words w t)]) p = some (.lst (([("room " : Str) ++ tS m, ("kind " : Str) ++ words w t] ++ ([] : List (Str × Int)).map hdT).map V.str)) := upd_same
  generalize upd H5 p (.lst [.str (("room " : Str) ++ tS m), .str (("kind " : Str) ++ words w t)]) = H6 at s6 c6 ⊢
  walk_at "ev"
  generalize (c0 + 13) * 48271 % 7919 = way
  refine ⟨l, rfl, ⟨_, SqL.of (s6 _ _ (s15 _ _ g1))⟩, forL (as.map V.ref) (fun i σ Hx => ∃ v7 v8, σ = [some (.ref a), some (.int way), some (.ref l), some (.int m), some (.str (words w t)), some (.ref wv), some (.ref p), v7, v8, none, none, none, none, none] ∧ Same H5 Hx ∧ Hx p = some (.lst (([("room " : Str) ++ tS m, ("kind " : Str) ++ words w t] ++ (hs.take i).map hdT).map V.str))) ⟨none, none, rfl, s6, c6⟩ (fun i σ Hx _ ⟨_, _, _, s, _⟩ => SqL.of (s _ _ (s15 _ _ g1))) ?_ ?_⟩
  · rintro i v σ Hx hv ⟨v7, v8, rfl, sx, cx⟩
    rw [List.getElem?_map] at hv
    obtain ⟨b, hb, rfl⟩ := Option.map_eq_some_iff.mp hv
    obtain ⟨x, ep, bp⟩ := g3 i b hb
    have pk := ok.2.2.2 x (List.mem_of_getElem? ep)
    have pl := pk.1.let.1
    have hi := (List.getElem?_eq_some_iff.mp ep).1
    refine ⟨b, _, rfl, SqT.of (sx _ _ (s15 _ _ bp)), rfl, ?_⟩
    refine ⟨_, _, rfl, ?_⟩
    walk_at "ev"
    refine ⟨_, _, rfl, ?_⟩
    walk_at "ev"
    refine ⟨rfl, ?_⟩
    walk_at "ev"
    refine ⟨.inl ⟨rfl, _, SqL.of cx⟩, ?_⟩
    walk_at "ev"
    refine i_catS (len_ok (by omega)) ?_
    walk_at "ev"
    refine i_catS (len_ok (by rw [app_len]; omega)) ?_
    walk_at "ev"
    refine i_strI (by omega) (Int.lt_of_le_of_lt pk.2.2 (by decide)) fun tp em f1 f2 => ?_
    obtain rfl : tp = tS x.2 := em
    refine i_catS (len_ok (by rw [app_len, app_len]; omega)) ?_
    walk_at "ev"
    refine ⟨p, _, _, rfl, rfl, cx, by rw [List.length_map, List.length_append, List.length_map, List.length_take, sizeLine_eq]; show 2 + _ < _; omega, ?_⟩
    walk_at "ev"
    refine ⟨_, _, rfl, same_put sx hp, ?_⟩
    have et : hs.take (i + 1) = hs.take i ++ [x] := by rw [List.take_add_one, ep]; rfl
    rw [upd_same, et, List.map_append (f := hdT), ← List.append_assoc]
    show _ = some (HO.lst (([("room " : Str) ++ tS m, ("kind " : Str) ++ words w t] ++ (hs.take i).map hdT ++ [hdT x]).map V.str))
    rw [List.map_append (f := V.str) (l₂ := [hdT x])]
    rfl
  · rintro σ Hx ⟨v7, v8, rfl, sx, cx⟩
    rw [List.length_map, g2, List.take_length] at cx
    walk_at "ev"
    refine ⟨.inl ⟨rfl, _, SqL.of cx⟩, ?_⟩
    walk_at "ev"
    refine ⟨p, _, _, rfl, rfl, cx, by rw [List.length_map, List.length_append, List.length_map, sizeLine_eq]; show 2 + _ < _; omega, ?_⟩
    have s7 := same_put (o := .lst ((([("room " : Str) ++ tS m, ("kind " : Str) ++ words w t] ++ hs.map hdT).map V.str) ++ [.str "weave"])) sx hp
    have c7 : upd Hx p (.lst ((([("room " : Str) ++ tS m, ("kind " : Str) ++ words w t] ++ hs.map hdT).map V.str) ++ [.str "weave"])) p = some (.lst ((rowsT m w t hs ++ (rs.take 0).map rowT).map V.str)) := by
      rw [upd_same, List.take_zero, List.map_nil, List.append_nil]
      unfold rowsT
      rw [← List.cons_append, ← List.cons_append, List.map_append (f := V.str) (l₂ := [("weave" : Str)])]
      rfl
    generalize upd Hx p (.lst ((([("room " : Str) ++ tS m, ("kind " : Str) ++ words w t] ++ hs.map hdT).map V.str) ++ [.str "weave"])) = H7 at s7 c7 ⊢
    walk_at "ev"
    refine ⟨wv, rfl, ⟨_, SqL.of (s7 _ _ k1)⟩, forL (bs.map V.ref) (fun i σ Hx => ∃ v9, σ = [some (.ref a), some (.int way), some (.ref l), some (.int m), some (.str (words w t)), some (.ref wv), some (.ref p), v7, v8, v9, none, none, none, none] ∧ Same H5 Hx ∧ Hx p = some (.lst ((rowsT m w t hs ++ (rs.take i).map rowT).map V.str))) ⟨none, rfl, s7, c7⟩ (fun i σ Hx _ ⟨_, _, s, _⟩ => SqL.of (s _ _ k1)) ?_ ?_⟩
    · rintro i v σ Hy hv ⟨v9, rfl, sy, cy⟩
      rw [List.getElem?_map] at hv
      obtain ⟨b, hb, rfl⟩ := Option.map_eq_some_iff.mp hv
      obtain ⟨r, er, br⟩ := k3 i b hb
      have hi := (List.getElem?_eq_some_iff.mp er).1
      walk_at "ev"
      refine ⟨.inl ⟨rfl, _, SqL.of cy⟩, ?_⟩
      walk_at "ev"
      refine ⟨b, l, rfl, hs, r, hl.same (s15.trans sy), ok5, sy _ _ br, rok r (List.mem_of_getElem? er), ?_⟩
      walk_at "ev"
      refine ⟨p, _, _, rfl, rfl, cy, by rw [List.length_map, List.length_append, rows_len, List.length_map, List.length_take, sizeLine_eq]; omega, ?_⟩
      walk_at "ev"
      refine ⟨_, rfl, same_put sy hp, ?_⟩
      have et : rs.take (i + 1) = rs.take i ++ [r] := by rw [List.take_add_one, er]; rfl
      rw [upd_same, et, List.map_append (f := rowT), ← List.append_assoc]
      show _ = some (HO.lst ((rowsT m w t hs ++ (rs.take i).map rowT ++ [rowT r]).map V.str))
      rw [List.map_append (f := V.str) (l₂ := [rowT r])]
      rfl
    · rintro σ Hy ⟨v9, rfl, sy, cy⟩
      rw [List.length_map, k2, List.take_length] at cy
      refine i_seq ?_
      walk_at "es"
      have hsum := all_sum (m := m) (by omega) hm60 w0 w1 t0 t1 ok h90 rok
      refine ⟨"\n", p, rowsT m w t hs ++ rs.map rowT, rfl, rfl, SqL.of cy, by decide, by omega, ?_⟩
      rw [show Txt.join "\n" (rowsT m w t hs ++ rs.map rowT) = Str.join ⟨#[10]⟩ (rowsT m w t hs ++ rs.map rowT) from StrLaws.glued_eq_join _ _]
      exact law_tail T (hl.same (s15.trans sy)) ok (rl.same sy) h90 rok m0 m1 w0 w1 t0 t1 h
end

def top (i : Nat) : Stmt := PySem.Challenge.pw_greywalk_k38_texts_both_ways.main.body.getD i (.Pass ⟨0, 0, 0, 0⟩)
abbrev s_forms_of : Stmt := top 3
abbrev s_Scene___init__ : Stmt := inClass (top 13) 0
abbrev s_written : Stmt := top 15
abbrev s_written_row : Stmt := top 16
abbrev s_written_part : Stmt := top 17
abbrev s_First_word : Stmt := inClass (top 22) 0
abbrev s_Each_word : Stmt := inClass (top 23) 0
abbrev s_Last_word : Stmt := inClass (top 24) 0
abbrev s_Kind___init__ : Stmt := inClass (top 25) 0
abbrev s_Kind_words : Stmt := inClass (top 25) 2
abbrev s_kind_of : Stmt := top 26
abbrev s_made_of : Stmt := top 32
abbrev s_number_of : Stmt := top 33
abbrev s_load_of : Stmt := top 34
abbrev s_is_word : Stmt := top 35
abbrev s_read : Stmt := top 47
abbrev s_row_at : Stmt := top 48
abbrev s_well_formed : Stmt := top 49
abbrev s_number_between : Stmt := top 50
abbrev s_room_in : Stmt := top 51
abbrev s_kind_in : Stmt := top 52
abbrev s_hands_of : Stmt := top 53
abbrev s_hand_of : Stmt := top 54
abbrev s_names_of : Stmt := top 55
abbrev s_hand_in : Stmt := top 56
abbrev s_is_hand_name : Stmt := top 57
abbrev s_weave_of : Stmt := top 58
abbrev s_weave_row : Stmt := top 59
abbrev s_sweep_in : Stmt := top 60
abbrev s_told_in : Stmt := top 61
abbrev s_value_of : Stmt := top 62
abbrev s_with_hands : Stmt := top 63
abbrev s_look_at_slots : Stmt := top 64
abbrev s__law_cell_at : Stmt := top 66
abbrev s__law_whole : Stmt := top 67
abbrev s__law_safe : Stmt := top 68
abbrev s__law_hands_by : Stmt := top 69
abbrev s__law_kind_by : Stmt := top 70
abbrev s__law_word_by : Stmt := top 71
abbrev s__law_large : Stmt := top 72
abbrev s__law_row_by : Stmt := top 73
abbrev s__law_text_of : Stmt := top 74
abbrev s__law_same_row : Stmt := top 75
abbrev s__law_same_rows : Stmt := top 76
abbrev s__law_same_scene : Stmt := top 77
abbrev s_law : Stmt := top 78
structure Txt (w : World) (K : PySem.W.Frag) (mg : Str → Option Value) (C_Scene C_First C_Each C_Last C_Kind C_FORMS_make C_FORMS_get C_FORMS_put C_FORMS_copy C_FORMS_drop C_FORMS_give C_FORMS_write C_FORMS_read C_FORMS_name C_FORMS_seek f_forms_of f_Scene___init__ f_written f_written_row f_written_part f_First_word f_Each_word f_Last_word f_Kind___init__ f_Kind_words f_kind_of f_made_of f_number_of f_load_of f_is_word f_read f_row_at f_well_formed f_number_between f_room_in f_kind_in f_hands_of f_hand_of f_names_of f_hand_in f_is_hand_name f_weave_of f_weave_row f_sweep_in f_told_in f_value_of f_with_hands f_look_at_slots f__law_cell_at f__law_whole f__law_safe f__law_hands_by f__law_kind_by f__law_word_by f__law_large f__law_row_by f__law_text_of f__law_same_row f__law_same_rows f__law_same_scene : Addr) : Prop where
  tabv_FORMS : G.TabV K w mg "FORMS" [("make", .ref C_FORMS_make), ("get", .ref C_FORMS_get), ("put", .ref C_FORMS_put), ("copy", .ref C_FORMS_copy), ("drop", .ref C_FORMS_drop), ("give", .ref C_FORMS_give), ("write", .ref C_FORMS_write), ("read", .ref C_FORMS_read), ("name", .ref C_FORMS_name), ("seek", .ref C_FORMS_seek)]
  sq_FORMS_make : G.TupG K C_FORMS_make [.str "hand", .str "slot", .str "many", .str "bulk"]
  sq_FORMS_get : G.TupG K C_FORMS_get [.str "hand", .str "slot", .str "slot", .str "field"]
  sq_FORMS_put : G.TupG K C_FORMS_put [.str "hand", .str "slot", .str "field", .str "slot"]
  sq_FORMS_copy : G.TupG K C_FORMS_copy [.str "hand", .str "slot", .str "slot"]
  sq_FORMS_drop : G.TupG K C_FORMS_drop [.str "hand", .str "slot"]
  sq_FORMS_give : G.TupG K C_FORMS_give [.str "hand", .str "slot", .str "hand", .str "slot"]
  sq_FORMS_write : G.TupG K C_FORMS_write [.str "hand", .str "slot", .str "load"]
  sq_FORMS_read : G.TupG K C_FORMS_read [.str "hand", .str "slot"]
  sq_FORMS_name : G.TupG K C_FORMS_name [.str "hand", .str "slot", .str "word"]
  sq_FORMS_seek : G.TupG K C_FORMS_seek [.str "hand", .str "slot", .str "word"]
  tabv_MOST : G.TabV K w mg "MOST" [("slot", .int 999), ("field", .int 999), ("many", .int 8), ("bulk", .int 1000000000000)]
  cl_Scene : Cls K C_Scene
  m_Scene : mg "Scene" = some (.ref C_Scene)
  mk_Scene : Mk K C_Scene f_Scene___init__
  n_Scene_room : NoAttr K C_Scene "room"
  n_Scene_kind : NoAttr K C_Scene "kind"
  n_Scene_hands : NoAttr K C_Scene "hands"
  n_Scene_rows : NoAttr K C_Scene "rows"
  cl_First : Cls K C_First
  m_First : mg "First" = some (.ref C_First)
  mk0_First : G.Mk0 K C_First
  cl_Each : Cls K C_Each
  m_Each : mg "Each" = some (.ref C_Each)
  mk0_Each : G.Mk0 K C_Each
  cl_Last : Cls K C_Last
  m_Last : mg "Last" = some (.ref C_Last)
  mk0_Last : G.Mk0 K C_Last
  cl_Kind : Cls K C_Kind
  m_Kind : mg "Kind" = some (.ref C_Kind)
  mk_Kind : Mk K C_Kind f_Kind___init__
  n_Kind_looking : NoAttr K C_Kind "looking"
  n_Kind_tells : NoAttr K C_Kind "tells"
  m_forms_of : mg "forms_of" = some (.ref f_forms_of)
  me_Scene___init__ : Meth K C_Scene "__init__" f_Scene___init__
  m_written : mg "written" = some (.ref f_written)
  m_written_row : mg "written_row" = some (.ref f_written_row)
  m_written_part : mg "written_part" = some (.ref f_written_part)
  me_First_word : Meth K C_First "word" f_First_word
  me_Each_word : Meth K C_Each "word" f_Each_word
  me_Last_word : Meth K C_Last "word" f_Last_word
  me_Kind___init__ : Meth K C_Kind "__init__" f_Kind___init__
  me_Kind_words : Meth K C_Kind "words" f_Kind_words
  m_kind_of : mg "kind_of" = some (.ref f_kind_of)
  m_made_of : mg "made_of" = some (.ref f_made_of)
  m_number_of : mg "number_of" = some (.ref f_number_of)
  m_load_of : mg "load_of" = some (.ref f_load_of)
  m_is_word : mg "is_word" = some (.ref f_is_word)
  m_read : mg "read" = some (.ref f_read)
  m_row_at : mg "row_at" = some (.ref f_row_at)
  m_well_formed : mg "well_formed" = some (.ref f_well_formed)
  m_number_between : mg "number_between" = some (.ref f_number_between)
  m_room_in : mg "room_in" = some (.ref f_room_in)
  m_kind_in : mg "kind_in" = some (.ref f_kind_in)
  m_hands_of : mg "hands_of" = some (.ref f_hands_of)
  m_hand_of : mg "hand_of" = some (.ref f_hand_of)
  m_names_of : mg "names_of" = some (.ref f_names_of)
  m_hand_in : mg "hand_in" = some (.ref f_hand_in)
  m_is_hand_name : mg "is_hand_name" = some (.ref f_is_hand_name)
  m_weave_of : mg "weave_of" = some (.ref f_weave_of)
  m_weave_row : mg "weave_row" = some (.ref f_weave_row)
  m_sweep_in : mg "sweep_in" = some (.ref f_sweep_in)
  m_told_in : mg "told_in" = some (.ref f_told_in)
  m_value_of : mg "value_of" = some (.ref f_value_of)
  m_with_hands : mg "with_hands" = some (.ref f_with_hands)
  m_look_at_slots : mg "look_at_slots" = some (.ref f_look_at_slots)
  m__law_cell_at : mg "_law_cell_at" = some (.ref f__law_cell_at)
  m__law_whole : mg "_law_whole" = some (.ref f__law_whole)
  m__law_safe : mg "_law_safe" = some (.ref f__law_safe)
  m__law_hands_by : mg "_law_hands_by" = some (.ref f__law_hands_by)
  m__law_kind_by : mg "_law_kind_by" = some (.ref f__law_kind_by)
  m__law_word_by : mg "_law_word_by" = some (.ref f__law_word_by)
  m__law_large : mg "_law_large" = some (.ref f__law_large)
  m__law_row_by : mg "_law_row_by" = some (.ref f__law_row_by)
  m__law_text_of : mg "_law_text_of" = some (.ref f__law_text_of)
  m__law_same_row : mg "_law_same_row" = some (.ref f__law_same_row)
  m__law_same_rows : mg "_law_same_rows" = some (.ref f__law_same_rows)
  m__law_same_scene : mg "_law_same_scene" = some (.ref f__law_same_scene)
  z_all : mg "all" = none
  z_bool : mg "bool" = none
  z_enumerate : mg "enumerate" = none
  z_int : mg "int" = none
  z_isinstance : mg "isinstance" = none
  z_len : mg "len" = none
  z_list : mg "list" = none
  z_range : mg "range" = none
  z_str : mg "str" = none
  z_tuple : mg "tuple" = none
  z_zip : mg "zip" = none
  g_FIGURES : G.GC mg "FIGURES" (.str "0123456789")
  g_FIRST_HAND : G.GC mg "FIRST_HAND" (.int 3)
  g_LEAST_ROOM : G.GC mg "LEAST_ROOM" (.int 4)
  g_LEAST_SLOTS : G.GC mg "LEAST_SLOTS" (.int 3)
  g_LEAST_STEPS : G.GC mg "LEAST_STEPS" (.int 1)
  g_LETTERS : G.GC mg "LETTERS" (.str "abcdefghijklmnopqrstuvwxyz")
  g_MOST_FIGURES : G.GC mg "MOST_FIGURES" (.int 60)
  g_MOST_HANDS : G.GC mg "MOST_HANDS" (.int 5)
  g_MOST_LETTERS : G.GC mg "MOST_LETTERS" (.int 12)
  g_MOST_ROOM : G.GC mg "MOST_ROOM" (.int 1000000000000000)
  g_MOST_ROWS : G.GC mg "MOST_ROWS" (.int 400)
  g_MOST_SLOTS : G.GC mg "MOST_SLOTS" (.int 9)
  g_MOST_STEPS : G.GC mg "MOST_STEPS" (.int 9999)
  g_NEW : G.GC mg "NEW" (.int 2)
  g_OLD : G.GC mg "OLD" (.int 1)
  g_SWEEP : G.GC mg "SWEEP" (.str "sweep")
theorem sc_forms_of : FnScope ["word"] ["word"] (defScope s_forms_of) := ⟨rfl, rfl, rfl, by decide +kernel, rfl, by decide +kernel, by decide +kernel⟩
theorem sc_Scene___init__ : FnScope ["self", "room", "kind", "hands", "rows"] ["self", "room", "kind", "hands", "rows"] (defScope s_Scene___init__) := ⟨rfl, rfl, rfl, by decide +kernel, rfl, by decide +kernel, by decide +kernel⟩
theorem sc_written : FnScope ["scene", "names", "room", "words", "rows"] ["scene"] (defScope s_written) := ⟨rfl, rfl, rfl, by decide +kernel, rfl, by decide +kernel, by decide +kernel⟩
theorem sc_written_row : FnScope ["row", "names", "word", "parts"] ["row", "names"] (defScope s_written_row) := ⟨rfl, rfl, rfl, by decide +kernel, rfl, by decide +kernel, by decide +kernel⟩
theorem sc_written_part : FnScope ["form", "value", "names"] ["form", "value", "names"] (defScope s_written_part) := ⟨rfl, rfl, rfl, by decide +kernel, rfl, by decide +kernel, by decide +kernel⟩
theorem sc_First_word : FnScope ["self"] ["self"] (defScope s_First_word) := ⟨rfl, rfl, rfl, by decide +kernel, rfl, by decide +kernel, by decide +kernel⟩
theorem sc_Each_word : FnScope ["self"] ["self"] (defScope s_Each_word) := ⟨rfl, rfl, rfl, by decide +kernel, rfl, by decide +kernel, by decide +kernel⟩
theorem sc_Last_word : FnScope ["self"] ["self"] (defScope s_Last_word) := ⟨rfl, rfl, rfl, by decide +kernel, rfl, by decide +kernel, by decide +kernel⟩
theorem sc_Kind___init__ : FnScope ["self", "looking", "tells"] ["self", "looking", "tells"] (defScope s_Kind___init__) := ⟨rfl, rfl, rfl, by decide +kernel, rfl, by decide +kernel, by decide +kernel⟩
theorem sc_Kind_words : FnScope ["self", "text"] ["self"] (defScope s_Kind_words) := ⟨rfl, rfl, rfl, by decide +kernel, rfl, by decide +kernel, by decide +kernel⟩
theorem sc_kind_of : FnScope ["text", "looking", "tells", "kind"] ["text"] (defScope s_kind_of) := ⟨rfl, rfl, rfl, by decide +kernel, rfl, by decide +kernel, by decide +kernel⟩
theorem sc_made_of : FnScope ["text", "signs", "most"] ["text", "signs", "most"] (defScope s_made_of) := ⟨rfl, rfl, rfl, by decide +kernel, rfl, by decide +kernel, by decide +kernel⟩
theorem sc_number_of : FnScope ["text", "most", "number"] ["text", "most"] (defScope s_number_of) := ⟨rfl, rfl, rfl, by decide +kernel, rfl, by decide +kernel, by decide +kernel⟩
theorem sc_load_of : FnScope ["text", "number"] ["text"] (defScope s_load_of) := ⟨rfl, rfl, rfl, by decide +kernel, rfl, by decide +kernel, by decide +kernel⟩
theorem sc_is_word : FnScope ["text"] ["text"] (defScope s_is_word) := ⟨rfl, rfl, rfl, by decide +kernel, rfl, by decide +kernel, by decide +kernel⟩
theorem sc_read : FnScope ["text", "rows", "room", "kind", "hands", "first"] ["text"] (defScope s_read) := ⟨rfl, rfl, rfl, by decide +kernel, rfl, by decide +kernel, by decide +kernel⟩
theorem sc_row_at : FnScope ["rows", "number"] ["rows", "number"] (defScope s_row_at) := ⟨rfl, rfl, rfl, by decide +kernel, rfl, by decide +kernel, by decide +kernel⟩
theorem sc_well_formed : FnScope ["found", "number"] ["found", "number"] (defScope s_well_formed) := ⟨rfl, rfl, rfl, by decide +kernel, rfl, by decide +kernel, by decide +kernel⟩
theorem sc_number_between : FnScope ["text", "least", "most", "number"] ["text", "least", "most"] (defScope s_number_between) := ⟨rfl, rfl, rfl, by decide +kernel, rfl, by decide +kernel, by decide +kernel⟩
theorem sc_room_in : FnScope ["row", "parts"] ["row"] (defScope s_room_in) := ⟨rfl, rfl, rfl, by decide +kernel, rfl, by decide +kernel, by decide +kernel⟩
theorem sc_kind_in : FnScope ["row", "parts"] ["row"] (defScope s_kind_in) := ⟨rfl, rfl, rfl, by decide +kernel, rfl, by decide +kernel, by decide +kernel⟩
theorem sc_hands_of : FnScope ["rows", "hands", "number"] ["rows"] (defScope s_hands_of) := ⟨rfl, rfl, rfl, by decide +kernel, rfl, by decide +kernel, by decide +kernel⟩
theorem sc_hand_of : FnScope ["rows", "number", "earlier", "hand"] ["rows", "number", "earlier"] (defScope s_hand_of) := ⟨rfl, rfl, rfl, by decide +kernel, rfl, by decide +kernel, by decide +kernel⟩
theorem sc_names_of : FnScope ["hands"] ["hands"] (defScope s_names_of) := ⟨rfl, rfl, rfl, by decide +kernel, rfl, by decide +kernel, by decide +kernel⟩
theorem sc_hand_in : FnScope ["row", "parts", "many"] ["row"] (defScope s_hand_in) := ⟨rfl, rfl, rfl, by decide +kernel, rfl, by decide +kernel, by decide +kernel⟩
theorem sc_is_hand_name : FnScope ["text"] ["text"] (defScope s_is_hand_name) := ⟨rfl, rfl, rfl, by decide +kernel, rfl, by decide +kernel, by decide +kernel⟩
theorem sc_weave_of : FnScope ["rows", "first", "hands", "weave", "number"] ["rows", "first", "hands"] (defScope s_weave_of) := ⟨rfl, rfl, rfl, by decide +kernel, rfl, by decide +kernel, by decide +kernel⟩
theorem sc_weave_row : FnScope ["parts", "number", "hands", "told", "forms", "values"] ["parts", "number", "hands"] (defScope s_weave_row) := ⟨rfl, rfl, rfl, by decide +kernel, rfl, by decide +kernel, by decide +kernel⟩
theorem sc_sweep_in : FnScope ["parts", "steps"] ["parts"] (defScope s_sweep_in) := ⟨rfl, rfl, rfl, by decide +kernel, rfl, by decide +kernel, by decide +kernel⟩
theorem sc_told_in : FnScope ["parts", "forms", "texts", "told"] ["parts"] (defScope s_told_in) := ⟨rfl, rfl, rfl, by decide +kernel, rfl, by decide +kernel, by decide +kernel⟩
theorem sc_value_of : FnScope ["form", "text"] ["form", "text"] (defScope s_value_of) := ⟨rfl, rfl, rfl, by decide +kernel, rfl, by decide +kernel, by decide +kernel⟩
theorem sc_with_hands : FnScope ["forms", "told", "number", "hands", "names", "values", "form", "value"] ["forms", "told", "number", "hands"] (defScope s_with_hands) := ⟨rfl, rfl, rfl, by decide +kernel, rfl, by decide +kernel, by decide +kernel⟩
theorem sc_look_at_slots : FnScope ["forms", "values", "number", "hands", "owner", "form", "value"] ["forms", "values", "number", "hands"] (defScope s_look_at_slots) := ⟨rfl, rfl, rfl, by decide +kernel, rfl, by decide +kernel, by decide +kernel⟩
theorem sc__law_cell_at : FnScope ["_law_script", "_law_k"] ["_law_script", "_law_k"] (defScope s__law_cell_at) := ⟨rfl, rfl, rfl, by decide +kernel, rfl, by decide +kernel, by decide +kernel⟩
theorem sc__law_whole : FnScope ["_law_found"] ["_law_found"] (defScope s__law_whole) := ⟨rfl, rfl, rfl, by decide +kernel, rfl, by decide +kernel, by decide +kernel⟩
theorem sc__law_safe : FnScope ["_law_name"] ["_law_name"] (defScope s__law_safe) := ⟨rfl, rfl, rfl, by decide +kernel, rfl, by decide +kernel, by decide +kernel⟩
theorem sc__law_hands_by : FnScope ["_law_way", "_law_cell", "_law_letters", "_law_size", "_law_hands", "_law_h", "_law_name", "_law_k", "_law_far"] ["_law_way", "_law_cell"] (defScope s__law_hands_by) := ⟨rfl, rfl, rfl, by decide +kernel, rfl, by decide +kernel, by decide +kernel⟩
theorem sc__law_kind_by : FnScope ["_law_cell", "_law_words"] ["_law_cell"] (defScope s__law_kind_by) := ⟨rfl, rfl, rfl, by decide +kernel, rfl, by decide +kernel, by decide +kernel⟩
theorem sc__law_word_by : FnScope ["_law_cell", "_law_way", "_law_letters", "_law_text", "_law_k"] ["_law_cell", "_law_way"] (defScope s__law_word_by) := ⟨rfl, rfl, rfl, by decide +kernel, rfl, by decide +kernel, by decide +kernel⟩
theorem sc__law_large : FnScope ["_law_cell", "_law_way", "_law_most"] ["_law_cell", "_law_way", "_law_most"] (defScope s__law_large) := ⟨rfl, rfl, rfl, by decide +kernel, rfl, by decide +kernel, by decide +kernel⟩
theorem sc__law_row_by : FnScope ["_law_cell", "_law_k", "_law_hands", "_law_way", "_law_other", "_law_h", "_law_g", "_law_s", "_law_t", "_law_f", "_law_load", "_law_word"] ["_law_cell", "_law_k", "_law_hands"] (defScope s__law_row_by) := ⟨rfl, rfl, rfl, by decide +kernel, rfl, by decide +kernel, by decide +kernel⟩
theorem sc__law_text_of : FnScope ["_law_row", "_law_hands", "_law_text", "_law_k", "_law_part"] ["_law_row", "_law_hands"] (defScope s__law_text_of) := ⟨rfl, rfl, rfl, by decide +kernel, rfl, by decide +kernel, by decide +kernel⟩
theorem sc__law_same_row : FnScope ["_law_found", "_law_due", "_law_one", "_law_other"] ["_law_found", "_law_due"] (defScope s__law_same_row) := ⟨rfl, rfl, rfl, by decide +kernel, rfl, by decide +kernel, by decide +kernel⟩
theorem sc__law_same_rows : FnScope ["_law_found", "_law_due", "_law_one", "_law_other"] ["_law_found", "_law_due"] (defScope s__law_same_rows) := ⟨rfl, rfl, rfl, by decide +kernel, rfl, by decide +kernel, by decide +kernel⟩
theorem sc__law_same_scene : FnScope ["_law_scene", "_law_room", "_law_words", "_law_hands", "_law_weave"] ["_law_scene", "_law_room", "_law_words", "_law_hands", "_law_weave"] (defScope s__law_same_scene) := ⟨rfl, rfl, rfl, by decide +kernel, rfl, by decide +kernel, by decide +kernel⟩
theorem sc_law : FnScope ["_law_script", "_law_way", "_law_hands", "_law_room", "_law_words", "_law_weave", "_law_rows", "_law_name", "_law_many", "_law_row", "_law_text", "_law_scene", "_law_found", "_law_other"] ["_law_script"] (defScope s_law) := ⟨rfl, rfl, rfl, by decide +kernel, rfl, by decide +kernel, by decide +kernel⟩
section
variable {P : Program} {w : World} {K : PySem.W.Frag} {mg : Str → Option Value} {base : Heap} {C_Scene C_First C_Each C_Last C_Kind C_FORMS_make C_FORMS_get C_FORMS_put C_FORMS_copy C_FORMS_drop C_FORMS_give C_FORMS_write C_FORMS_read C_FORMS_name C_FORMS_seek f_forms_of f_Scene___init__ f_written f_written_row f_written_part f_First_word f_Each_word f_Last_word f_Kind___init__ f_Kind_words f_kind_of f_made_of f_number_of f_load_of f_is_word f_read f_row_at f_well_formed f_number_between f_room_in f_kind_in f_hands_of f_hand_of f_names_of f_hand_in f_is_hand_name f_weave_of f_weave_row f_sweep_in f_told_in f_value_of f_with_hands f_look_at_slots f__law_cell_at f__law_whole f__law_safe f__law_hands_by f__law_kind_by f__law_word_by f__law_large f__law_row_by f__law_text_of f__law_same_row f__law_same_rows f__law_same_scene : Addr} (T : Txt w K mg C_Scene C_First C_Each C_Last C_Kind C_FORMS_make C_FORMS_get C_FORMS_put C_FORMS_copy C_FORMS_drop C_FORMS_give C_FORMS_write C_FORMS_read C_FORMS_name C_FORMS_seek f_forms_of f_Scene___init__ f_written f_written_row f_written_part f_First_word f_Each_word f_Last_word f_Kind___init__ f_Kind_words f_kind_of f_made_of f_number_of f_load_of f_is_word f_read f_row_at f_well_formed f_number_between f_room_in f_kind_in f_hands_of f_hand_of f_names_of f_hand_in f_is_hand_name f_weave_of f_weave_row f_sweep_in f_told_in f_value_of f_with_hands f_look_at_slots f__law_cell_at f__law_whole f__law_safe f__law_hands_by f__law_kind_by f__law_word_by f__law_large f__law_row_by f__law_text_of f__law_same_row f__law_same_rows f__law_same_scene)
include T
theorem ok_forms_of {fd : FuncData} (F : Fun K "forms_of" "forms_of" s_forms_of f_forms_of fd) : FnOk P w K mg base (G.CXe P w) 1 f_forms_of fd ["word"] (S_forms K) := by
  have sc := sc_forms_of
  have tx : TxS K C_Kind C_Scene C_FORMS_copy C_FORMS_drop C_FORMS_get C_FORMS_give C_FORMS_make C_FORMS_name C_FORMS_put C_FORMS_read C_FORMS_seek C_FORMS_write := ⟨T.sq_FORMS_copy, T.sq_FORMS_drop, T.sq_FORMS_get, T.sq_FORMS_give, T.sq_FORMS_make, T.sq_FORMS_name, T.sq_FORMS_put, T.sq_FORMS_read, T.sq_FORMS_seek, T.sq_FORMS_write, T.cl_Kind, T.n_Kind_looking, T.n_Kind_tells, T.cl_Scene, T.n_Scene_room, T.n_Scene_kind, T.n_Scene_hands, T.n_Scene_rows⟩
  refine G.fok F sc (fun vs H Q E h => ?_) (fun cdv A outer s H vs Q E hr h => ?_)
  · obtain ⟨z0, rfl, q⟩ := h; rfl
  · refine ⟨rd_forms_of C_FORMS_copy C_FORMS_drop C_FORMS_get C_FORMS_give C_FORMS_make C_FORMS_name C_FORMS_put C_FORMS_read C_FORMS_seek C_FORMS_write, (pss_one (ps_ret (G.pe_tabG T.tabv_FORMS rfl (pv 0) ⟨rfl, rfl, rfl, rfl⟩))), ?_⟩
    obtain ⟨z0, rfl, q⟩ := h
    exact forms_of_rd tx q
theorem ok_Scene___init__ {fd : FuncData} (F : Fun K "__init__" "Scene.__init__" s_Scene___init__ f_Scene___init__ fd) : FnOk P w K mg base (G.CXe P w) 1 f_Scene___init__ fd ["self", "room", "kind", "hands", "rows"] (S_Scene_init C_Scene) := by
  have sc := sc_Scene___init__
  have tx : TxS K C_Kind C_Scene C_FORMS_copy C_FORMS_drop C_FORMS_get C_FORMS_give C_FORMS_make C_FORMS_name C_FORMS_put C_FORMS_read C_FORMS_seek C_FORMS_write := ⟨T.sq_FORMS_copy, T.sq_FORMS_drop, T.sq_FORMS_get, T.sq_FORMS_give, T.sq_FORMS_make, T.sq_FORMS_name, T.sq_FORMS_put, T.sq_FORMS_read, T.sq_FORMS_seek, T.sq_FORMS_write, T.cl_Kind, T.n_Kind_looking, T.n_Kind_tells, T.cl_Scene, T.n_Scene_room, T.n_Scene_kind, T.n_Scene_hands, T.n_Scene_rows⟩
  refine G.fok F sc (fun vs H Q E h => ?_) (fun cdv A outer s H vs Q E hr h => ?_)
  · obtain ⟨z0, z1, z2, z3, z4, rfl, q⟩ := h; rfl
  · refine ⟨rd_Scene___init__ K, (pss_cons (ps_fld (pv 0) (pv 1) rfl)
      (pss_cons (ps_fld (pv 0) (pv 2) rfl)
      (pss_cons (ps_fld (pv 0) (pe_callTy G.call_listL (by rfl) T.z_list G.boot_list (pa_cons (pv 3) pa_nil)) rfl)
      (pss_one (ps_fld (pv 0) (pe_callTy G.call_listL (by rfl) T.z_list G.boot_list (pa_cons (pv 4) pa_nil)) rfl))))), ?_⟩
    obtain ⟨z0, z1, z2, z3, z4, rfl, q⟩ := h
    exact Scene___init___rd tx q
theorem ok_written {fd : FuncData} (F : Fun K "written" "written" s_written f_written fd) {fd_Kind_words : FuncData} (G_Kind_words : FnOk P w K mg base (G.CXe P w) 2 f_Kind_words fd_Kind_words ["self"] (S_words C_Kind C_First C_Each C_Last)) (b_Kind_words : Binds K fd_Kind_words ["self"] []) (k_Kind_words : PySem.W.keepIn K (.ref f_Kind_words) = true) {fd_written_row : FuncData} (G_written_row : FnOk P w K mg base (G.CXe P w) 2 f_written_row fd_written_row ["row", "names"] (S_wrowW)) (b_written_row : Binds K fd_written_row ["row", "names"] []) (k_written_row : PySem.W.keepIn K (.ref f_written_row) = true) : FnOk P w K mg base (G.CXe P w) 3 f_written fd ["scene"] (S_written C_Scene C_Kind C_First C_Each C_Last) := by
  have sc := sc_written
  have tx : TxS K C_Kind C_Scene C_FORMS_copy C_FORMS_drop C_FORMS_get C_FORMS_give C_FORMS_make C_FORMS_name C_FORMS_put C_FORMS_read C_FORMS_seek C_FORMS_write := ⟨T.sq_FORMS_copy, T.sq_FORMS_drop, T.sq_FORMS_get, T.sq_FORMS_give, T.sq_FORMS_make, T.sq_FORMS_name, T.sq_FORMS_put, T.sq_FORMS_read, T.sq_FORMS_seek, T.sq_FORMS_write, T.cl_Kind, T.n_Kind_looking, T.n_Kind_tells, T.cl_Scene, T.n_Scene_room, T.n_Scene_kind, T.n_Scene_hands, T.n_Scene_rows⟩
  refine G.fok F sc (fun vs H Q E h => ?_) (fun cdv A outer s H vs Q E hr h => ?_)
  · obtain ⟨z0, rfl, q⟩ := h; rfl
  · refine ⟨rd_written K C_Kind (S_words C_Kind C_First C_Each C_Last) (S_wrowW), (pss_cons (ps_set (i := 1) sc.nd rfl (Or.inr rfl) (G.pe_lc2 (cns := []) [] (pi_list (pe_fld (pv 0) rfl)) (fun _ _ _ _ _ => G.pf_nil) (fun _ _ _ _ _ => (pv 0)) rfl rfl (by repeat (first | exact trivial | refine ⟨rfl, ?_⟩)) (by repeat (first | exact trivial | refine ⟨rfl, ?_⟩)) rfl (by decide +kernel) rfl (by decide +kernel) (by decide +kernel) rfl rfl (by decide +kernel)))
      (pss_cons (ps_set (i := 2) sc.nd rfl (Or.inl rfl) (pe_fld (pv 0) rfl))
      (pss_cons (ps_set (i := 3) sc.nd rfl (Or.inl rfl) (pe_meth0 (pe_fld (pv 0) rfl) T.cl_Kind T.me_Kind_words G_Kind_words (hr.mono (by decide)) b_Kind_words .nil G.passE0))
      (pss_cons (ps_set (i := 4) sc.nd rfl (Or.inl rfl) (pe_lst (pa_cons (G.pe_fs (G.PL.cons (pe_str) (G.PL.cons (G.pe_fmt (pv 2)) G.PL.nil))) (pa_cons (G.pe_fs (G.PL.cons (pe_str) (G.PL.cons (G.pe_fmt (pv 3)) G.PL.nil))) pa_nil))))
      (pss_cons (ps_expr (pe_bm PySem.F.plainAttrs_list PySem.F.slot_list_extend PySem.F.type_list_extend mt_extend (pv 4) (pa_cons (G.pe_lc2 (cns := []) [] (pi_list (pe_fld (pv 0) rfl)) (fun _ _ _ _ _ => G.pf_nil) (fun _ _ _ _ _ => (G.pe_fs (G.PL.cons (pe_str) (G.PL.cons (G.pe_fmt (pv 0)) (G.PL.cons (pe_str) (G.PL.cons (G.pe_fmt (pv 1)) G.PL.nil)))))) rfl rfl (by repeat (first | exact trivial | refine ⟨rfl, ?_⟩)) (by repeat (first | exact trivial | refine ⟨rfl, ?_⟩)) rfl (by decide +kernel) rfl (by decide +kernel) (by decide +kernel) rfl rfl (by decide +kernel)) pa_nil)))
      (pss_cons (ps_expr (pe_bm PySem.F.plainAttrs_list PySem.F.slot_list_append PySem.F.type_list_append mt_append (pv 4) (pa_cons (pe_str) pa_nil)))
      (pss_cons (ps_expr (pe_bm PySem.F.plainAttrs_list PySem.F.slot_list_extend PySem.F.type_list_extend mt_extend (pv 4) (pa_cons (G.pe_lc (cns := ["names"]) [1] (pi_list (pe_fld (pv 0) rfl)) (fun _ _ _ _ _ => G.pf_nil) (fun _ _ _ _ _ => (pe_call G_written_row (hr.mono (by decide)) rfl T.m_written_row k_written_row b_written_row .nil G.passE0 (pa_cons (pv 0) (pa_cons (pv 1) pa_nil)))) rfl rfl (by repeat (first | exact trivial | refine ⟨rfl, ?_⟩)) (by repeat (first | exact trivial | refine ⟨rfl, ?_⟩)) rfl (by decide +kernel) rfl (by decide +kernel) (by decide +kernel) rfl (by decide +kernel)) pa_nil)))
      (pss_one (ps_ret (pe_bm PySem.F.plainAttrs_str PySem.F.slot_str_join PySem.F.type_str_join G.mt_join (pe_str) (pa_cons (pv 4) pa_nil))))))))))), ?_⟩
    obtain ⟨z0, rfl, q⟩ := h
    exact written_rd tx q
theorem ok_written_row {fd : FuncData} (F : Fun K "written_row" "written_row" s_written_row f_written_row fd) {fd_forms_of : FuncData} (G_forms_of : FnOk P w K mg base (G.CXe P w) 1 f_forms_of fd_forms_of ["word"] (S_forms K)) (b_forms_of : Binds K fd_forms_of ["word"] []) (k_forms_of : PySem.W.keepIn K (.ref f_forms_of) = true) {fd_written_part : FuncData} (G_written_part : FnOk P w K mg base (G.CXe P w) 1 f_written_part fd_written_part ["form", "value", "names"] (S_wpart)) (b_written_part : Binds K fd_written_part ["form", "value", "names"] []) (k_written_part : PySem.W.keepIn K (.ref f_written_part) = true) : FnOk P w K mg base (G.CXe P w) 2 f_written_row fd ["row", "names"] (S_wrowW) := by
  have sc := sc_written_row
  have tx : TxS K C_Kind C_Scene C_FORMS_copy C_FORMS_drop C_FORMS_get C_FORMS_give C_FORMS_make C_FORMS_name C_FORMS_put C_FORMS_read C_FORMS_seek C_FORMS_write := ⟨T.sq_FORMS_copy, T.sq_FORMS_drop, T.sq_FORMS_get, T.sq_FORMS_give, T.sq_FORMS_make, T.sq_FORMS_name, T.sq_FORMS_put, T.sq_FORMS_read, T.sq_FORMS_seek, T.sq_FORMS_write, T.cl_Kind, T.n_Kind_looking, T.n_Kind_tells, T.cl_Scene, T.n_Scene_room, T.n_Scene_kind, T.n_Scene_hands, T.n_Scene_rows⟩
  refine G.fok F sc (fun vs H Q E h => ?_) (fun cdv A outer s H vs Q E hr h => ?_)
  · obtain ⟨z0, z1, rfl, q⟩ := h; rfl
  · refine ⟨rd_written_row K (S_forms K) (S_wpart), (pss_cons (ps_set (i := 2) sc.nd rfl (Or.inl rfl) (pe_ix ix_tup (pv 0) (pe_int) (fun _ _ => rfl)))
      (pss_cons (ps_if (pt_cmpR op_eq (pv 2) (T.g_SWEEP.pe rfl) (nomark _)) (pss_one (ps_ret (pe_bm PySem.F.plainAttrs_str PySem.F.slot_str_join PySem.F.type_str_join G.mt_join (pe_str) (pa_cons (pe_lst (pa_cons (pv 2) (pa_cons (pe_callTy G.call_strI (by rfl) T.z_str G.boot_str (pa_cons (pe_ix ix_tup (pv 0) (pe_int) (fun _ _ => rfl)) pa_nil)) pa_nil))) pa_nil)))) pss_nil)
      (pss_cons (G.ps_lcset2 (iz := 3) (cns := ["names"]) [1] (G.pi_zip2 true true rfl T.z_zip (pa_cons (pe_call G_forms_of (hr.mono (by decide)) rfl T.m_forms_of k_forms_of b_forms_of .nil G.passE0 (pa_cons (pv 2) pa_nil)) (pa_cons (pe_slice sl_tup (pv 0) (po_some (pe_int)) po_none) pa_nil))) (fun _ _ _ _ _ => G.pf_nil) (fun _ _ _ _ _ => (pe_call G_written_part (hr.mono (by decide)) rfl T.m_written_part k_written_part b_written_part .nil G.passE0 (pa_cons (pv 0) (pa_cons (pv 1) (pa_cons (pv 2) pa_nil))))) rfl rfl (by repeat (first | exact trivial | refine ⟨rfl, ?_⟩)) (by repeat (first | exact trivial | refine ⟨rfl, ?_⟩)) rfl (by decide +kernel) rfl (by decide +kernel) (by decide +kernel) rfl rfl (by decide +kernel) sc.nd rfl (Or.inl rfl) (Or.inr rfl) rfl)
      (pss_one (ps_ret (pe_bm PySem.F.plainAttrs_str PySem.F.slot_str_join PySem.F.type_str_join G.mt_join (pe_str) (pa_cons (pe_op op_cat (pe_op op_cat (pe_slice sl_list (pv 3) po_none (po_some (pe_int))) (pe_lst (pa_cons (pv 2) pa_nil))) (pe_slice sl_list (pv 3) (po_some (pe_int)) po_none)) pa_nil))))))), ?_⟩
    obtain ⟨z0, z1, rfl, q⟩ := h
    exact written_row_rd q
theorem ok_written_part {fd : FuncData} (F : Fun K "written_part" "written_part" s_written_part f_written_part fd) : FnOk P w K mg base (G.CXe P w) 1 f_written_part fd ["form", "value", "names"] (S_wpart) := by
  have sc := sc_written_part
  have tx : TxS K C_Kind C_Scene C_FORMS_copy C_FORMS_drop C_FORMS_get C_FORMS_give C_FORMS_make C_FORMS_name C_FORMS_put C_FORMS_read C_FORMS_seek C_FORMS_write := ⟨T.sq_FORMS_copy, T.sq_FORMS_drop, T.sq_FORMS_get, T.sq_FORMS_give, T.sq_FORMS_make, T.sq_FORMS_name, T.sq_FORMS_put, T.sq_FORMS_read, T.sq_FORMS_seek, T.sq_FORMS_write, T.cl_Kind, T.n_Kind_looking, T.n_Kind_tells, T.cl_Scene, T.n_Scene_room, T.n_Scene_kind, T.n_Scene_hands, T.n_Scene_rows⟩
  refine G.fok F sc (fun vs H Q E h => ?_) (fun cdv A outer s H vs Q E hr h => ?_)
  · obtain ⟨z0, z1, z2, rfl, q⟩ := h; rfl
  · refine ⟨rd_written_part K, (pss_one (ps_ret (pe_ifExp (pt_cmpR op_eq (pv 0) (pe_str) (nomark _)) (pe_ix ix_list (pv 2) (pv 1) (fun _ _ => rfl)) (pe_callTy G.call_strV (by rfl) T.z_str G.boot_str (pa_cons (pv 1) pa_nil))))), ?_⟩
    obtain ⟨z0, z1, z2, rfl, q⟩ := h
    exact written_part_rd q
theorem ok_First_word {fd : FuncData} (F : Fun K "word" "First.word" s_First_word f_First_word fd) : FnOk P w K mg base (G.CXe P w) 1 f_First_word fd ["self"] (S_tell (.str "first")) := by
  have sc := sc_First_word
  have tx : TxS K C_Kind C_Scene C_FORMS_copy C_FORMS_drop C_FORMS_get C_FORMS_give C_FORMS_make C_FORMS_name C_FORMS_put C_FORMS_read C_FORMS_seek C_FORMS_write := ⟨T.sq_FORMS_copy, T.sq_FORMS_drop, T.sq_FORMS_get, T.sq_FORMS_give, T.sq_FORMS_make, T.sq_FORMS_name, T.sq_FORMS_put, T.sq_FORMS_read, T.sq_FORMS_seek, T.sq_FORMS_write, T.cl_Kind, T.n_Kind_looking, T.n_Kind_tells, T.cl_Scene, T.n_Scene_room, T.n_Scene_kind, T.n_Scene_hands, T.n_Scene_rows⟩
  refine G.fok F sc (fun vs H Q E h => ?_) (fun cdv A outer s H vs Q E hr h => ?_)
  · obtain ⟨z0, rfl, q⟩ := h; rfl
  · refine ⟨rd_First_word, (pss_one (ps_ret (pe_str))), ?_⟩
    obtain ⟨z0, rfl, q⟩ := h
    exact First_word_rd q
theorem ok_Each_word {fd : FuncData} (F : Fun K "word" "Each.word" s_Each_word f_Each_word fd) : FnOk P w K mg base (G.CXe P w) 1 f_Each_word fd ["self"] (S_tell (.str "each")) := by
  have sc := sc_Each_word
  have tx : TxS K C_Kind C_Scene C_FORMS_copy C_FORMS_drop C_FORMS_get C_FORMS_give C_FORMS_make C_FORMS_name C_FORMS_put C_FORMS_read C_FORMS_seek C_FORMS_write := ⟨T.sq_FORMS_copy, T.sq_FORMS_drop, T.sq_FORMS_get, T.sq_FORMS_give, T.sq_FORMS_make, T.sq_FORMS_name, T.sq_FORMS_put, T.sq_FORMS_read, T.sq_FORMS_seek, T.sq_FORMS_write, T.cl_Kind, T.n_Kind_looking, T.n_Kind_tells, T.cl_Scene, T.n_Scene_room, T.n_Scene_kind, T.n_Scene_hands, T.n_Scene_rows⟩
  refine G.fok F sc (fun vs H Q E h => ?_) (fun cdv A outer s H vs Q E hr h => ?_)
  · obtain ⟨z0, rfl, q⟩ := h; rfl
  · refine ⟨rd_Each_word, (pss_one (ps_ret (pe_str))), ?_⟩
    obtain ⟨z0, rfl, q⟩ := h
    exact Each_word_rd q
theorem ok_Last_word {fd : FuncData} (F : Fun K "word" "Last.word" s_Last_word f_Last_word fd) : FnOk P w K mg base (G.CXe P w) 1 f_Last_word fd ["self"] (S_tell (.str "last")) := by
  have sc := sc_Last_word
  have tx : TxS K C_Kind C_Scene C_FORMS_copy C_FORMS_drop C_FORMS_get C_FORMS_give C_FORMS_make C_FORMS_name C_FORMS_put C_FORMS_read C_FORMS_seek C_FORMS_write := ⟨T.sq_FORMS_copy, T.sq_FORMS_drop, T.sq_FORMS_get, T.sq_FORMS_give, T.sq_FORMS_make, T.sq_FORMS_name, T.sq_FORMS_put, T.sq_FORMS_read, T.sq_FORMS_seek, T.sq_FORMS_write, T.cl_Kind, T.n_Kind_looking, T.n_Kind_tells, T.cl_Scene, T.n_Scene_room, T.n_Scene_kind, T.n_Scene_hands, T.n_Scene_rows⟩
  refine G.fok F sc (fun vs H Q E h => ?_) (fun cdv A outer s H vs Q E hr h => ?_)
  · obtain ⟨z0, rfl, q⟩ := h; rfl
  · refine ⟨rd_Last_word, (pss_one (ps_ret (pe_str))), ?_⟩
    obtain ⟨z0, rfl, q⟩ := h
    exact Last_word_rd q
theorem ok_Kind___init__ {fd : FuncData} (F : Fun K "__init__" "Kind.__init__" s_Kind___init__ f_Kind___init__ fd) : FnOk P w K mg base (G.CXe P w) 1 f_Kind___init__ fd ["self", "looking", "tells"] (S_Kind_init C_Kind) := by
  have sc := sc_Kind___init__
  have tx : TxS K C_Kind C_Scene C_FORMS_copy C_FORMS_drop C_FORMS_get C_FORMS_give C_FORMS_make C_FORMS_name C_FORMS_put C_FORMS_read C_FORMS_seek C_FORMS_write := ⟨T.sq_FORMS_copy, T.sq_FORMS_drop, T.sq_FORMS_get, T.sq_FORMS_give, T.sq_FORMS_make, T.sq_FORMS_name, T.sq_FORMS_put, T.sq_FORMS_read, T.sq_FORMS_seek, T.sq_FORMS_write, T.cl_Kind, T.n_Kind_looking, T.n_Kind_tells, T.cl_Scene, T.n_Scene_room, T.n_Scene_kind, T.n_Scene_hands, T.n_Scene_rows⟩
  refine G.fok F sc (fun vs H Q E h => ?_) (fun cdv A outer s H vs Q E hr h => ?_)
  · obtain ⟨z0, z1, z2, rfl, q⟩ := h; rfl
  · refine ⟨rd_Kind___init__ K, (pss_cons (ps_fld (pv 0) (pv 1) rfl)
      (pss_one (ps_fld (pv 0) (pv 2) rfl))), ?_⟩
    obtain ⟨z0, z1, z2, rfl, q⟩ := h
    exact Kind___init___rd tx q
theorem ok_Kind_words {fd : FuncData} (F : Fun K "words" "Kind.words" s_Kind_words f_Kind_words fd) {fd_Each_word : FuncData} (G_Each_word : FnOk P w K mg base (G.CXe P w) 1 f_Each_word fd_Each_word ["self"] (S_tell (.str "each"))) (b_Each_word : Binds K fd_Each_word ["self"] []) (k_Each_word : PySem.W.keepIn K (.ref f_Each_word) = true) {fd_First_word : FuncData} (G_First_word : FnOk P w K mg base (G.CXe P w) 1 f_First_word fd_First_word ["self"] (S_tell (.str "first"))) (b_First_word : Binds K fd_First_word ["self"] []) (k_First_word : PySem.W.keepIn K (.ref f_First_word) = true) {fd_Last_word : FuncData} (G_Last_word : FnOk P w K mg base (G.CXe P w) 1 f_Last_word fd_Last_word ["self"] (S_tell (.str "last"))) (b_Last_word : Binds K fd_Last_word ["self"] []) (k_Last_word : PySem.W.keepIn K (.ref f_Last_word) = true) : FnOk P w K mg base (G.CXe P w) 2 f_Kind_words fd ["self"] (S_words C_Kind C_First C_Each C_Last) := by
  have sc := sc_Kind_words
  have tx : TxS K C_Kind C_Scene C_FORMS_copy C_FORMS_drop C_FORMS_get C_FORMS_give C_FORMS_make C_FORMS_name C_FORMS_put C_FORMS_read C_FORMS_seek C_FORMS_write := ⟨T.sq_FORMS_copy, T.sq_FORMS_drop, T.sq_FORMS_get, T.sq_FORMS_give, T.sq_FORMS_make, T.sq_FORMS_name, T.sq_FORMS_put, T.sq_FORMS_read, T.sq_FORMS_seek, T.sq_FORMS_write, T.cl_Kind, T.n_Kind_looking, T.n_Kind_tells, T.cl_Scene, T.n_Scene_room, T.n_Scene_kind, T.n_Scene_hands, T.n_Scene_rows⟩
  refine G.fok F sc (fun vs H Q E h => ?_) (fun cdv A outer s H vs Q E hr h => ?_)
  · obtain ⟨z0, rfl, q⟩ := h; rfl
  · refine ⟨rd_Kind_words K C_Each C_First C_Last (S_tell (.str "each")) (S_tell (.str "first")) (S_tell (.str "last")), (pss_cons (ps_set (i := 1) sc.nd rfl (Or.inl rfl) (G.pe_eith (pe_meth0 (pe_fld (pv 0) rfl) T.cl_First T.me_First_word G_First_word (hr.mono (by decide)) b_First_word .nil G.passE0) (G.pe_eith (pe_meth0 (pe_fld (pv 0) rfl) T.cl_Each T.me_Each_word G_Each_word (hr.mono (by decide)) b_Each_word .nil G.passE0) (pe_meth0 (pe_fld (pv 0) rfl) T.cl_Last T.me_Last_word G_Last_word (hr.mono (by decide)) b_Last_word .nil G.passE0))))
      (pss_cons (ps_if (pt_cmpR op_ne (pe_op op_and (pe_fld (pv 0) rfl) (T.g_OLD.pe rfl)) (pe_int) (nomark _)) (pss_one (ps_set (i := 1) sc.nd rfl (Or.inl rfl) (pe_op op_add_str (pv 1) (pe_str)))) pss_nil)
      (pss_cons (ps_if (pt_cmpR op_ne (pe_op op_and (pe_fld (pv 0) rfl) (T.g_NEW.pe rfl)) (pe_int) (nomark _)) (pss_one (ps_set (i := 1) sc.nd rfl (Or.inl rfl) (pe_op op_add_str (pv 1) (pe_str)))) pss_nil)
      (pss_one (ps_ret (pv 1)))))), ?_⟩
    obtain ⟨z0, rfl, q⟩ := h
    exact Kind_words_rd tx q
theorem ok_kind_of {fd : FuncData} (F : Fun K "kind_of" "kind_of" s_kind_of f_kind_of fd) {fd_Kind___init__ : FuncData} (G_Kind___init__ : FnOk P w K mg base (G.CXe P w) 1 f_Kind___init__ fd_Kind___init__ ["self", "looking", "tells"] (S_Kind_init C_Kind)) (b_Kind___init__ : Binds K fd_Kind___init__ ["self", "looking", "tells"] []) (k_Kind___init__ : PySem.W.keepIn K (.ref f_Kind___init__) = true) {fd_Kind_words : FuncData} (G_Kind_words : FnOk P w K mg base (G.CXe P w) 2 f_Kind_words fd_Kind_words ["self"] (S_words C_Kind C_First C_Each C_Last)) (b_Kind_words : Binds K fd_Kind_words ["self"] []) (k_Kind_words : PySem.W.keepIn K (.ref f_Kind_words) = true) : FnOk P w K mg base (G.CXe P w) 3 f_kind_of fd ["text"] (S_kind_of C_Kind C_First C_Each C_Last) := by
  have sc := sc_kind_of
  have tx : TxS K C_Kind C_Scene C_FORMS_copy C_FORMS_drop C_FORMS_get C_FORMS_give C_FORMS_make C_FORMS_name C_FORMS_put C_FORMS_read C_FORMS_seek C_FORMS_write := ⟨T.sq_FORMS_copy, T.sq_FORMS_drop, T.sq_FORMS_get, T.sq_FORMS_give, T.sq_FORMS_make, T.sq_FORMS_name, T.sq_FORMS_put, T.sq_FORMS_read, T.sq_FORMS_seek, T.sq_FORMS_write, T.cl_Kind, T.n_Kind_looking, T.n_Kind_tells, T.cl_Scene, T.n_Scene_room, T.n_Scene_kind, T.n_Scene_hands, T.n_Scene_rows⟩
  refine G.fok F sc (fun vs H Q E h => ?_) (fun cdv A outer s H vs Q E hr h => ?_)
  · obtain ⟨z0, rfl, q⟩ := h; rfl
  · refine ⟨rd_kind_of K C_Each C_First C_Kind C_Last (S_Kind_init C_Kind) (S_words C_Kind C_First C_Each C_Last), (pss_cons (ps_for PassesOwn.never rfl (pi_list (pe_lst (pa_cons (G.pe_make00 T.mk0_First rfl T.m_First) (pa_cons (G.pe_make00 T.mk0_Each rfl T.m_Each) (pa_cons (G.pe_make00 T.mk0_Last rfl T.m_Last) pa_nil))))) (pg_name (i := 1) sc.nd rfl (Or.inl rfl))
      (pss_one (ps_for PassesOwn.never rfl (pi_range1 rfl T.z_range (pa_cons (pe_int) pa_nil)) (pg_name (i := 2) sc.nd rfl (Or.inl rfl))
      (pss_cons (ps_set (i := 3) sc.nd rfl (Or.inl rfl) (pe_make T.mk_Kind G_Kind___init__ (hr.mono (by decide)) rfl T.m_Kind b_Kind___init__ .nil G.passE0 (pa_cons (pv 1) (pa_cons (pv 2) pa_nil))))
      (pss_one (ps_if (pt_cmpR op_eq (pe_meth0 (pv 3) T.cl_Kind T.me_Kind_words G_Kind_words (hr.mono (by decide)) b_Kind_words .nil G.passE0) (pv 0) (nomark _)) (pss_one (ps_ret (pv 3))) pss_nil))))))
      (pss_one (ps_ret (pe_non)))), ?_⟩
    obtain ⟨z0, rfl, q⟩ := h
    exact kind_of_rd tx q
theorem ok_made_of {fd : FuncData} (F : Fun K "made_of" "made_of" s_made_of f_made_of fd) : FnOk P w K mg base (G.CXe P w) 1 f_made_of fd ["text", "signs", "most"] (S_made) := by
  have sc := sc_made_of
  have tx : TxS K C_Kind C_Scene C_FORMS_copy C_FORMS_drop C_FORMS_get C_FORMS_give C_FORMS_make C_FORMS_name C_FORMS_put C_FORMS_read C_FORMS_seek C_FORMS_write := ⟨T.sq_FORMS_copy, T.sq_FORMS_drop, T.sq_FORMS_get, T.sq_FORMS_give, T.sq_FORMS_make, T.sq_FORMS_name, T.sq_FORMS_put, T.sq_FORMS_read, T.sq_FORMS_seek, T.sq_FORMS_write, T.cl_Kind, T.n_Kind_looking, T.n_Kind_tells, T.cl_Scene, T.n_Scene_room, T.n_Scene_kind, T.n_Scene_hands, T.n_Scene_rows⟩
  refine G.fok F sc (fun vs H Q E h => ?_) (fun cdv A outer s H vs Q E hr h => ?_)
  · obtain ⟨z0, z1, z2, rfl, q⟩ := h; rfl
  · refine ⟨rd_made_of K, (pss_one (ps_ret ((pe_and (pe_chain op_le op_le (pe_int) (pe_callB G.call_lenS (by rfl) T.z_len G.boot_len (pa_cons (pv 0) pa_nil)) (pv 2)) (pe_one (pe_callB (G.call_all rfl) (by rfl) T.z_all G.boot_all (pa_cons (G.pe_lc (cns := ["signs"]) [1] (G.pi_str (pv 0)) (fun _ _ _ _ _ => G.pf_nil) (fun _ _ _ _ _ => (pe_cmpR G.op_inS (pv 0) (pv 1) (by with_unfolding_all rfl))) rfl rfl (by repeat (first | exact trivial | refine ⟨rfl, ?_⟩)) (by repeat (first | exact trivial | refine ⟨rfl, ?_⟩)) rfl (by decide +kernel) rfl (by decide +kernel) (by decide +kernel) rfl (by decide +kernel)) pa_nil))))))), ?_⟩
    obtain ⟨z0, z1, z2, rfl, q⟩ := h
    exact made_of_rd q
theorem ok_number_of {fd : FuncData} (F : G.FunD K "number_of" "number_of" s_number_of f_number_of fd) {fd_made_of : FuncData} (G_made_of : FnOk P w K mg base (G.CXe P w) 1 f_made_of fd_made_of ["text", "signs", "most"] (S_made)) (b_made_of : Binds K fd_made_of ["text", "signs", "most"] []) (k_made_of : PySem.W.keepIn K (.ref f_made_of) = true) : FnOk P w K mg base (G.CXe P w) 2 f_number_of fd ["text", "most"] (S_num) := by
  have sc := sc_number_of
  have tx : TxS K C_Kind C_Scene C_FORMS_copy C_FORMS_drop C_FORMS_get C_FORMS_give C_FORMS_make C_FORMS_name C_FORMS_put C_FORMS_read C_FORMS_seek C_FORMS_write := ⟨T.sq_FORMS_copy, T.sq_FORMS_drop, T.sq_FORMS_get, T.sq_FORMS_give, T.sq_FORMS_make, T.sq_FORMS_name, T.sq_FORMS_put, T.sq_FORMS_read, T.sq_FORMS_seek, T.sq_FORMS_write, T.cl_Kind, T.n_Kind_looking, T.n_Kind_tells, T.cl_Scene, T.n_Scene_room, T.n_Scene_kind, T.n_Scene_hands, T.n_Scene_rows⟩
  refine G.fokD F sc (fun vs H Q E h => ?_) (fun cdv A outer s H vs Q E hr h => ?_)
  · obtain ⟨z0, z1, rfl, q⟩ := h; rfl
  · refine ⟨rd_number_of K (S_made), (pss_cons (ps_if (pt_not (pt_val (pe_call G_made_of (hr.mono (by decide)) rfl T.m_made_of k_made_of b_made_of .nil G.passE0 (pa_cons (pv 0) (pa_cons (T.g_FIGURES.pe rfl) (pa_cons (T.g_MOST_FIGURES.pe rfl) pa_nil)))))) (pss_one (ps_ret (pe_non))) pss_nil)
      (pss_cons (ps_if (PW.pt (pw_and (pt_val (pe_bm PySem.F.plainAttrs_str PySem.F.slot_str_startswith PySem.F.type_str_startswith G.mt_startswith (pv 0) (pa_cons (pe_str) pa_nil))) (pw_and1 (pt_cmpR op_ne (pv 0) (pe_str) (nomark _))))) (pss_one (ps_ret (pe_non))) pss_nil)
      (pss_cons (ps_set (i := 2) sc.nd rfl (Or.inl rfl) (pe_callTy G.call_intS (by rfl) T.z_int G.boot_int (pa_cons (pv 0) pa_nil)))
      (pss_cons (ps_if (PW.pt (pw_and (pt_cmpR G.op_notN_ (pv 1) (pe_non) (nomark _)) (pw_and1 (pt_cmpR op_gt (pv 2) (pv 1) (nomark _))))) (pss_one (ps_ret (pe_non))) pss_nil)
      (pss_one (ps_ret (pv 2))))))), ?_⟩
    obtain ⟨z0, z1, rfl, q⟩ := h
    exact number_of_rd q
theorem ok_load_of {fd : FuncData} (F : Fun K "load_of" "load_of" s_load_of f_load_of fd) {fd_number_of : FuncData} (G_number_of : FnOk P w K mg base (G.CXe P w) 2 f_number_of fd_number_of ["text", "most"] (S_num)) (b_number_of : Binds K fd_number_of ["text", "most"] []) (k_number_of : PySem.W.keepIn K (.ref f_number_of) = true) {ds_number_of_1 : List Value} (bd_number_of_1 : Binds K fd_number_of ["text", "most"] ds_number_of_1) (hd_number_of_1 : Vals [.non] ds_number_of_1) : FnOk P w K mg base (G.CXe P w) 3 f_load_of fd ["text"] (S_load) := by
  have sc := sc_load_of
  have tx : TxS K C_Kind C_Scene C_FORMS_copy C_FORMS_drop C_FORMS_get C_FORMS_give C_FORMS_make C_FORMS_name C_FORMS_put C_FORMS_read C_FORMS_seek C_FORMS_write := ⟨T.sq_FORMS_copy, T.sq_FORMS_drop, T.sq_FORMS_get, T.sq_FORMS_give, T.sq_FORMS_make, T.sq_FORMS_name, T.sq_FORMS_put, T.sq_FORMS_read, T.sq_FORMS_seek, T.sq_FORMS_write, T.cl_Kind, T.n_Kind_looking, T.n_Kind_tells, T.cl_Scene, T.n_Scene_room, T.n_Scene_kind, T.n_Scene_hands, T.n_Scene_rows⟩
  refine G.fok F sc (fun vs H Q E h => ?_) (fun cdv A outer s H vs Q E hr h => ?_)
  · obtain ⟨z0, rfl, q⟩ := h; rfl
  · refine ⟨rd_load_of K (S_num), (pss_cons (ps_if (pt_not (pt_val (pe_bm PySem.F.plainAttrs_str PySem.F.slot_str_startswith PySem.F.type_str_startswith G.mt_startswith (pv 0) (pa_cons (pe_str) pa_nil)))) (pss_one (ps_ret (pe_call G_number_of (hr.mono (by decide)) rfl T.m_number_of k_number_of bd_number_of_1 hd_number_of_1 G.passE0 (pa_cons (pv 0) pa_nil)))) pss_nil)
      (pss_cons (ps_set (i := 1) sc.nd rfl (Or.inl rfl) (pe_call G_number_of (hr.mono (by decide)) rfl T.m_number_of k_number_of bd_number_of_1 hd_number_of_1 G.passE0 (pa_cons (pe_slice G.sl_str (pv 0) (po_some (pe_int)) po_none) pa_nil)))
      (pss_cons (ps_if (PW.pt (pw_or (pt_cmpR G.op_isN_ (pv 1) (pe_non) (nomark _)) (pw_or1 (pt_cmpR op_eq (pv 1) (pe_int) (nomark _))))) (pss_one (ps_ret (pe_non))) pss_nil)
      (pss_one (ps_ret (pe_un un_neg (pv 1))))))), ?_⟩
    obtain ⟨z0, rfl, q⟩ := h
    exact load_of_rd q
theorem ok_is_word {fd : FuncData} (F : Fun K "is_word" "is_word" s_is_word f_is_word fd) {fd_made_of : FuncData} (G_made_of : FnOk P w K mg base (G.CXe P w) 1 f_made_of fd_made_of ["text", "signs", "most"] (S_made)) (b_made_of : Binds K fd_made_of ["text", "signs", "most"] []) (k_made_of : PySem.W.keepIn K (.ref f_made_of) = true) : FnOk P w K mg base (G.CXe P w) 2 f_is_word fd ["text"] (S_word) := by
  have sc := sc_is_word
  have tx : TxS K C_Kind C_Scene C_FORMS_copy C_FORMS_drop C_FORMS_get C_FORMS_give C_FORMS_make C_FORMS_name C_FORMS_put C_FORMS_read C_FORMS_seek C_FORMS_write := ⟨T.sq_FORMS_copy, T.sq_FORMS_drop, T.sq_FORMS_get, T.sq_FORMS_give, T.sq_FORMS_make, T.sq_FORMS_name, T.sq_FORMS_put, T.sq_FORMS_read, T.sq_FORMS_seek, T.sq_FORMS_write, T.cl_Kind, T.n_Kind_looking, T.n_Kind_tells, T.cl_Scene, T.n_Scene_room, T.n_Scene_kind, T.n_Scene_hands, T.n_Scene_rows⟩
  refine G.fok F sc (fun vs H Q E h => ?_) (fun cdv A outer s H vs Q E hr h => ?_)
  · obtain ⟨z0, rfl, q⟩ := h; rfl
  · refine ⟨rd_is_word (S_made), (pss_one (ps_ret (pe_call G_made_of (hr.mono (by decide)) rfl T.m_made_of k_made_of b_made_of .nil G.passE0 (pa_cons (pv 0) (pa_cons (T.g_LETTERS.pe rfl) (pa_cons (T.g_MOST_LETTERS.pe rfl) pa_nil)))))), ?_⟩
    obtain ⟨z0, rfl, q⟩ := h
    exact is_word_rd q
theorem ok_read {fd : FuncData} (F : Fun K "read" "read" s_read f_read fd) {fd_Scene___init__ : FuncData} (G_Scene___init__ : FnOk P w K mg base (G.CXe P w) 1 f_Scene___init__ fd_Scene___init__ ["self", "room", "kind", "hands", "rows"] (S_Scene_init C_Scene)) (b_Scene___init__ : Binds K fd_Scene___init__ ["self", "room", "kind", "hands", "rows"] []) (k_Scene___init__ : PySem.W.keepIn K (.ref f_Scene___init__) = true) {fd_hands_of : FuncData} (G_hands_of : FnOk P w K mg base (G.CXe P w) 6 f_hands_of fd_hands_of ["rows"] (S_handsof)) (b_hands_of : Binds K fd_hands_of ["rows"] []) (k_hands_of : PySem.W.keepIn K (.ref f_hands_of) = true) {fd_kind_in : FuncData} (G_kind_in : FnOk P w K mg base (G.CXe P w) 4 f_kind_in fd_kind_in ["row"] (S_kindin C_Kind C_First C_Each C_Last)) (b_kind_in : Binds K fd_kind_in ["row"] []) (k_kind_in : PySem.W.keepIn K (.ref f_kind_in) = true) {fd_room_in : FuncData} (G_room_in : FnOk P w K mg base (G.CXe P w) 4 f_room_in fd_room_in ["row"] (S_room)) (b_room_in : Binds K fd_room_in ["row"] []) (k_room_in : PySem.W.keepIn K (.ref f_room_in) = true) {fd_row_at : FuncData} (G_row_at : FnOk P w K mg base (G.CXe P w) 1 f_row_at fd_row_at ["rows", "number"] (S_rowat)) (b_row_at : Binds K fd_row_at ["rows", "number"] []) (k_row_at : PySem.W.keepIn K (.ref f_row_at) = true) {fd_weave_of : FuncData} (G_weave_of : FnOk P w K mg base (G.CXe P w) 7 f_weave_of fd_weave_of ["rows", "first", "hands"] (S_weave)) (b_weave_of : Binds K fd_weave_of ["rows", "first", "hands"] []) (k_weave_of : PySem.W.keepIn K (.ref f_weave_of) = true) {fd_well_formed : FuncData} (G_well_formed : FnOk P w K mg base (G.CXe P w) 1 f_well_formed fd_well_formed ["found", "number"] (S_well)) (b_well_formed : Binds K fd_well_formed ["found", "number"] []) (k_well_formed : PySem.W.keepIn K (.ref f_well_formed) = true) : FnOk P w K mg base (G.CXe P w) 8 f_read fd ["text"] (S_read C_Scene C_Kind C_First C_Each C_Last) := by
  have sc := sc_read
  have tx : TxS K C_Kind C_Scene C_FORMS_copy C_FORMS_drop C_FORMS_get C_FORMS_give C_FORMS_make C_FORMS_name C_FORMS_put C_FORMS_read C_FORMS_seek C_FORMS_write := ⟨T.sq_FORMS_copy, T.sq_FORMS_drop, T.sq_FORMS_get, T.sq_FORMS_give, T.sq_FORMS_make, T.sq_FORMS_name, T.sq_FORMS_put, T.sq_FORMS_read, T.sq_FORMS_seek, T.sq_FORMS_write, T.cl_Kind, T.n_Kind_looking, T.n_Kind_tells, T.cl_Scene, T.n_Scene_room, T.n_Scene_kind, T.n_Scene_hands, T.n_Scene_rows⟩
  refine G.fok F sc (fun vs H Q E h => ?_) (fun cdv A outer s H vs Q E hr h => ?_)
  · obtain ⟨z0, rfl, q⟩ := h; rfl
  · refine ⟨rd_read K C_Scene (S_Scene_init C_Scene) (S_handsof) (S_kindin C_Kind C_First C_Each C_Last) (S_room) (S_rowat) (S_weave) (S_well), (pss_cons (ps_set (i := 1) sc.nd rfl (Or.inl rfl) (pe_bm PySem.F.plainAttrs_str PySem.F.slot_str_split PySem.F.type_str_split G.mt_split (pv 0) (pa_cons (pe_str) pa_nil)))
      (pss_cons (ps_set (i := 2) sc.nd rfl (Or.inl rfl) (pe_call G_well_formed (hr.mono (by decide)) rfl T.m_well_formed k_well_formed b_well_formed .nil G.passE0 (pa_cons (pe_call G_room_in (hr.mono (by decide)) rfl T.m_room_in k_room_in b_room_in .nil G.passE0 (pa_cons (pe_call G_row_at (hr.mono (by decide)) rfl T.m_row_at k_row_at b_row_at .nil G.passE0 (pa_cons (pv 1) (pa_cons (pe_int) pa_nil))) pa_nil)) (pa_cons (pe_int) pa_nil))))
      (pss_cons (ps_set (i := 3) sc.nd rfl (Or.inl rfl) (pe_call G_well_formed (hr.mono (by decide)) rfl T.m_well_formed k_well_formed b_well_formed .nil G.passE0 (pa_cons (pe_call G_kind_in (hr.mono (by decide)) rfl T.m_kind_in k_kind_in b_kind_in .nil G.passE0 (pa_cons (pe_call G_row_at (hr.mono (by decide)) rfl T.m_row_at k_row_at b_row_at .nil G.passE0 (pa_cons (pv 1) (pa_cons (pe_int) pa_nil))) pa_nil)) (pa_cons (pe_int) pa_nil))))
      (pss_cons (ps_set (i := 4) sc.nd rfl (Or.inl rfl) (pe_call G_hands_of (hr.mono (by decide)) rfl T.m_hands_of k_hands_of b_hands_of .nil G.passE0 (pa_cons (pv 1) pa_nil)))
      (pss_cons (ps_set (i := 5) sc.nd rfl (Or.inl rfl) (pe_op op_add (pe_op op_add (T.g_FIRST_HAND.pe rfl) (pe_callB G.call_lenL (by rfl) T.z_len G.boot_len (pa_cons (pv 4) pa_nil))) (pe_int)))
      (pss_one (ps_ret (pe_make T.mk_Scene G_Scene___init__ (hr.mono (by decide)) rfl T.m_Scene b_Scene___init__ .nil G.passE0 (pa_cons (pv 2) (pa_cons (pv 3) (pa_cons (pv 4) (pa_cons (pe_call G_weave_of (hr.mono (by decide)) rfl T.m_weave_of k_weave_of b_weave_of .nil G.passE0 (pa_cons (pv 1) (pa_cons (pv 5) (pa_cons (pv 4) pa_nil)))) pa_nil)))))))))))), ?_⟩
    obtain ⟨z0, rfl, q⟩ := h
    exact read_rd q
theorem ok_row_at {fd : FuncData} (F : Fun K "row_at" "row_at" s_row_at f_row_at fd) : FnOk P w K mg base (G.CXe P w) 1 f_row_at fd ["rows", "number"] (S_rowat) := by
  have sc := sc_row_at
  have tx : TxS K C_Kind C_Scene C_FORMS_copy C_FORMS_drop C_FORMS_get C_FORMS_give C_FORMS_make C_FORMS_name C_FORMS_put C_FORMS_read C_FORMS_seek C_FORMS_write := ⟨T.sq_FORMS_copy, T.sq_FORMS_drop, T.sq_FORMS_get, T.sq_FORMS_give, T.sq_FORMS_make, T.sq_FORMS_name, T.sq_FORMS_put, T.sq_FORMS_read, T.sq_FORMS_seek, T.sq_FORMS_write, T.cl_Kind, T.n_Kind_looking, T.n_Kind_tells, T.cl_Scene, T.n_Scene_room, T.n_Scene_kind, T.n_Scene_hands, T.n_Scene_rows⟩
  refine G.fok F sc (fun vs H Q E h => ?_) (fun cdv A outer s H vs Q E hr h => ?_)
  · obtain ⟨z0, z1, rfl, q⟩ := h; rfl
  · refine ⟨rd_row_at K, (pss_cons (ps_if (pt_cmpR op_gt (pv 1) (pe_callB G.call_lenL (by rfl) T.z_len G.boot_len (pa_cons (pv 0) pa_nil)) (nomark _)) (pss_one (ps_never)) pss_nil)
      (pss_one (ps_ret (pe_ix ix_list (pv 0) (pe_op op_sub (pv 1) (pe_int)) (fun _ _ => rfl))))), ?_⟩
    obtain ⟨z0, z1, rfl, q⟩ := h
    exact row_at_rd q
theorem ok_well_formed {fd : FuncData} (F : Fun K "well_formed" "well_formed" s_well_formed f_well_formed fd) : FnOk P w K mg base (G.CXe P w) 1 f_well_formed fd ["found", "number"] (S_well) := by
  have sc := sc_well_formed
  have tx : TxS K C_Kind C_Scene C_FORMS_copy C_FORMS_drop C_FORMS_get C_FORMS_give C_FORMS_make C_FORMS_name C_FORMS_put C_FORMS_read C_FORMS_seek C_FORMS_write := ⟨T.sq_FORMS_copy, T.sq_FORMS_drop, T.sq_FORMS_get, T.sq_FORMS_give, T.sq_FORMS_make, T.sq_FORMS_name, T.sq_FORMS_put, T.sq_FORMS_read, T.sq_FORMS_seek, T.sq_FORMS_write, T.cl_Kind, T.n_Kind_looking, T.n_Kind_tells, T.cl_Scene, T.n_Scene_room, T.n_Scene_kind, T.n_Scene_hands, T.n_Scene_rows⟩
  refine G.fok F sc (fun vs H Q E h => ?_) (fun cdv A outer s H vs Q E hr h => ?_)
  · obtain ⟨z0, z1, rfl, q⟩ := h; rfl
  · refine ⟨rd_well_formed, (pss_cons (ps_if (pt_cmpR G.op_isN_ (pv 0) (pe_non) (nomark _)) (pss_one (ps_never)) pss_nil)
      (pss_one (ps_ret (pv 0)))), ?_⟩
    obtain ⟨z0, z1, rfl, q⟩ := h
    exact well_formed_rd q
theorem ok_number_between {fd : FuncData} (F : Fun K "number_between" "number_between" s_number_between f_number_between fd) {fd_number_of : FuncData} (G_number_of : FnOk P w K mg base (G.CXe P w) 2 f_number_of fd_number_of ["text", "most"] (S_num)) (b_number_of : Binds K fd_number_of ["text", "most"] []) (k_number_of : PySem.W.keepIn K (.ref f_number_of) = true) : FnOk P w K mg base (G.CXe P w) 3 f_number_between fd ["text", "least", "most"] (S_btw) := by
  have sc := sc_number_between
  have tx : TxS K C_Kind C_Scene C_FORMS_copy C_FORMS_drop C_FORMS_get C_FORMS_give C_FORMS_make C_FORMS_name C_FORMS_put C_FORMS_read C_FORMS_seek C_FORMS_write := ⟨T.sq_FORMS_copy, T.sq_FORMS_drop, T.sq_FORMS_get, T.sq_FORMS_give, T.sq_FORMS_make, T.sq_FORMS_name, T.sq_FORMS_put, T.sq_FORMS_read, T.sq_FORMS_seek, T.sq_FORMS_write, T.cl_Kind, T.n_Kind_looking, T.n_Kind_tells, T.cl_Scene, T.n_Scene_room, T.n_Scene_kind, T.n_Scene_hands, T.n_Scene_rows⟩
  refine G.fok F sc (fun vs H Q E h => ?_) (fun cdv A outer s H vs Q E hr h => ?_)
  · obtain ⟨z0, z1, z2, rfl, q⟩ := h; rfl
  · refine ⟨rd_number_between (S_num), (pss_cons (ps_set (i := 3) sc.nd rfl (Or.inl rfl) (pe_call G_number_of (hr.mono (by decide)) rfl T.m_number_of k_number_of b_number_of .nil G.passE0 (pa_cons (pv 0) (pa_cons (pv 2) pa_nil))))
      (pss_cons (ps_if (PW.pt (pw_or (pt_cmpR G.op_isN_ (pv 3) (pe_non) (nomark _)) (pw_or1 (pt_cmpR op_lt (pv 3) (pv 1) (nomark _))))) (pss_one (ps_ret (pe_non))) pss_nil)
      (pss_one (ps_ret (pv 3))))), ?_⟩
    obtain ⟨z0, z1, z2, rfl, q⟩ := h
    exact number_between_rd q
theorem ok_room_in {fd : FuncData} (F : Fun K "room_in" "room_in" s_room_in f_room_in fd) {fd_number_between : FuncData} (G_number_between : FnOk P w K mg base (G.CXe P w) 3 f_number_between fd_number_between ["text", "least", "most"] (S_btw)) (b_number_between : Binds K fd_number_between ["text", "least", "most"] []) (k_number_between : PySem.W.keepIn K (.ref f_number_between) = true) : FnOk P w K mg base (G.CXe P w) 4 f_room_in fd ["row"] (S_room) := by
  have sc := sc_room_in
  have tx : TxS K C_Kind C_Scene C_FORMS_copy C_FORMS_drop C_FORMS_get C_FORMS_give C_FORMS_make C_FORMS_name C_FORMS_put C_FORMS_read C_FORMS_seek C_FORMS_write := ⟨T.sq_FORMS_copy, T.sq_FORMS_drop, T.sq_FORMS_get, T.sq_FORMS_give, T.sq_FORMS_make, T.sq_FORMS_name, T.sq_FORMS_put, T.sq_FORMS_read, T.sq_FORMS_seek, T.sq_FORMS_write, T.cl_Kind, T.n_Kind_looking, T.n_Kind_tells, T.cl_Scene, T.n_Scene_room, T.n_Scene_kind, T.n_Scene_hands, T.n_Scene_rows⟩
  refine G.fok F sc (fun vs H Q E h => ?_) (fun cdv A outer s H vs Q E hr h => ?_)
  · obtain ⟨z0, rfl, q⟩ := h; rfl
  · refine ⟨rd_room_in K (S_btw), (pss_cons (ps_set (i := 1) sc.nd rfl (Or.inl rfl) (pe_bm PySem.F.plainAttrs_str PySem.F.slot_str_split PySem.F.type_str_split G.mt_split (pv 0) (pa_cons (pe_str) pa_nil)))
      (pss_cons (ps_if (PW.pt (pw_or (pt_cmpR op_ne (pe_callB G.call_lenL (by rfl) T.z_len G.boot_len (pa_cons (pv 1) pa_nil)) (pe_int) (nomark _)) (pw_or1 (pt_cmpR op_ne (pe_ix ix_list (pv 1) (pe_int) (fun _ _ => rfl)) (pe_str) (nomark _))))) (pss_one (ps_ret (pe_non))) pss_nil)
      (pss_one (ps_ret (pe_call G_number_between (hr.mono (by decide)) rfl T.m_number_between k_number_between b_number_between .nil G.passE0 (pa_cons (pe_ix ix_list (pv 1) (pe_int) (fun _ _ => rfl)) (pa_cons (T.g_LEAST_ROOM.pe rfl) (pa_cons (T.g_MOST_ROOM.pe rfl) pa_nil)))))))), ?_⟩
    obtain ⟨z0, rfl, q⟩ := h
    exact room_in_rd q
theorem ok_kind_in {fd : FuncData} (F : Fun K "kind_in" "kind_in" s_kind_in f_kind_in fd) {fd_kind_of : FuncData} (G_kind_of : FnOk P w K mg base (G.CXe P w) 3 f_kind_of fd_kind_of ["text"] (S_kind_of C_Kind C_First C_Each C_Last)) (b_kind_of : Binds K fd_kind_of ["text"] []) (k_kind_of : PySem.W.keepIn K (.ref f_kind_of) = true) : FnOk P w K mg base (G.CXe P w) 4 f_kind_in fd ["row"] (S_kindin C_Kind C_First C_Each C_Last) := by
  have sc := sc_kind_in
  have tx : TxS K C_Kind C_Scene C_FORMS_copy C_FORMS_drop C_FORMS_get C_FORMS_give C_FORMS_make C_FORMS_name C_FORMS_put C_FORMS_read C_FORMS_seek C_FORMS_write := ⟨T.sq_FORMS_copy, T.sq_FORMS_drop, T.sq_FORMS_get, T.sq_FORMS_give, T.sq_FORMS_make, T.sq_FORMS_name, T.sq_FORMS_put, T.sq_FORMS_read, T.sq_FORMS_seek, T.sq_FORMS_write, T.cl_Kind, T.n_Kind_looking, T.n_Kind_tells, T.cl_Scene, T.n_Scene_room, T.n_Scene_kind, T.n_Scene_hands, T.n_Scene_rows⟩
  refine G.fok F sc (fun vs H Q E h => ?_) (fun cdv A outer s H vs Q E hr h => ?_)
  · obtain ⟨z0, rfl, q⟩ := h; rfl
  · refine ⟨rd_kind_in K (S_kind_of C_Kind C_First C_Each C_Last), (pss_cons (ps_set (i := 1) sc.nd rfl (Or.inl rfl) (pe_bm PySem.F.plainAttrs_str PySem.F.slot_str_split PySem.F.type_str_split G.mt_split (pv 0) (pa_cons (pe_str) pa_nil)))
      (pss_cons (ps_if (pt_cmpR op_ne (pe_ix ix_list (pv 1) (pe_int) (fun _ _ => rfl)) (pe_str) (nomark _)) (pss_one (ps_ret (pe_non))) pss_nil)
      (pss_one (ps_ret (pe_call G_kind_of (hr.mono (by decide)) rfl T.m_kind_of k_kind_of b_kind_of .nil G.passE0 (pa_cons (pe_bm PySem.F.plainAttrs_str PySem.F.slot_str_join PySem.F.type_str_join G.mt_join (pe_str) (pa_cons (pe_slice sl_list (pv 1) (po_some (pe_int)) po_none) pa_nil)) pa_nil)))))), ?_⟩
    obtain ⟨z0, rfl, q⟩ := h
    exact kind_in_rd q
theorem ok_hands_of {fd : FuncData} (F : Fun K "hands_of" "hands_of" s_hands_of f_hands_of fd) {fd_hand_of : FuncData} (G_hand_of : FnOk P w K mg base (G.CXe P w) 5 f_hand_of fd_hand_of ["rows", "number", "earlier"] (S_handof)) (b_hand_of : Binds K fd_hand_of ["rows", "number", "earlier"] []) (k_hand_of : PySem.W.keepIn K (.ref f_hand_of) = true) {fd_row_at : FuncData} (G_row_at : FnOk P w K mg base (G.CXe P w) 1 f_row_at fd_row_at ["rows", "number"] (S_rowat)) (b_row_at : Binds K fd_row_at ["rows", "number"] []) (k_row_at : PySem.W.keepIn K (.ref f_row_at) = true) : FnOk P w K mg base (G.CXe P w) 6 f_hands_of fd ["rows"] (S_handsof) := by
  have sc := sc_hands_of
  have tx : TxS K C_Kind C_Scene C_FORMS_copy C_FORMS_drop C_FORMS_get C_FORMS_give C_FORMS_make C_FORMS_name C_FORMS_put C_FORMS_read C_FORMS_seek C_FORMS_write := ⟨T.sq_FORMS_copy, T.sq_FORMS_drop, T.sq_FORMS_get, T.sq_FORMS_give, T.sq_FORMS_make, T.sq_FORMS_name, T.sq_FORMS_put, T.sq_FORMS_read, T.sq_FORMS_seek, T.sq_FORMS_write, T.cl_Kind, T.n_Kind_looking, T.n_Kind_tells, T.cl_Scene, T.n_Scene_room, T.n_Scene_kind, T.n_Scene_hands, T.n_Scene_rows⟩
  refine G.fok F sc (fun vs H Q E h => ?_) (fun cdv A outer s H vs Q E hr h => ?_)
  · obtain ⟨z0, rfl, q⟩ := h; rfl
  · refine ⟨rd_hands_of K (S_handof) (S_rowat), (pss_cons (ps_set (i := 1) sc.nd rfl (Or.inl rfl) (pe_lst (pa_cons (pe_call G_hand_of (hr.mono (by decide)) rfl T.m_hand_of k_hand_of b_hand_of .nil G.passE0 (pa_cons (pv 0) (pa_cons (T.g_FIRST_HAND.pe rfl) (pa_cons (pe_lst pa_nil) pa_nil)))) pa_nil)))
      (pss_cons (ps_set (i := 2) sc.nd rfl (Or.inl rfl) (pe_op op_add (T.g_FIRST_HAND.pe rfl) (pe_int)))
      (pss_cons (ps_while PassesOwn.never (pt_cmpR op_ne (pe_call G_row_at (hr.mono (by decide)) rfl T.m_row_at k_row_at b_row_at .nil G.passE0 (pa_cons (pv 0) (pa_cons (pv 2) pa_nil))) (pe_str) (nomark _)) (pss_cons (ps_if (pt_cmpR op_eq (pe_callB G.call_lenL (by rfl) T.z_len G.boot_len (pa_cons (pv 1) pa_nil)) (T.g_MOST_HANDS.pe rfl) (nomark _)) (pss_one (ps_never)) pss_nil)
      (pss_cons (ps_expr (pe_bm PySem.F.plainAttrs_list PySem.F.slot_list_append PySem.F.type_list_append mt_append (pv 1) (pa_cons (pe_call G_hand_of (hr.mono (by decide)) rfl T.m_hand_of k_hand_of b_hand_of .nil G.passE0 (pa_cons (pv 0) (pa_cons (pv 2) (pa_cons (pv 1) pa_nil)))) pa_nil)))
      (pss_one (ps_set (i := 2) sc.nd rfl (Or.inl rfl) (pe_op op_add (pv 2) (pe_int)))))))
      (pss_one (ps_ret (pv 1)))))), ?_⟩
    obtain ⟨z0, rfl, q⟩ := h
    exact hands_of_rd q
theorem ok_hand_of {fd : FuncData} (F : Fun K "hand_of" "hand_of" s_hand_of f_hand_of fd) {fd_hand_in : FuncData} (G_hand_in : FnOk P w K mg base (G.CXe P w) 4 f_hand_in fd_hand_in ["row"] (S_handin)) (b_hand_in : Binds K fd_hand_in ["row"] []) (k_hand_in : PySem.W.keepIn K (.ref f_hand_in) = true) {fd_names_of : FuncData} (G_names_of : FnOk P w K mg base (G.CXe P w) 1 f_names_of fd_names_of ["hands"] (S_names)) (b_names_of : Binds K fd_names_of ["hands"] []) (k_names_of : PySem.W.keepIn K (.ref f_names_of) = true) {fd_row_at : FuncData} (G_row_at : FnOk P w K mg base (G.CXe P w) 1 f_row_at fd_row_at ["rows", "number"] (S_rowat)) (b_row_at : Binds K fd_row_at ["rows", "number"] []) (k_row_at : PySem.W.keepIn K (.ref f_row_at) = true) {fd_well_formed : FuncData} (G_well_formed : FnOk P w K mg base (G.CXe P w) 1 f_well_formed fd_well_formed ["found", "number"] (S_well)) (b_well_formed : Binds K fd_well_formed ["found", "number"] []) (k_well_formed : PySem.W.keepIn K (.ref f_well_formed) = true) : FnOk P w K mg base (G.CXe P w) 5 f_hand_of fd ["rows", "number", "earlier"] (S_handof) := by
  have sc := sc_hand_of
  have tx : TxS K C_Kind C_Scene C_FORMS_copy C_FORMS_drop C_FORMS_get C_FORMS_give C_FORMS_make C_FORMS_name C_FORMS_put C_FORMS_read C_FORMS_seek C_FORMS_write := ⟨T.sq_FORMS_copy, T.sq_FORMS_drop, T.sq_FORMS_get, T.sq_FORMS_give, T.sq_FORMS_make, T.sq_FORMS_name, T.sq_FORMS_put, T.sq_FORMS_read, T.sq_FORMS_seek, T.sq_FORMS_write, T.cl_Kind, T.n_Kind_looking, T.n_Kind_tells, T.cl_Scene, T.n_Scene_room, T.n_Scene_kind, T.n_Scene_hands, T.n_Scene_rows⟩
  refine G.fok F sc (fun vs H Q E h => ?_) (fun cdv A outer s H vs Q E hr h => ?_)
  · obtain ⟨z0, z1, z2, rfl, q⟩ := h; rfl
  · refine ⟨rd_hand_of K (S_handin) (S_names) (S_rowat) (S_well), (pss_cons (ps_set (i := 3) sc.nd rfl (Or.inl rfl) (pe_call G_well_formed (hr.mono (by decide)) rfl T.m_well_formed k_well_formed b_well_formed .nil G.passE0 (pa_cons (pe_call G_hand_in (hr.mono (by decide)) rfl T.m_hand_in k_hand_in b_hand_in .nil G.passE0 (pa_cons (pe_call G_row_at (hr.mono (by decide)) rfl T.m_row_at k_row_at b_row_at .nil G.passE0 (pa_cons (pv 0) (pa_cons (pv 1) pa_nil))) pa_nil)) (pa_cons (pv 1) pa_nil))))
      (pss_cons (ps_if (pt_cmpR op_in_seq (pe_ix ix_tup (pv 3) (pe_int) (fun _ _ => rfl)) (pe_call G_names_of (hr.mono (by decide)) rfl T.m_names_of k_names_of b_names_of .nil G.passE0 (pa_cons (pv 2) pa_nil)) (by with_unfolding_all rfl)) (pss_one (ps_never)) pss_nil)
      (pss_one (ps_ret (pv 3))))), ?_⟩
    obtain ⟨z0, z1, z2, rfl, q⟩ := h
    exact hand_of_rd q
theorem ok_names_of {fd : FuncData} (F : Fun K "names_of" "names_of" s_names_of f_names_of fd) : FnOk P w K mg base (G.CXe P w) 1 f_names_of fd ["hands"] (S_names) := by
  have sc := sc_names_of
  have tx : TxS K C_Kind C_Scene C_FORMS_copy C_FORMS_drop C_FORMS_get C_FORMS_give C_FORMS_make C_FORMS_name C_FORMS_put C_FORMS_read C_FORMS_seek C_FORMS_write := ⟨T.sq_FORMS_copy, T.sq_FORMS_drop, T.sq_FORMS_get, T.sq_FORMS_give, T.sq_FORMS_make, T.sq_FORMS_name, T.sq_FORMS_put, T.sq_FORMS_read, T.sq_FORMS_seek, T.sq_FORMS_write, T.cl_Kind, T.n_Kind_looking, T.n_Kind_tells, T.cl_Scene, T.n_Scene_room, T.n_Scene_kind, T.n_Scene_hands, T.n_Scene_rows⟩
  refine G.fok F sc (fun vs H Q E h => ?_) (fun cdv A outer s H vs Q E hr h => ?_)
  · obtain ⟨z0, rfl, q⟩ := h; rfl
  · refine ⟨rd_names_of K, (pss_one (ps_ret (G.pe_lc2 (cns := []) [] (pi_list (pv 0)) (fun _ _ _ _ _ => G.pf_nil) (fun _ _ _ _ _ => (pv 0)) rfl rfl (by repeat (first | exact trivial | refine ⟨rfl, ?_⟩)) (by repeat (first | exact trivial | refine ⟨rfl, ?_⟩)) rfl (by decide +kernel) rfl (by decide +kernel) (by decide +kernel) rfl rfl (by decide +kernel)))), ?_⟩
    obtain ⟨z0, rfl, q⟩ := h
    exact names_of_rd q
theorem ok_hand_in {fd : FuncData} (F : Fun K "hand_in" "hand_in" s_hand_in f_hand_in fd) {fd_is_hand_name : FuncData} (G_is_hand_name : FnOk P w K mg base (G.CXe P w) 3 f_is_hand_name fd_is_hand_name ["text"] (S_hname)) (b_is_hand_name : Binds K fd_is_hand_name ["text"] []) (k_is_hand_name : PySem.W.keepIn K (.ref f_is_hand_name) = true) {fd_number_between : FuncData} (G_number_between : FnOk P w K mg base (G.CXe P w) 3 f_number_between fd_number_between ["text", "least", "most"] (S_btw)) (b_number_between : Binds K fd_number_between ["text", "least", "most"] []) (k_number_between : PySem.W.keepIn K (.ref f_number_between) = true) : FnOk P w K mg base (G.CXe P w) 4 f_hand_in fd ["row"] (S_handin) := by
  have sc := sc_hand_in
  have tx : TxS K C_Kind C_Scene C_FORMS_copy C_FORMS_drop C_FORMS_get C_FORMS_give C_FORMS_make C_FORMS_name C_FORMS_put C_FORMS_read C_FORMS_seek C_FORMS_write := ⟨T.sq_FORMS_copy, T.sq_FORMS_drop, T.sq_FORMS_get, T.sq_FORMS_give, T.sq_FORMS_make, T.sq_FORMS_name, T.sq_FORMS_put, T.sq_FORMS_read, T.sq_FORMS_seek, T.sq_FORMS_write, T.cl_Kind, T.n_Kind_looking, T.n_Kind_tells, T.cl_Scene, T.n_Scene_room, T.n_Scene_kind, T.n_Scene_hands, T.n_Scene_rows⟩
  refine G.fok F sc (fun vs H Q E h => ?_) (fun cdv A outer s H vs Q E hr h => ?_)
  · obtain ⟨z0, rfl, q⟩ := h; rfl
  · refine ⟨rd_hand_in K (S_hname) (S_btw), (pss_cons (ps_set (i := 1) sc.nd rfl (Or.inl rfl) (pe_bm PySem.F.plainAttrs_str PySem.F.slot_str_split PySem.F.type_str_split G.mt_split (pv 0) (pa_cons (pe_str) pa_nil)))
      (pss_cons (ps_if (PW.pt (pw_or (pt_cmpR op_ne (pe_callB G.call_lenL (by rfl) T.z_len G.boot_len (pa_cons (pv 1) pa_nil)) (pe_int) (nomark _)) (pw_or (pt_cmpR op_ne (pe_ix ix_list (pv 1) (pe_int) (fun _ _ => rfl)) (pe_str) (nomark _)) (pw_or1 (pt_not (pt_val (pe_call G_is_hand_name (hr.mono (by decide)) rfl T.m_is_hand_name k_is_hand_name b_is_hand_name .nil G.passE0 (pa_cons (pe_ix ix_list (pv 1) (pe_int) (fun _ _ => rfl)) pa_nil)))))))) (pss_one (ps_ret (pe_non))) pss_nil)
      (pss_cons (ps_set (i := 2) sc.nd rfl (Or.inl rfl) (pe_call G_number_between (hr.mono (by decide)) rfl T.m_number_between k_number_between b_number_between .nil G.passE0 (pa_cons (pe_ix ix_list (pv 1) (pe_int) (fun _ _ => rfl)) (pa_cons (T.g_LEAST_SLOTS.pe rfl) (pa_cons (T.g_MOST_SLOTS.pe rfl) pa_nil)))))
      (pss_cons (ps_if (pt_cmpR G.op_isN_ (pv 2) (pe_non) (nomark _)) (pss_one (ps_ret (pe_non))) pss_nil)
      (pss_one (ps_ret (pe_tup (pa_cons (pe_ix ix_list (pv 1) (pe_int) (fun _ _ => rfl)) (pa_cons (pv 2) pa_nil))))))))), ?_⟩
    obtain ⟨z0, rfl, q⟩ := h
    exact hand_in_rd q
theorem ok_is_hand_name {fd : FuncData} (F : Fun K "is_hand_name" "is_hand_name" s_is_hand_name f_is_hand_name fd) {fd_is_word : FuncData} (G_is_word : FnOk P w K mg base (G.CXe P w) 2 f_is_word fd_is_word ["text"] (S_word)) (b_is_word : Binds K fd_is_word ["text"] []) (k_is_word : PySem.W.keepIn K (.ref f_is_word) = true) : FnOk P w K mg base (G.CXe P w) 3 f_is_hand_name fd ["text"] (S_hname) := by
  have sc := sc_is_hand_name
  have tx : TxS K C_Kind C_Scene C_FORMS_copy C_FORMS_drop C_FORMS_get C_FORMS_give C_FORMS_make C_FORMS_name C_FORMS_put C_FORMS_read C_FORMS_seek C_FORMS_write := ⟨T.sq_FORMS_copy, T.sq_FORMS_drop, T.sq_FORMS_get, T.sq_FORMS_give, T.sq_FORMS_make, T.sq_FORMS_name, T.sq_FORMS_put, T.sq_FORMS_read, T.sq_FORMS_seek, T.sq_FORMS_write, T.cl_Kind, T.n_Kind_looking, T.n_Kind_tells, T.cl_Scene, T.n_Scene_room, T.n_Scene_kind, T.n_Scene_hands, T.n_Scene_rows⟩
  refine G.fok F sc (fun vs H Q E h => ?_) (fun cdv A outer s H vs Q E hr h => ?_)
  · obtain ⟨z0, rfl, q⟩ := h; rfl
  · refine ⟨rd_is_hand_name (S_word), (pss_one (ps_ret ((pe_and (pe_call G_is_word (hr.mono (by decide)) rfl T.m_is_word k_is_word b_is_word .nil G.passE0 (pa_cons (pv 0) pa_nil)) (pe_one (pe_cmpR op_ne (pv 0) (T.g_SWEEP.pe rfl) (nomark _))))))), ?_⟩
    obtain ⟨z0, rfl, q⟩ := h
    exact is_hand_name_rd q
theorem ok_weave_of {fd : FuncData} (F : Fun K "weave_of" "weave_of" s_weave_of f_weave_of fd) {fd_weave_row : FuncData} (G_weave_row : FnOk P w K mg base (G.CXe P w) 6 f_weave_row fd_weave_row ["parts", "number", "hands"] (S_wrow)) (b_weave_row : Binds K fd_weave_row ["parts", "number", "hands"] []) (k_weave_row : PySem.W.keepIn K (.ref f_weave_row) = true) : FnOk P w K mg base (G.CXe P w) 7 f_weave_of fd ["rows", "first", "hands"] (S_weave) := by
  have sc := sc_weave_of
  have tx : TxS K C_Kind C_Scene C_FORMS_copy C_FORMS_drop C_FORMS_get C_FORMS_give C_FORMS_make C_FORMS_name C_FORMS_put C_FORMS_read C_FORMS_seek C_FORMS_write := ⟨T.sq_FORMS_copy, T.sq_FORMS_drop, T.sq_FORMS_get, T.sq_FORMS_give, T.sq_FORMS_make, T.sq_FORMS_name, T.sq_FORMS_put, T.sq_FORMS_read, T.sq_FORMS_seek, T.sq_FORMS_write, T.cl_Kind, T.n_Kind_looking, T.n_Kind_tells, T.cl_Scene, T.n_Scene_room, T.n_Scene_kind, T.n_Scene_hands, T.n_Scene_rows⟩
  refine G.fok F sc (fun vs H Q E h => ?_) (fun cdv A outer s H vs Q E hr h => ?_)
  · obtain ⟨z0, z1, z2, rfl, q⟩ := h; rfl
  · refine ⟨rd_weave_of K (S_wrow), (pss_cons (ps_set (i := 3) sc.nd rfl (Or.inl rfl) (pe_lst pa_nil))
      (pss_cons (ps_for PassesOwn.never rfl (pi_range2 rfl T.z_range (pa_cons (pv 1) (pa_cons (pe_op op_add (pe_callB G.call_lenL (by rfl) T.z_len G.boot_len (pa_cons (pv 0) pa_nil)) (pe_int)) pa_nil))) (pg_name (i := 4) sc.nd rfl (Or.inl rfl))
      (pss_cons (ps_if (pt_cmpR op_eq (pe_callB G.call_lenL (by rfl) T.z_len G.boot_len (pa_cons (pv 3) pa_nil)) (T.g_MOST_ROWS.pe rfl) (nomark _)) (pss_one (ps_never)) pss_nil)
      (pss_one (ps_expr (pe_bm PySem.F.plainAttrs_list PySem.F.slot_list_append PySem.F.type_list_append mt_append (pv 3) (pa_cons (pe_call G_weave_row (hr.mono (by decide)) rfl T.m_weave_row k_weave_row b_weave_row .nil G.passE0 (pa_cons (pe_bm PySem.F.plainAttrs_str PySem.F.slot_str_split PySem.F.type_str_split G.mt_split (pe_ix ix_list (pv 0) (pe_op op_sub (pv 4) (pe_int)) (fun _ _ => rfl)) (pa_cons (pe_str) pa_nil)) (pa_cons (pv 4) (pa_cons (pv 2) pa_nil)))) pa_nil))))))
      (pss_one (ps_ret (pv 3))))), ?_⟩
    obtain ⟨z0, z1, z2, rfl, q⟩ := h
    exact weave_of_rd q
theorem ok_weave_row {fd : FuncData} (F : Fun K "weave_row" "weave_row" s_weave_row f_weave_row fd) {fd_forms_of : FuncData} (G_forms_of : FnOk P w K mg base (G.CXe P w) 1 f_forms_of fd_forms_of ["word"] (S_forms K)) (b_forms_of : Binds K fd_forms_of ["word"] []) (k_forms_of : PySem.W.keepIn K (.ref f_forms_of) = true) {fd_look_at_slots : FuncData} (G_look_at_slots : FnOk P w K mg base (G.CXe P w) 1 f_look_at_slots fd_look_at_slots ["forms", "values", "number", "hands"] (S_look K)) (b_look_at_slots : Binds K fd_look_at_slots ["forms", "values", "number", "hands"] []) (k_look_at_slots : PySem.W.keepIn K (.ref f_look_at_slots) = true) {fd_sweep_in : FuncData} (G_sweep_in : FnOk P w K mg base (G.CXe P w) 4 f_sweep_in fd_sweep_in ["parts"] (S_sweepin)) (b_sweep_in : Binds K fd_sweep_in ["parts"] []) (k_sweep_in : PySem.W.keepIn K (.ref f_sweep_in) = true) {fd_told_in : FuncData} (G_told_in : FnOk P w K mg base (G.CXe P w) 5 f_told_in fd_told_in ["parts"] (S_told)) (b_told_in : Binds K fd_told_in ["parts"] []) (k_told_in : PySem.W.keepIn K (.ref f_told_in) = true) {fd_well_formed : FuncData} (G_well_formed : FnOk P w K mg base (G.CXe P w) 1 f_well_formed fd_well_formed ["found", "number"] (S_well)) (b_well_formed : Binds K fd_well_formed ["found", "number"] []) (k_well_formed : PySem.W.keepIn K (.ref f_well_formed) = true) {fd_with_hands : FuncData} (G_with_hands : FnOk P w K mg base (G.CXe P w) 2 f_with_hands fd_with_hands ["forms", "told", "number", "hands"] (S_with K)) (b_with_hands : Binds K fd_with_hands ["forms", "told", "number", "hands"] []) (k_with_hands : PySem.W.keepIn K (.ref f_with_hands) = true) : FnOk P w K mg base (G.CXe P w) 6 f_weave_row fd ["parts", "number", "hands"] (S_wrow) := by
  have sc := sc_weave_row
  have tx : TxS K C_Kind C_Scene C_FORMS_copy C_FORMS_drop C_FORMS_get C_FORMS_give C_FORMS_make C_FORMS_name C_FORMS_put C_FORMS_read C_FORMS_seek C_FORMS_write := ⟨T.sq_FORMS_copy, T.sq_FORMS_drop, T.sq_FORMS_get, T.sq_FORMS_give, T.sq_FORMS_make, T.sq_FORMS_name, T.sq_FORMS_put, T.sq_FORMS_read, T.sq_FORMS_seek, T.sq_FORMS_write, T.cl_Kind, T.n_Kind_looking, T.n_Kind_tells, T.cl_Scene, T.n_Scene_room, T.n_Scene_kind, T.n_Scene_hands, T.n_Scene_rows⟩
  refine G.fok F sc (fun vs H Q E h => ?_) (fun cdv A outer s H vs Q E hr h => ?_)
  · obtain ⟨z0, z1, z2, rfl, q⟩ := h; rfl
  · refine ⟨rd_weave_row K (S_forms K) (S_look K) (S_sweepin) (S_told) (S_well) (S_with K), (pss_cons (ps_if (pt_cmpR op_eq (pe_ix ix_list (pv 0) (pe_int) (fun _ _ => rfl)) (T.g_SWEEP.pe rfl) (nomark _)) (pss_one (ps_ret (pe_call G_well_formed (hr.mono (by decide)) rfl T.m_well_formed k_well_formed b_well_formed .nil G.passE0 (pa_cons (pe_call G_sweep_in (hr.mono (by decide)) rfl T.m_sweep_in k_sweep_in b_sweep_in .nil G.passE0 (pa_cons (pv 0) pa_nil)) (pa_cons (pv 1) pa_nil))))) pss_nil)
      (pss_cons (ps_set (i := 3) sc.nd rfl (Or.inl rfl) (pe_call G_well_formed (hr.mono (by decide)) rfl T.m_well_formed k_well_formed b_well_formed .nil G.passE0 (pa_cons (pe_call G_told_in (hr.mono (by decide)) rfl T.m_told_in k_told_in b_told_in .nil G.passE0 (pa_cons (pv 0) pa_nil)) (pa_cons (pv 1) pa_nil))))
      (pss_cons (ps_set (i := 4) sc.nd rfl (Or.inl rfl) (pe_call G_forms_of (hr.mono (by decide)) rfl T.m_forms_of k_forms_of b_forms_of .nil G.passE0 (pa_cons (pe_ix ix_list (pv 0) (pe_int) (fun _ _ => rfl)) pa_nil)))
      (pss_cons (ps_set (i := 5) sc.nd rfl (Or.inl rfl) (pe_call G_with_hands (hr.mono (by decide)) rfl T.m_with_hands k_with_hands b_with_hands .nil G.passE0 (pa_cons (pv 4) (pa_cons (pv 3) (pa_cons (pv 1) (pa_cons (pv 2) pa_nil))))))
      (pss_cons (ps_expr (pe_call G_look_at_slots (hr.mono (by decide)) rfl T.m_look_at_slots k_look_at_slots b_look_at_slots .nil G.passE0 (pa_cons (pv 4) (pa_cons (pv 5) (pa_cons (pv 1) (pa_cons (pv 2) pa_nil))))))
      (pss_one (ps_ret (pe_callTy call_tuple_of (by rfl) T.z_tuple G.boot_tuple (pa_cons (pe_op op_cat (pe_lst (pa_cons (pe_ix ix_list (pv 0) (pe_int) (fun _ _ => rfl)) pa_nil)) (pv 5)) pa_nil))))))))), ?_⟩
    obtain ⟨z0, z1, z2, rfl, q⟩ := h
    exact weave_row_rd q
theorem ok_sweep_in {fd : FuncData} (F : Fun K "sweep_in" "sweep_in" s_sweep_in f_sweep_in fd) {fd_number_between : FuncData} (G_number_between : FnOk P w K mg base (G.CXe P w) 3 f_number_between fd_number_between ["text", "least", "most"] (S_btw)) (b_number_between : Binds K fd_number_between ["text", "least", "most"] []) (k_number_between : PySem.W.keepIn K (.ref f_number_between) = true) : FnOk P w K mg base (G.CXe P w) 4 f_sweep_in fd ["parts"] (S_sweepin) := by
  have sc := sc_sweep_in
  have tx : TxS K C_Kind C_Scene C_FORMS_copy C_FORMS_drop C_FORMS_get C_FORMS_give C_FORMS_make C_FORMS_name C_FORMS_put C_FORMS_read C_FORMS_seek C_FORMS_write := ⟨T.sq_FORMS_copy, T.sq_FORMS_drop, T.sq_FORMS_get, T.sq_FORMS_give, T.sq_FORMS_make, T.sq_FORMS_name, T.sq_FORMS_put, T.sq_FORMS_read, T.sq_FORMS_seek, T.sq_FORMS_write, T.cl_Kind, T.n_Kind_looking, T.n_Kind_tells, T.cl_Scene, T.n_Scene_room, T.n_Scene_kind, T.n_Scene_hands, T.n_Scene_rows⟩
  refine G.fok F sc (fun vs H Q E h => ?_) (fun cdv A outer s H vs Q E hr h => ?_)
  · obtain ⟨z0, rfl, q⟩ := h; rfl
  · refine ⟨rd_sweep_in K (S_btw), (pss_cons (ps_if (pt_cmpR op_ne (pe_callB G.call_lenL (by rfl) T.z_len G.boot_len (pa_cons (pv 0) pa_nil)) (pe_int) (nomark _)) (pss_one (ps_ret (pe_non))) pss_nil)
      (pss_cons (ps_set (i := 1) sc.nd rfl (Or.inl rfl) (pe_call G_number_between (hr.mono (by decide)) rfl T.m_number_between k_number_between b_number_between .nil G.passE0 (pa_cons (pe_ix ix_list (pv 0) (pe_int) (fun _ _ => rfl)) (pa_cons (T.g_LEAST_STEPS.pe rfl) (pa_cons (T.g_MOST_STEPS.pe rfl) pa_nil)))))
      (pss_cons (ps_if (pt_cmpR G.op_isN_ (pv 1) (pe_non) (nomark _)) (pss_one (ps_ret (pe_non))) pss_nil)
      (pss_one (ps_ret (pe_tup (pa_cons (T.g_SWEEP.pe rfl) (pa_cons (pv 1) pa_nil)))))))), ?_⟩
    obtain ⟨z0, rfl, q⟩ := h
    exact sweep_in_rd q
theorem ok_told_in {fd : FuncData} (F : Fun K "told_in" "told_in" s_told_in f_told_in fd) {fd_forms_of : FuncData} (G_forms_of : FnOk P w K mg base (G.CXe P w) 1 f_forms_of fd_forms_of ["word"] (S_forms K)) (b_forms_of : Binds K fd_forms_of ["word"] []) (k_forms_of : PySem.W.keepIn K (.ref f_forms_of) = true) {fd_value_of : FuncData} (G_value_of : FnOk P w K mg base (G.CXe P w) 4 f_value_of fd_value_of ["form", "text"] (S_value)) (b_value_of : Binds K fd_value_of ["form", "text"] []) (k_value_of : PySem.W.keepIn K (.ref f_value_of) = true) : FnOk P w K mg base (G.CXe P w) 5 f_told_in fd ["parts"] (S_told) := by
  have sc := sc_told_in
  have tx : TxS K C_Kind C_Scene C_FORMS_copy C_FORMS_drop C_FORMS_get C_FORMS_give C_FORMS_make C_FORMS_name C_FORMS_put C_FORMS_read C_FORMS_seek C_FORMS_write := ⟨T.sq_FORMS_copy, T.sq_FORMS_drop, T.sq_FORMS_get, T.sq_FORMS_give, T.sq_FORMS_make, T.sq_FORMS_name, T.sq_FORMS_put, T.sq_FORMS_read, T.sq_FORMS_seek, T.sq_FORMS_write, T.cl_Kind, T.n_Kind_looking, T.n_Kind_tells, T.cl_Scene, T.n_Scene_room, T.n_Scene_kind, T.n_Scene_hands, T.n_Scene_rows⟩
  refine G.fok F sc (fun vs H Q E h => ?_) (fun cdv A outer s H vs Q E hr h => ?_)
  · obtain ⟨z0, rfl, q⟩ := h; rfl
  · refine ⟨rd_told_in K (S_forms K) (S_value), (pss_cons (ps_set (i := 1) sc.nd rfl (Or.inl rfl) (pe_ifExp (pt_cmpR op_gt (pe_callB G.call_lenL (by rfl) T.z_len G.boot_len (pa_cons (pv 0) pa_nil)) (pe_int) (nomark _)) (pe_call G_forms_of (hr.mono (by decide)) rfl T.m_forms_of k_forms_of b_forms_of .nil G.passE0 (pa_cons (pe_ix ix_list (pv 0) (pe_int) (fun _ _ => rfl)) pa_nil)) (pe_non)))
      (pss_cons (ps_set (i := 2) sc.nd rfl (Or.inl rfl) (pe_op op_cat (pe_slice sl_list (pv 0) po_none (po_some (pe_int))) (pe_slice sl_list (pv 0) (po_some (pe_int)) po_none)))
      (pss_cons (ps_if (PW.pt (pw_or (pt_cmpR G.op_isN_ (pv 1) (pe_non) (nomark _)) (pw_or1 (pt_cmpR op_ne (pe_callB G.call_lenL (by rfl) T.z_len G.boot_len (pa_cons (pv 2) pa_nil)) (pe_callB G.call_lenL (by rfl) T.z_len G.boot_len (pa_cons (pv 1) pa_nil)) (nomark _))))) (pss_one (ps_ret (pe_non))) pss_nil)
      (pss_cons (G.ps_lcset2 (iz := 3) (cns := []) [] (G.pi_zip2 true false rfl T.z_zip (pa_cons (pv 1) (pa_cons (pv 2) pa_nil))) (fun _ _ _ _ _ => G.pf_nil) (fun _ _ _ _ _ => (pe_call G_value_of (hr.mono (by decide)) rfl T.m_value_of k_value_of b_value_of .nil G.passE0 (pa_cons (pv 0) (pa_cons (pv 1) pa_nil)))) rfl rfl (by repeat (first | exact trivial | refine ⟨rfl, ?_⟩)) (by repeat (first | exact trivial | refine ⟨rfl, ?_⟩)) rfl (by decide +kernel) rfl (by decide +kernel) (by decide +kernel) rfl rfl (by decide +kernel) sc.nd rfl (Or.inl rfl) (Or.inr rfl) rfl)
      (pss_cons (ps_if (pt_cmpR op_in_seq (pe_non) (pv 3) (by with_unfolding_all rfl)) (pss_one (ps_ret (pe_non))) pss_nil)
      (pss_one (ps_ret (pv 3)))))))), ?_⟩
    obtain ⟨z0, rfl, q⟩ := h
    exact told_in_rd q
theorem ok_value_of {fd : FuncData} (F : Fun K "value_of" "value_of" s_value_of f_value_of fd) {fd_is_word : FuncData} (G_is_word : FnOk P w K mg base (G.CXe P w) 2 f_is_word fd_is_word ["text"] (S_word)) (b_is_word : Binds K fd_is_word ["text"] []) (k_is_word : PySem.W.keepIn K (.ref f_is_word) = true) {fd_load_of : FuncData} (G_load_of : FnOk P w K mg base (G.CXe P w) 3 f_load_of fd_load_of ["text"] (S_load)) (b_load_of : Binds K fd_load_of ["text"] []) (k_load_of : PySem.W.keepIn K (.ref f_load_of) = true) {fd_number_of : FuncData} (G_number_of : FnOk P w K mg base (G.CXe P w) 2 f_number_of fd_number_of ["text", "most"] (S_num)) (b_number_of : Binds K fd_number_of ["text", "most"] []) (k_number_of : PySem.W.keepIn K (.ref f_number_of) = true) : FnOk P w K mg base (G.CXe P w) 4 f_value_of fd ["form", "text"] (S_value) := by
  have sc := sc_value_of
  have tx : TxS K C_Kind C_Scene C_FORMS_copy C_FORMS_drop C_FORMS_get C_FORMS_give C_FORMS_make C_FORMS_name C_FORMS_put C_FORMS_read C_FORMS_seek C_FORMS_write := ⟨T.sq_FORMS_copy, T.sq_FORMS_drop, T.sq_FORMS_get, T.sq_FORMS_give, T.sq_FORMS_make, T.sq_FORMS_name, T.sq_FORMS_put, T.sq_FORMS_read, T.sq_FORMS_seek, T.sq_FORMS_write, T.cl_Kind, T.n_Kind_looking, T.n_Kind_tells, T.cl_Scene, T.n_Scene_room, T.n_Scene_kind, T.n_Scene_hands, T.n_Scene_rows⟩
  refine G.fok F sc (fun vs H Q E h => ?_) (fun cdv A outer s H vs Q E hr h => ?_)
  · obtain ⟨z0, z1, rfl, q⟩ := h; rfl
  · refine ⟨rd_value_of (S_word) (S_load) (S_num), (pss_cons (ps_if (pt_cmp (G.pc_tabIn T.tabv_MOST rfl (pv 0))) (pss_one (ps_ret (pe_call G_number_of (hr.mono (by decide)) rfl T.m_number_of k_number_of b_number_of .nil G.passE0 (pa_cons (pv 1) (pa_cons (G.pe_tabV T.tabv_MOST rfl (pv 0) (fun _ _ => rfl)) pa_nil))))) pss_nil)
      (pss_cons (ps_if (pt_cmpR op_eq (pv 0) (pe_str) (nomark _)) (pss_one (ps_ret (pe_call G_load_of (hr.mono (by decide)) rfl T.m_load_of k_load_of b_load_of .nil G.passE0 (pa_cons (pv 1) pa_nil)))) pss_nil)
      (pss_one (ps_ret (pe_ifExp (pt_val (pe_call G_is_word (hr.mono (by decide)) rfl T.m_is_word k_is_word b_is_word .nil G.passE0 (pa_cons (pv 1) pa_nil))) (pv 1) (pe_non)))))), ?_⟩
    obtain ⟨z0, z1, rfl, q⟩ := h
    exact value_of_rd q
theorem ok_with_hands {fd : FuncData} (F : Fun K "with_hands" "with_hands" s_with_hands f_with_hands fd) {fd_names_of : FuncData} (G_names_of : FnOk P w K mg base (G.CXe P w) 1 f_names_of fd_names_of ["hands"] (S_names)) (b_names_of : Binds K fd_names_of ["hands"] []) (k_names_of : PySem.W.keepIn K (.ref f_names_of) = true) : FnOk P w K mg base (G.CXe P w) 2 f_with_hands fd ["forms", "told", "number", "hands"] (S_with K) := by
  have sc := sc_with_hands
  have tx : TxS K C_Kind C_Scene C_FORMS_copy C_FORMS_drop C_FORMS_get C_FORMS_give C_FORMS_make C_FORMS_name C_FORMS_put C_FORMS_read C_FORMS_seek C_FORMS_write := ⟨T.sq_FORMS_copy, T.sq_FORMS_drop, T.sq_FORMS_get, T.sq_FORMS_give, T.sq_FORMS_make, T.sq_FORMS_name, T.sq_FORMS_put, T.sq_FORMS_read, T.sq_FORMS_seek, T.sq_FORMS_write, T.cl_Kind, T.n_Kind_looking, T.n_Kind_tells, T.cl_Scene, T.n_Scene_room, T.n_Scene_kind, T.n_Scene_hands, T.n_Scene_rows⟩
  refine G.fok F sc (fun vs H Q E h => ?_) (fun cdv A outer s H vs Q E hr h => ?_)
  · obtain ⟨z0, z1, z2, z3, rfl, q⟩ := h; rfl
  · refine ⟨rd_with_hands K (S_names), (pss_cons (ps_set (i := 4) sc.nd rfl (Or.inl rfl) (pe_call G_names_of (hr.mono (by decide)) rfl T.m_names_of k_names_of b_names_of .nil G.passE0 (pa_cons (pv 3) pa_nil)))
      (pss_cons (ps_set (i := 5) sc.nd rfl (Or.inl rfl) (pe_lst pa_nil))
      (pss_cons (ps_for PassesOwn.never rfl (G.pi_zip2 true false rfl T.z_zip (pa_cons (pv 0) (pa_cons (pv 1) pa_nil))) (pg_tup rfl (pgs_cons (pg_name (i := 6) sc.nd rfl (Or.inl rfl)) (pgs_cons (pg_name (i := 7) sc.nd rfl (Or.inl rfl)) pgs_nil)))
      (pss_cons (ps_if (PW.pt (pw_and (pt_cmpR op_eq (pv 6) (pe_str) (nomark _)) (pw_and1 (pt_cmpR op_notIn_seq (pv 7) (pv 4) (by with_unfolding_all rfl))))) (pss_one (ps_never)) pss_nil)
      (pss_one (ps_expr (pe_bm PySem.F.plainAttrs_list PySem.F.slot_list_append PySem.F.type_list_append mt_append (pv 5) (pa_cons (pe_ifExp (pt_cmpR op_eq (pv 6) (pe_str) (nomark _)) (pe_bm PySem.F.plainAttrs_list PySem.F.slot_list_index PySem.F.type_list_index G.mt_indexS (pv 4) (pa_cons (pv 7) pa_nil)) (pv 7)) pa_nil))))))
      (pss_one (ps_ret (pv 5)))))), ?_⟩
    obtain ⟨z0, z1, z2, z3, rfl, q⟩ := h
    exact with_hands_rd q
theorem ok_look_at_slots {fd : FuncData} (F : Fun K "look_at_slots" "look_at_slots" s_look_at_slots f_look_at_slots fd) : FnOk P w K mg base (G.CXe P w) 1 f_look_at_slots fd ["forms", "values", "number", "hands"] (S_look K) := by
  have sc := sc_look_at_slots
  have tx : TxS K C_Kind C_Scene C_FORMS_copy C_FORMS_drop C_FORMS_get C_FORMS_give C_FORMS_make C_FORMS_name C_FORMS_put C_FORMS_read C_FORMS_seek C_FORMS_write := ⟨T.sq_FORMS_copy, T.sq_FORMS_drop, T.sq_FORMS_get, T.sq_FORMS_give, T.sq_FORMS_make, T.sq_FORMS_name, T.sq_FORMS_put, T.sq_FORMS_read, T.sq_FORMS_seek, T.sq_FORMS_write, T.cl_Kind, T.n_Kind_looking, T.n_Kind_tells, T.cl_Scene, T.n_Scene_room, T.n_Scene_kind, T.n_Scene_hands, T.n_Scene_rows⟩
  refine G.fok F sc (fun vs H Q E h => ?_) (fun cdv A outer s H vs Q E hr h => ?_)
  · obtain ⟨z0, z1, z2, z3, rfl, q⟩ := h; rfl
  · refine ⟨rd_look_at_slots K, (pss_cons (ps_set (i := 4) sc.nd rfl (Or.inl rfl) (pe_int))
      (pss_one (ps_for PassesOwn.never rfl (G.pi_zip2 true false rfl T.z_zip (pa_cons (pv 0) (pa_cons (pv 1) pa_nil))) (pg_tup rfl (pgs_cons (pg_name (i := 5) sc.nd rfl (Or.inl rfl)) (pgs_cons (pg_name (i := 6) sc.nd rfl (Or.inl rfl)) pgs_nil)))
      (pss_cons (ps_if (pt_cmpR op_eq (pv 5) (pe_str) (nomark _)) (pss_one (ps_set (i := 4) sc.nd rfl (Or.inl rfl) (pv 6))) pss_nil)
      (pss_one (ps_if (PW.pt (pw_and (pt_cmpR op_eq (pv 5) (pe_str) (nomark _)) (pw_and1 (pt_cmpR op_ge (pv 6) (pe_ix ix_tup (pe_ix ix_list (pv 3) (pv 4) (fun _ _ => rfl)) (pe_int) (fun _ _ => rfl)) (nomark _))))) (pss_one (ps_never)) pss_nil)))))), ?_⟩
    obtain ⟨z0, z1, z2, z3, rfl, q⟩ := h
    exact look_at_slots_rd q
theorem ok__law_cell_at {fd : FuncData} (F : Fun K "_law_cell_at" "_law_cell_at" s__law_cell_at f__law_cell_at fd) : FnOk P w K mg base (G.CXe P w) 1 f__law_cell_at fd ["_law_script", "_law_k"] (S_at K) := by
  have sc := sc__law_cell_at
  have tx : TxS K C_Kind C_Scene C_FORMS_copy C_FORMS_drop C_FORMS_get C_FORMS_give C_FORMS_make C_FORMS_name C_FORMS_put C_FORMS_read C_FORMS_seek C_FORMS_write := ⟨T.sq_FORMS_copy, T.sq_FORMS_drop, T.sq_FORMS_get, T.sq_FORMS_give, T.sq_FORMS_make, T.sq_FORMS_name, T.sq_FORMS_put, T.sq_FORMS_read, T.sq_FORMS_seek, T.sq_FORMS_write, T.cl_Kind, T.n_Kind_looking, T.n_Kind_tells, T.cl_Scene, T.n_Scene_room, T.n_Scene_kind, T.n_Scene_hands, T.n_Scene_rows⟩
  refine G.fok F sc (fun vs H Q E h => ?_) (fun cdv A outer s H vs Q E hr h => ?_)
  · obtain ⟨z0, z1, rfl, q⟩ := h; rfl
  · refine ⟨rd__law_cell_at K, (pss_cons (ps_if (pt_cmpR op_lt (pv 1) (pe_callB G.call_lenL (by rfl) T.z_len G.boot_len (pa_cons (pv 0) pa_nil)) (nomark _)) (pss_one (ps_ret (pe_ix ix_list (pv 0) (pv 1) (fun _ _ => rfl)))) pss_nil)
      (pss_one (ps_ret (pe_int)))), ?_⟩
    obtain ⟨z0, z1, rfl, q⟩ := h
    exact _law_cell_at_rd q
theorem ok__law_whole {fd : FuncData} (F : Fun K "_law_whole" "_law_whole" s__law_whole f__law_whole fd) : FnOk P w K mg base (G.CXe P w) 1 f__law_whole fd ["_law_found"] (S_whole) := by
  have sc := sc__law_whole
  have tx : TxS K C_Kind C_Scene C_FORMS_copy C_FORMS_drop C_FORMS_get C_FORMS_give C_FORMS_make C_FORMS_name C_FORMS_put C_FORMS_read C_FORMS_seek C_FORMS_write := ⟨T.sq_FORMS_copy, T.sq_FORMS_drop, T.sq_FORMS_get, T.sq_FORMS_give, T.sq_FORMS_make, T.sq_FORMS_name, T.sq_FORMS_put, T.sq_FORMS_read, T.sq_FORMS_seek, T.sq_FORMS_write, T.cl_Kind, T.n_Kind_looking, T.n_Kind_tells, T.cl_Scene, T.n_Scene_room, T.n_Scene_kind, T.n_Scene_hands, T.n_Scene_rows⟩
  refine G.fok F sc (fun vs H Q E h => ?_) (fun cdv A outer s H vs Q E hr h => ?_)
  · obtain ⟨z0, rfl, q⟩ := h; rfl
  · refine ⟨rd__law_whole, (pss_one (ps_ret ((pe_and (pe_callB G.call_isi (by rfl) T.z_isinstance G.boot_isinstance (pa_cons (pv 0) (pa_cons (pe_bltn rfl T.z_int G.boot_int rfl) pa_nil))) (pe_one (pe_not (pe_callB G.call_isi (by rfl) T.z_isinstance G.boot_isinstance (pa_cons (pv 0) (pa_cons (pe_bltn rfl T.z_bool G.boot_bool rfl) pa_nil))))))))), ?_⟩
    obtain ⟨z0, rfl, q⟩ := h
    exact _law_whole_rd q
theorem ok__law_safe {fd : FuncData} (F : Fun K "_law_safe" "_law_safe" s__law_safe f__law_safe fd) : FnOk P w K mg base (G.CXe P w) 1 f__law_safe fd ["_law_name"] (S_safe) := by
  have sc := sc__law_safe
  have tx : TxS K C_Kind C_Scene C_FORMS_copy C_FORMS_drop C_FORMS_get C_FORMS_give C_FORMS_make C_FORMS_name C_FORMS_put C_FORMS_read C_FORMS_seek C_FORMS_write := ⟨T.sq_FORMS_copy, T.sq_FORMS_drop, T.sq_FORMS_get, T.sq_FORMS_give, T.sq_FORMS_make, T.sq_FORMS_name, T.sq_FORMS_put, T.sq_FORMS_read, T.sq_FORMS_seek, T.sq_FORMS_write, T.cl_Kind, T.n_Kind_looking, T.n_Kind_tells, T.cl_Scene, T.n_Scene_room, T.n_Scene_kind, T.n_Scene_hands, T.n_Scene_rows⟩
  refine G.fok F sc (fun vs H Q E h => ?_) (fun cdv A outer s H vs Q E hr h => ?_)
  · obtain ⟨z0, rfl, q⟩ := h; rfl
  · refine ⟨rd__law_safe, (pss_cons (ps_if (pt_cmpR op_eq (pv 0) (pe_str) (nomark _)) (pss_one (ps_ret (pe_str))) pss_nil)
      (pss_one (ps_ret (pv 0)))), ?_⟩
    obtain ⟨z0, rfl, q⟩ := h
    exact _law_safe_rd q
theorem ok__law_hands_by {fd : FuncData} (F : Fun K "_law_hands_by" "_law_hands_by" s__law_hands_by f__law_hands_by fd) {fd__law_safe : FuncData} (G__law_safe : FnOk P w K mg base (G.CXe P w) 1 f__law_safe fd__law_safe ["_law_name"] (S_safe)) (b__law_safe : Binds K fd__law_safe ["_law_name"] []) (k__law_safe : PySem.W.keepIn K (.ref f__law_safe) = true) : FnOk P w K mg base (G.CXe P w) 2 f__law_hands_by fd ["_law_way", "_law_cell"] (S_handsby) := by
  have sc := sc__law_hands_by
  have tx : TxS K C_Kind C_Scene C_FORMS_copy C_FORMS_drop C_FORMS_get C_FORMS_give C_FORMS_make C_FORMS_name C_FORMS_put C_FORMS_read C_FORMS_seek C_FORMS_write := ⟨T.sq_FORMS_copy, T.sq_FORMS_drop, T.sq_FORMS_get, T.sq_FORMS_give, T.sq_FORMS_make, T.sq_FORMS_name, T.sq_FORMS_put, T.sq_FORMS_read, T.sq_FORMS_seek, T.sq_FORMS_write, T.cl_Kind, T.n_Kind_looking, T.n_Kind_tells, T.cl_Scene, T.n_Scene_room, T.n_Scene_kind, T.n_Scene_hands, T.n_Scene_rows⟩
  refine G.fok F sc (fun vs H Q E h => ?_) (fun cdv A outer s H vs Q E hr h => ?_)
  · obtain ⟨z0, z1, rfl, q⟩ := h; rfl
  · refine ⟨rd__law_hands_by K (S_safe), (pss_cons (ps_set (i := 2) sc.nd rfl (Or.inl rfl) (pe_str))
      (pss_cons (ps_set (i := 3) sc.nd rfl (Or.inl rfl) (pe_op op_add (pe_int) (pe_op op_mod (pe_op op_fdiv (pv 1) (pe_int)) (pe_int))))
      (pss_cons (ps_set (i := 4) sc.nd rfl (Or.inl rfl) (pe_lst pa_nil))
      (pss_cons (ps_for PassesOwn.never rfl (pi_range1 rfl T.z_range (pa_cons (pe_op op_add (pe_int) (pe_op op_mod (pv 0) (pe_int))) pa_nil)) (pg_name (i := 5) sc.nd rfl (Or.inl rfl))
      (pss_cons (ps_set (i := 6) sc.nd rfl (Or.inl rfl) (pe_str))
      (pss_cons (ps_for PassesOwn.never rfl (pi_range1 rfl T.z_range (pa_cons (pv 3) pa_nil)) (pg_name (i := 7) sc.nd rfl (Or.inl rfl))
      (pss_cons (ps_set (i := 8) sc.nd rfl (Or.inl rfl) (pe_op op_add (pe_op G.op_mulB (pe_op G.op_mulB (pv 7) (pv 7)) (pe_int)) (pe_op G.op_mulB (pv 7) (pe_op op_mod (pe_op op_fdiv (pv 1) (pe_int)) (pe_int)))))
      (pss_cons (ps_if (pt_cmpR op_eq (pv 7) (pe_op op_mod (pe_op op_fdiv (pv 0) (pe_int)) (pv 3)) (nomark _)) (pss_one (ps_set (i := 8) sc.nd rfl (Or.inl rfl) (pe_op op_add (pv 8) (pv 5)))) pss_nil)
      (pss_one (ps_set (i := 6) sc.nd rfl (Or.inl rfl) (pe_op op_add_str (pv 6) (pe_ix ix_str (pv 2) (pe_op op_mod (pe_op op_add (pv 1) (pv 8)) (pe_int)) (fun _ _ => rfl))))))))
      (pss_cons (ps_if (pt_cmpR op_eq (pe_op op_mod (pe_op op_fdiv (pv 0) (pe_int)) (pe_int)) (pe_int) (nomark _)) (pss_one (ps_set (i := 6) sc.nd rfl (Or.inl rfl) (pe_op G.op_repS (pe_ix ix_str (pv 2) (pe_op op_mod (pv 1) (pe_int)) (fun _ _ => rfl)) (pe_op op_add (pe_int) (pe_op op_mod (pe_op op_add (pv 5) (pe_op op_fdiv (pv 1) (pe_int))) (pe_int)))))) pss_nil)
      (pss_one (ps_expr (pe_bm PySem.F.plainAttrs_list PySem.F.slot_list_append PySem.F.type_list_append mt_append (pv 4) (pa_cons (pe_tup (pa_cons (pe_call G__law_safe (hr.mono (by decide)) rfl T.m__law_safe k__law_safe b__law_safe .nil G.passE0 (pa_cons (pv 6) pa_nil)) (pa_cons (pe_op op_add (pe_int) (pe_op op_mod (pe_op op_add (pe_op op_fdiv (pv 1) (pe_int)) (pe_op G.op_mulB (pe_op G.op_mulB (pv 5) (pv 5)) (pe_int))) (pe_int))) pa_nil))) pa_nil))))))))
      (pss_cons (ps_if (PW.pt (pw_and (pt_cmpR op_eq (pe_op op_mod (pe_op op_fdiv (pv 0) (pe_int)) (pe_int)) (pe_int) (nomark _)) (pw_and1 (pt_cmpR op_notIn_seq (pe_str) (G.pe_lc2 (cns := []) [] (pi_list (pv 4)) (fun _ _ _ _ _ => G.pf_nil) (fun _ _ _ _ _ => (pv 0)) rfl rfl (by repeat (first | exact trivial | refine ⟨rfl, ?_⟩)) (by repeat (first | exact trivial | refine ⟨rfl, ?_⟩)) rfl (by decide +kernel) rfl (by decide +kernel) (by decide +kernel) rfl rfl (by decide +kernel)) (by with_unfolding_all rfl))))) (pss_one (ps_asg (pe_tup (pa_cons (pe_str) (pa_cons (pe_ix ix_tup (pe_ix ix_list (pv 4) (pe_int) (fun _ _ => rfl)) (pe_int) (fun _ _ => rfl)) pa_nil))) (pg_sub (pv 4) (pe_int) set_list))) pss_nil)
      (pss_one (ps_ret (pv 4)))))))), ?_⟩
    obtain ⟨z0, z1, rfl, q⟩ := h
    exact _law_hands_by_rd q
theorem ok__law_kind_by {fd : FuncData} (F : Fun K "_law_kind_by" "_law_kind_by" s__law_kind_by f__law_kind_by fd) : FnOk P w K mg base (G.CXe P w) 1 f__law_kind_by fd ["_law_cell"] (S_kindby) := by
  have sc := sc__law_kind_by
  have tx : TxS K C_Kind C_Scene C_FORMS_copy C_FORMS_drop C_FORMS_get C_FORMS_give C_FORMS_make C_FORMS_name C_FORMS_put C_FORMS_read C_FORMS_seek C_FORMS_write := ⟨T.sq_FORMS_copy, T.sq_FORMS_drop, T.sq_FORMS_get, T.sq_FORMS_give, T.sq_FORMS_make, T.sq_FORMS_name, T.sq_FORMS_put, T.sq_FORMS_read, T.sq_FORMS_seek, T.sq_FORMS_write, T.cl_Kind, T.n_Kind_looking, T.n_Kind_tells, T.cl_Scene, T.n_Scene_room, T.n_Scene_kind, T.n_Scene_hands, T.n_Scene_rows⟩
  refine G.fok F sc (fun vs H Q E h => ?_) (fun cdv A outer s H vs Q E hr h => ?_)
  · obtain ⟨z0, rfl, q⟩ := h; rfl
  · refine ⟨rd__law_kind_by K, (pss_cons (ps_set (i := 1) sc.nd rfl (Or.inl rfl) (pe_ix ix_list (pe_lst (pa_cons (pe_str) (pa_cons (pe_str) (pa_cons (pe_str) pa_nil)))) (pe_op op_mod (pv 0) (pe_int)) (fun _ _ => rfl)))
      (pss_cons (ps_if (pt_cmpR op_eq (pe_op op_mod (pe_op op_fdiv (pv 0) (pe_int)) (pe_int)) (pe_int) (nomark _)) (pss_one (ps_set (i := 1) sc.nd rfl (Or.inl rfl) (pe_op op_add_str (pv 1) (pe_str)))) pss_nil)
      (pss_cons (ps_if (pt_cmpR op_eq (pe_op op_mod (pe_op op_fdiv (pv 0) (pe_int)) (pe_int)) (pe_int) (nomark _)) (pss_one (ps_set (i := 1) sc.nd rfl (Or.inl rfl) (pe_op op_add_str (pv 1) (pe_str)))) pss_nil)
      (pss_one (ps_ret (pv 1)))))), ?_⟩
    obtain ⟨z0, rfl, q⟩ := h
    exact _law_kind_by_rd q
theorem ok__law_word_by {fd : FuncData} (F : Fun K "_law_word_by" "_law_word_by" s__law_word_by f__law_word_by fd) : FnOk P w K mg base (G.CXe P w) 1 f__law_word_by fd ["_law_cell", "_law_way"] (S_wordby) := by
  have sc := sc__law_word_by
  have tx : TxS K C_Kind C_Scene C_FORMS_copy C_FORMS_drop C_FORMS_get C_FORMS_give C_FORMS_make C_FORMS_name C_FORMS_put C_FORMS_read C_FORMS_seek C_FORMS_write := ⟨T.sq_FORMS_copy, T.sq_FORMS_drop, T.sq_FORMS_get, T.sq_FORMS_give, T.sq_FORMS_make, T.sq_FORMS_name, T.sq_FORMS_put, T.sq_FORMS_read, T.sq_FORMS_seek, T.sq_FORMS_write, T.cl_Kind, T.n_Kind_looking, T.n_Kind_tells, T.cl_Scene, T.n_Scene_room, T.n_Scene_kind, T.n_Scene_hands, T.n_Scene_rows⟩
  refine G.fok F sc (fun vs H Q E h => ?_) (fun cdv A outer s H vs Q E hr h => ?_)
  · obtain ⟨z0, z1, rfl, q⟩ := h; rfl
  · refine ⟨rd__law_word_by, (pss_cons (ps_set (i := 2) sc.nd rfl (Or.inl rfl) (pe_str))
      (pss_cons (ps_set (i := 3) sc.nd rfl (Or.inl rfl) (pe_str))
      (pss_cons (ps_for PassesOwn.never rfl (pi_range1 rfl T.z_range (pa_cons (pe_op op_add (pe_int) (pe_op op_mod (pv 1) (pe_int))) pa_nil)) (pg_name (i := 4) sc.nd rfl (Or.inl rfl))
      (pss_one (ps_set (i := 3) sc.nd rfl (Or.inl rfl) (pe_op op_add_str (pv 3) (pe_ix ix_str (pv 2) (pe_op op_mod (pe_op op_add (pv 0) (pe_op G.op_mulB (pe_op G.op_mulB (pv 4) (pv 4)) (pe_op op_mod (pe_op op_fdiv (pv 1) (pe_int)) (pe_int)))) (pe_int)) (fun _ _ => rfl))))))
      (pss_one (ps_ret (pv 3)))))), ?_⟩
    obtain ⟨z0, z1, rfl, q⟩ := h
    exact _law_word_by_rd q
theorem ok__law_large {fd : FuncData} (F : Fun K "_law_large" "_law_large" s__law_large f__law_large fd) : FnOk P w K mg base (G.CXe P w) 1 f__law_large fd ["_law_cell", "_law_way", "_law_most"] (S_large) := by
  have sc := sc__law_large
  have tx : TxS K C_Kind C_Scene C_FORMS_copy C_FORMS_drop C_FORMS_get C_FORMS_give C_FORMS_make C_FORMS_name C_FORMS_put C_FORMS_read C_FORMS_seek C_FORMS_write := ⟨T.sq_FORMS_copy, T.sq_FORMS_drop, T.sq_FORMS_get, T.sq_FORMS_give, T.sq_FORMS_make, T.sq_FORMS_name, T.sq_FORMS_put, T.sq_FORMS_read, T.sq_FORMS_seek, T.sq_FORMS_write, T.cl_Kind, T.n_Kind_looking, T.n_Kind_tells, T.cl_Scene, T.n_Scene_room, T.n_Scene_kind, T.n_Scene_hands, T.n_Scene_rows⟩
  refine G.fok F sc (fun vs H Q E h => ?_) (fun cdv A outer s H vs Q E hr h => ?_)
  · obtain ⟨z0, z1, z2, rfl, q⟩ := h; rfl
  · refine ⟨rd__law_large, (pss_cons (ps_if (pt_cmpR op_eq (pe_op op_mod (pe_op op_fdiv (pv 1) (pe_int)) (pe_int)) (pe_int) (nomark _)) (pss_one (ps_ret (pe_op op_mod (pe_op G.op_mulW (pe_op op_add (pv 0) (pe_int)) (pe_int)) (pe_op op_add (pv 2) (pe_int))))) pss_nil)
      (pss_one (ps_ret (pe_op op_mod (pv 0) (pe_op op_add (pv 2) (pe_int)))))), ?_⟩
    obtain ⟨z0, z1, z2, rfl, q⟩ := h
    exact _law_large_rd q
theorem ok__law_row_by {fd : FuncData} (F : Fun K "_law_row_by" "_law_row_by" s__law_row_by f__law_row_by fd) {fd__law_large : FuncData} (G__law_large : FnOk P w K mg base (G.CXe P w) 1 f__law_large fd__law_large ["_law_cell", "_law_way", "_law_most"] (S_large)) (b__law_large : Binds K fd__law_large ["_law_cell", "_law_way", "_law_most"] []) (k__law_large : PySem.W.keepIn K (.ref f__law_large) = true) {fd__law_word_by : FuncData} (G__law_word_by : FnOk P w K mg base (G.CXe P w) 1 f__law_word_by fd__law_word_by ["_law_cell", "_law_way"] (S_wordby)) (b__law_word_by : Binds K fd__law_word_by ["_law_cell", "_law_way"] []) (k__law_word_by : PySem.W.keepIn K (.ref f__law_word_by) = true) : FnOk P w K mg base (G.CXe P w) 2 f__law_row_by fd ["_law_cell", "_law_k", "_law_hands"] (S_rowby) := by
  have sc := sc__law_row_by
  have tx : TxS K C_Kind C_Scene C_FORMS_copy C_FORMS_drop C_FORMS_get C_FORMS_give C_FORMS_make C_FORMS_name C_FORMS_put C_FORMS_read C_FORMS_seek C_FORMS_write := ⟨T.sq_FORMS_copy, T.sq_FORMS_drop, T.sq_FORMS_get, T.sq_FORMS_give, T.sq_FORMS_make, T.sq_FORMS_name, T.sq_FORMS_put, T.sq_FORMS_read, T.sq_FORMS_seek, T.sq_FORMS_write, T.cl_Kind, T.n_Kind_looking, T.n_Kind_tells, T.cl_Scene, T.n_Scene_room, T.n_Scene_kind, T.n_Scene_hands, T.n_Scene_rows⟩
  refine G.fok F sc (fun vs H Q E h => ?_) (fun cdv A outer s H vs Q E hr h => ?_)
  · obtain ⟨z0, z1, z2, rfl, q⟩ := h; rfl
  · refine ⟨rd__law_row_by K (S_large) (S_wordby), (pss_cons (ps_set (i := 3) sc.nd rfl (Or.inl rfl) (pe_op op_mod (pe_op G.op_mulB (pe_op op_add (pe_op op_add (pv 0) (pe_op G.op_mulB (pe_op G.op_mulB (pe_int) (pv 1)) (pv 1))) (pe_int)) (pe_int)) (pe_int)))
      (pss_cons (ps_set (i := 4) sc.nd rfl (Or.inl rfl) (pe_op op_mod (pe_op G.op_mulB (pe_op op_add (pe_op op_add (pv 0) (pe_op G.op_mulB (pe_int) (pv 1))) (pe_int)) (pe_int)) (pe_int)))
      (pss_cons (ps_set (i := 5) sc.nd rfl (Or.inl rfl) (pe_op op_mod (pe_op op_fdiv (pv 3) (pe_int)) (pe_callB G.call_lenL (by rfl) T.z_len G.boot_len (pa_cons (pv 2) pa_nil))))
      (pss_cons (ps_set (i := 6) sc.nd rfl (Or.inl rfl) (pe_op op_mod (pv 4) (pe_callB G.call_lenL (by rfl) T.z_len G.boot_len (pa_cons (pv 2) pa_nil))))
      (pss_cons (ps_set (i := 7) sc.nd rfl (Or.inl rfl) (pe_op op_mod (pe_op op_fdiv (pv 4) (pe_int)) (pe_ix ix_tup (pe_ix ix_list (pv 2) (pv 5) (fun _ _ => rfl)) (pe_int) (fun _ _ => rfl))))
      (pss_cons (ps_set (i := 8) sc.nd rfl (Or.inl rfl) (pe_op op_mod (pe_op op_fdiv (pv 3) (pe_int)) (pe_ix ix_tup (pe_ix ix_list (pv 2) (pv 5) (fun _ _ => rfl)) (pe_int) (fun _ _ => rfl))))
      (pss_cons (ps_set (i := 9) sc.nd rfl (Or.inl rfl) (pe_call G__law_large (hr.mono (by decide)) rfl T.m__law_large k__law_large b__law_large .nil G.passE0 (pa_cons (pv 0) (pa_cons (pv 3) (pa_cons (pe_ix ix_list (pe_lst (pa_cons (pe_int) (pa_cons (pe_int) pa_nil))) (pe_op op_mod (pv 4) (pe_int)) (fun _ _ => rfl)) pa_nil)))))
      (pss_cons (ps_set (i := 10) sc.nd rfl (Or.inl rfl) (pe_call G__law_large (hr.mono (by decide)) rfl T.m__law_large k__law_large b__law_large .nil G.passE0 (pa_cons (pv 0) (pa_cons (pv 3) (pa_cons (pe_op op_sub (pe_op op_pow (pe_int) (pe_int)) (pe_int)) pa_nil)))))
      (pss_cons (ps_if (pt_cmpR op_eq (pe_op op_mod (pe_op op_fdiv (pv 4) (pe_int)) (pe_int)) (pe_int) (nomark _)) (pss_one (ps_set (i := 10) sc.nd rfl (Or.inl rfl) (pe_op op_sub (pe_int) (pv 10)))) pss_nil)
      (pss_cons (ps_set (i := 11) sc.nd rfl (Or.inl rfl) (pe_call G__law_word_by (hr.mono (by decide)) rfl T.m__law_word_by k__law_word_by b__law_word_by .nil G.passE0 (pa_cons (pv 0) (pa_cons (pv 4) pa_nil))))
      (pss_cons (ps_if (pt_cmpR op_eq (pe_op op_mod (pe_op op_fdiv (pv 4) (pe_int)) (pe_int)) (pe_int) (nomark _)) (pss_one (ps_set (i := 11) sc.nd rfl (Or.inl rfl) (pe_str))) pss_nil)
      (pss_one (ps_ret (pe_ix ix_list (pe_lst (pa_cons (pe_tup (pa_cons (pe_str) (pa_cons (pv 5) (pa_cons (pv 7) (pa_cons (pe_op op_mod (pe_op op_fdiv (pv 4) (pe_int)) (pe_int)) (pa_cons (pe_call G__law_large (hr.mono (by decide)) rfl T.m__law_large k__law_large b__law_large .nil G.passE0 (pa_cons (pv 0) (pa_cons (pv 3) (pa_cons (pe_op op_pow (pe_int) (pe_int)) pa_nil)))) pa_nil)))))) (pa_cons (pe_tup (pa_cons (pe_str) (pa_cons (pv 5) (pa_cons (pv 7) (pa_cons (pv 8) (pa_cons (pv 9) pa_nil)))))) (pa_cons (pe_tup (pa_cons (pe_str) (pa_cons (pv 5) (pa_cons (pv 8) (pa_cons (pv 9) (pa_cons (pv 7) pa_nil)))))) (pa_cons (pe_tup (pa_cons (pe_str) (pa_cons (pv 5) (pa_cons (pv 7) (pa_cons (pv 8) pa_nil))))) (pa_cons (pe_tup (pa_cons (pe_str) (pa_cons (pv 5) (pa_cons (pv 7) pa_nil)))) (pa_cons (pe_tup (pa_cons (pe_str) (pa_cons (pv 5) (pa_cons (pv 7) (pa_cons (pv 6) (pa_cons (pe_op op_mod (pe_op op_fdiv (pv 3) (pe_int)) (pe_ix ix_tup (pe_ix ix_list (pv 2) (pv 6) (fun _ _ => rfl)) (pe_int) (fun _ _ => rfl))) pa_nil)))))) (pa_cons (pe_tup (pa_cons (pe_str) (pa_cons (pv 5) (pa_cons (pv 8) (pa_cons (pv 10) pa_nil))))) (pa_cons (pe_tup (pa_cons (pe_str) (pa_cons (pv 5) (pa_cons (pv 8) pa_nil)))) (pa_cons (pe_tup (pa_cons (pe_str) (pa_cons (pv 5) (pa_cons (pv 8) (pa_cons (pv 11) pa_nil))))) (pa_cons (pe_tup (pa_cons (pe_str) (pa_cons (pv 5) (pa_cons (pv 7) (pa_cons (pv 11) pa_nil))))) (pa_cons (pe_tup (pa_cons (pe_str) (pa_cons (pe_op op_add (pe_int) (pe_call G__law_large (hr.mono (by decide)) rfl T.m__law_large k__law_large b__law_large .nil G.passE0 (pa_cons (pv 0) (pa_cons (pv 3) (pa_cons (pe_int) pa_nil))))) pa_nil))) pa_nil)))))))))))) (pe_op op_mod (pv 3) (pe_int)) (fun _ _ => rfl))))))))))))))), ?_⟩
    obtain ⟨z0, z1, z2, rfl, q⟩ := h
    exact _law_row_by_rd q
theorem ok__law_text_of {fd : FuncData} (F : Fun K "_law_text_of" "_law_text_of" s__law_text_of f__law_text_of fd) : FnOk P w K mg base (G.CXe P w) 1 f__law_text_of fd ["_law_row", "_law_hands"] (S_textof) := by
  have sc := sc__law_text_of
  have tx : TxS K C_Kind C_Scene C_FORMS_copy C_FORMS_drop C_FORMS_get C_FORMS_give C_FORMS_make C_FORMS_name C_FORMS_put C_FORMS_read C_FORMS_seek C_FORMS_write := ⟨T.sq_FORMS_copy, T.sq_FORMS_drop, T.sq_FORMS_get, T.sq_FORMS_give, T.sq_FORMS_make, T.sq_FORMS_name, T.sq_FORMS_put, T.sq_FORMS_read, T.sq_FORMS_seek, T.sq_FORMS_write, T.cl_Kind, T.n_Kind_looking, T.n_Kind_tells, T.cl_Scene, T.n_Scene_room, T.n_Scene_kind, T.n_Scene_hands, T.n_Scene_rows⟩
  refine G.fok F sc (fun vs H Q E h => ?_) (fun cdv A outer s H vs Q E hr h => ?_)
  · obtain ⟨z0, z1, rfl, q⟩ := h; rfl
  · refine ⟨rd__law_text_of K, (pss_cons (ps_if (pt_cmpR op_eq (pe_ix ix_tup (pv 0) (pe_int) (fun _ _ => rfl)) (pe_str) (nomark _)) (pss_one (ps_ret (pe_op op_add_str (pe_str) (pe_callTy G.call_strI (by rfl) T.z_str G.boot_str (pa_cons (pe_ix ix_tup (pv 0) (pe_int) (fun _ _ => rfl)) pa_nil))))) pss_nil)
      (pss_cons (ps_set (i := 2) sc.nd rfl (Or.inl rfl) (pe_op op_add_str (pe_op op_add_str (pe_ix ix_tup (pe_ix ix_list (pv 1) (pe_ix ix_tup (pv 0) (pe_int) (fun _ _ => rfl)) (fun _ _ => rfl)) (pe_int) (fun _ _ => rfl)) (pe_str)) (pe_ix ix_tup (pv 0) (pe_int) (fun _ _ => rfl))))
      (pss_cons (ps_for PassesOwn.never rfl (pi_range2 rfl T.z_range (pa_cons (pe_int) (pa_cons (pe_callB G.call_lenL (by rfl) T.z_len G.boot_len (pa_cons (pv 0) pa_nil)) pa_nil))) (pg_name (i := 3) sc.nd rfl (Or.inl rfl))
      (pss_cons (ps_set (i := 4) sc.nd rfl (Or.inl rfl) (pe_callTy G.call_strV (by rfl) T.z_str G.boot_str (pa_cons (pe_ix ix_tup (pv 0) (pv 3) (fun _ _ => rfl)) pa_nil)))
      (pss_cons (ps_if (PW.pt (pw_and (pt_cmpR op_eq (pe_ix ix_tup (pv 0) (pe_int) (fun _ _ => rfl)) (pe_str) (nomark _)) (pw_and1 (pt_cmpR op_eq (pv 3) (pe_int) (nomark _))))) (pss_one (ps_set (i := 4) sc.nd rfl (Or.inl rfl) (pe_ix ix_tup (pe_ix ix_list (pv 1) (pe_ix ix_tup (pv 0) (pe_int) (fun _ _ => rfl)) (fun _ _ => rfl)) (pe_int) (fun _ _ => rfl)))) pss_nil)
      (pss_one (ps_set (i := 2) sc.nd rfl (Or.inl rfl) (pe_op op_add_str (pe_op op_add_str (pv 2) (pe_str)) (pv 4)))))))
      (pss_one (ps_ret (pv 2)))))), ?_⟩
    obtain ⟨z0, z1, rfl, q⟩ := h
    exact _law_text_of_rd q
theorem ok__law_same_row {fd : FuncData} (F : Fun K "_law_same_row" "_law_same_row" s__law_same_row f__law_same_row fd) {fd__law_whole : FuncData} (G__law_whole : FnOk P w K mg base (G.CXe P w) 1 f__law_whole fd__law_whole ["_law_found"] (S_whole)) (b__law_whole : Binds K fd__law_whole ["_law_found"] []) (k__law_whole : PySem.W.keepIn K (.ref f__law_whole) = true) : FnOk P w K mg base (G.CXe P w) 2 f__law_same_row fd ["_law_found", "_law_due"] (S_srow) := by
  have sc := sc__law_same_row
  have tx : TxS K C_Kind C_Scene C_FORMS_copy C_FORMS_drop C_FORMS_get C_FORMS_give C_FORMS_make C_FORMS_name C_FORMS_put C_FORMS_read C_FORMS_seek C_FORMS_write := ⟨T.sq_FORMS_copy, T.sq_FORMS_drop, T.sq_FORMS_get, T.sq_FORMS_give, T.sq_FORMS_make, T.sq_FORMS_name, T.sq_FORMS_put, T.sq_FORMS_read, T.sq_FORMS_seek, T.sq_FORMS_write, T.cl_Kind, T.n_Kind_looking, T.n_Kind_tells, T.cl_Scene, T.n_Scene_room, T.n_Scene_kind, T.n_Scene_hands, T.n_Scene_rows⟩
  refine G.fok F sc (fun vs H Q E h => ?_) (fun cdv A outer s H vs Q E hr h => ?_)
  · obtain ⟨z0, z1, rfl, q⟩ := h; rfl
  · refine ⟨rd__law_same_row K (S_whole), (pss_cons (ps_if (PW.pt (pw_or (pt_not (pt_val (pe_callB G.call_isi (by rfl) T.z_isinstance G.boot_isinstance (pa_cons (pv 0) (pa_cons (pe_bltn rfl T.z_tuple G.boot_tuple rfl) pa_nil))))) (pw_or1 (pt_cmpR op_ne (pe_callB G.call_lenL (by rfl) T.z_len G.boot_len (pa_cons (pv 0) pa_nil)) (pe_callB G.call_lenL (by rfl) T.z_len G.boot_len (pa_cons (pv 1) pa_nil)) (nomark _))))) (pss_one (ps_ret (pe_bl))) pss_nil)
      (pss_cons (ps_for PassesOwn.never rfl (G.pi_zip2 true true rfl T.z_zip (pa_cons (pv 0) (pa_cons (pv 1) pa_nil))) (pg_tup rfl (pgs_cons (pg_name (i := 2) sc.nd rfl (Or.inl rfl)) (pgs_cons (pg_name (i := 3) sc.nd rfl (Or.inl rfl)) pgs_nil)))
      (pss_cons (ps_if (PW.pt (pw_and (pt_val (pe_callB G.call_isi (by rfl) T.z_isinstance G.boot_isinstance (pa_cons (pv 3) (pa_cons (pe_bltn rfl T.z_str G.boot_str rfl) pa_nil)))) (pw_and1 (pt_not (pt_val (pe_callB G.call_isi (by rfl) T.z_isinstance G.boot_isinstance (pa_cons (pv 2) (pa_cons (pe_bltn rfl T.z_str G.boot_str rfl) pa_nil)))))))) (pss_one (ps_ret (pe_bl))) pss_nil)
      (pss_cons (ps_if (PW.pt (pw_and (pt_not (pt_val (pe_callB G.call_isi (by rfl) T.z_isinstance G.boot_isinstance (pa_cons (pv 3) (pa_cons (pe_bltn rfl T.z_str G.boot_str rfl) pa_nil))))) (pw_and1 (pt_not (pt_val (pe_call G__law_whole (hr.mono (by decide)) rfl T.m__law_whole k__law_whole b__law_whole .nil G.passE0 (pa_cons (pv 2) pa_nil))))))) (pss_one (ps_ret (pe_bl))) pss_nil)
      (pss_one (ps_if (pt_cmpR op_ne (pv 2) (pv 3) (nomark _)) (pss_one (ps_ret (pe_bl))) pss_nil)))))
      (pss_one (ps_ret (pe_bl))))), ?_⟩
    obtain ⟨z0, z1, rfl, q⟩ := h
    exact _law_same_row_rd q
theorem ok__law_same_rows {fd : FuncData} (F : Fun K "_law_same_rows" "_law_same_rows" s__law_same_rows f__law_same_rows fd) {fd__law_same_row : FuncData} (G__law_same_row : FnOk P w K mg base (G.CXe P w) 2 f__law_same_row fd__law_same_row ["_law_found", "_law_due"] (S_srow)) (b__law_same_row : Binds K fd__law_same_row ["_law_found", "_law_due"] []) (k__law_same_row : PySem.W.keepIn K (.ref f__law_same_row) = true) : FnOk P w K mg base (G.CXe P w) 3 f__law_same_rows fd ["_law_found", "_law_due"] (S_srows) := by
  have sc := sc__law_same_rows
  have tx : TxS K C_Kind C_Scene C_FORMS_copy C_FORMS_drop C_FORMS_get C_FORMS_give C_FORMS_make C_FORMS_name C_FORMS_put C_FORMS_read C_FORMS_seek C_FORMS_write := ⟨T.sq_FORMS_copy, T.sq_FORMS_drop, T.sq_FORMS_get, T.sq_FORMS_give, T.sq_FORMS_make, T.sq_FORMS_name, T.sq_FORMS_put, T.sq_FORMS_read, T.sq_FORMS_seek, T.sq_FORMS_write, T.cl_Kind, T.n_Kind_looking, T.n_Kind_tells, T.cl_Scene, T.n_Scene_room, T.n_Scene_kind, T.n_Scene_hands, T.n_Scene_rows⟩
  refine G.fok F sc (fun vs H Q E h => ?_) (fun cdv A outer s H vs Q E hr h => ?_)
  · obtain ⟨z0, z1, rfl, q⟩ := h; rfl
  · refine ⟨rd__law_same_rows K (S_srow), (pss_cons (ps_if (PW.pt (pw_or (pt_not (pt_val (pe_callB G.call_isi (by rfl) T.z_isinstance G.boot_isinstance (pa_cons (pv 0) (pa_cons (pe_bltn rfl T.z_list G.boot_list rfl) pa_nil))))) (pw_or1 (pt_cmpR op_ne (pe_callB G.call_lenL (by rfl) T.z_len G.boot_len (pa_cons (pv 0) pa_nil)) (pe_callB G.call_lenL (by rfl) T.z_len G.boot_len (pa_cons (pv 1) pa_nil)) (nomark _))))) (pss_one (ps_ret (pe_bl))) pss_nil)
      (pss_cons (ps_for PassesOwn.never rfl (G.pi_zip rfl T.z_zip (pa_cons (pv 0) (pa_cons (pv 1) pa_nil))) (pg_tup rfl (pgs_cons (pg_name (i := 2) sc.nd rfl (Or.inl rfl)) (pgs_cons (pg_name (i := 3) sc.nd rfl (Or.inl rfl)) pgs_nil)))
      (pss_one (ps_if (pt_not (pt_val (pe_call G__law_same_row (hr.mono (by decide)) rfl T.m__law_same_row k__law_same_row b__law_same_row .nil G.passE0 (pa_cons (pv 2) (pa_cons (pv 3) pa_nil))))) (pss_one (ps_ret (pe_bl))) pss_nil)))
      (pss_one (ps_ret (pe_bl))))), ?_⟩
    obtain ⟨z0, z1, rfl, q⟩ := h
    exact _law_same_rows_rd q
theorem ok__law_same_scene {fd : FuncData} (F : Fun K "_law_same_scene" "_law_same_scene" s__law_same_scene f__law_same_scene fd) {fd_Kind_words : FuncData} (G_Kind_words : FnOk P w K mg base (G.CXe P w) 2 f_Kind_words fd_Kind_words ["self"] (S_words C_Kind C_First C_Each C_Last)) (b_Kind_words : Binds K fd_Kind_words ["self"] []) (k_Kind_words : PySem.W.keepIn K (.ref f_Kind_words) = true) {fd__law_same_rows : FuncData} (G__law_same_rows : FnOk P w K mg base (G.CXe P w) 3 f__law_same_rows fd__law_same_rows ["_law_found", "_law_due"] (S_srows)) (b__law_same_rows : Binds K fd__law_same_rows ["_law_found", "_law_due"] []) (k__law_same_rows : PySem.W.keepIn K (.ref f__law_same_rows) = true) {fd__law_whole : FuncData} (G__law_whole : FnOk P w K mg base (G.CXe P w) 1 f__law_whole fd__law_whole ["_law_found"] (S_whole)) (b__law_whole : Binds K fd__law_whole ["_law_found"] []) (k__law_whole : PySem.W.keepIn K (.ref f__law_whole) = true) : FnOk P w K mg base (G.CXe P w) 4 f__law_same_scene fd ["_law_scene", "_law_room", "_law_words", "_law_hands", "_law_weave"] (S_sscene C_Scene C_Kind C_First C_Each C_Last) := by
  have sc := sc__law_same_scene
  have tx : TxS K C_Kind C_Scene C_FORMS_copy C_FORMS_drop C_FORMS_get C_FORMS_give C_FORMS_make C_FORMS_name C_FORMS_put C_FORMS_read C_FORMS_seek C_FORMS_write := ⟨T.sq_FORMS_copy, T.sq_FORMS_drop, T.sq_FORMS_get, T.sq_FORMS_give, T.sq_FORMS_make, T.sq_FORMS_name, T.sq_FORMS_put, T.sq_FORMS_read, T.sq_FORMS_seek, T.sq_FORMS_write, T.cl_Kind, T.n_Kind_looking, T.n_Kind_tells, T.cl_Scene, T.n_Scene_room, T.n_Scene_kind, T.n_Scene_hands, T.n_Scene_rows⟩
  refine G.fok F sc (fun vs H Q E h => ?_) (fun cdv A outer s H vs Q E hr h => ?_)
  · obtain ⟨z0, z1, z2, z3, z4, rfl, q⟩ := h; rfl
  · refine ⟨rd__law_same_scene K C_Kind (S_words C_Kind C_First C_Each C_Last) (S_srows) (S_whole), (pss_cons (ps_if (PW.pt (pw_or (pt_not (pt_val (pe_call G__law_whole (hr.mono (by decide)) rfl T.m__law_whole k__law_whole b__law_whole .nil G.passE0 (pa_cons (pe_fld (pv 0) rfl) pa_nil)))) (pw_or (pt_cmpR op_ne (pe_fld (pv 0) rfl) (pv 1) (nomark _)) (pw_or1 (pt_cmpR op_ne (pe_meth0 (pe_fld (pv 0) rfl) T.cl_Kind T.me_Kind_words G_Kind_words (hr.mono (by decide)) b_Kind_words .nil G.passE0) (pv 2) (nomark _)))))) (pss_one (ps_ret (pe_bl))) pss_nil)
      (pss_one (ps_ret ((pe_and (pe_call G__law_same_rows (hr.mono (by decide)) rfl T.m__law_same_rows k__law_same_rows b__law_same_rows .nil G.passE0 (pa_cons (pe_fld (pv 0) rfl) (pa_cons (pv 3) pa_nil))) (pe_one (pe_call G__law_same_rows (hr.mono (by decide)) rfl T.m__law_same_rows k__law_same_rows b__law_same_rows .nil G.passE0 (pa_cons (pe_fld (pv 0) rfl) (pa_cons (pv 4) pa_nil))))))))), ?_⟩
    obtain ⟨z0, z1, z2, z3, z4, rfl, q⟩ := h
    exact _law_same_scene_rd tx q
theorem ok_law {fl : Addr} {fd : FuncData} (F : Fun K "law" "law" s_law fl fd) {fd_Scene___init__ : FuncData} (G_Scene___init__ : FnOk P w K mg base (G.CXe P w) 1 f_Scene___init__ fd_Scene___init__ ["self", "room", "kind", "hands", "rows"] (S_Scene_init C_Scene)) (b_Scene___init__ : Binds K fd_Scene___init__ ["self", "room", "kind", "hands", "rows"] []) (k_Scene___init__ : PySem.W.keepIn K (.ref f_Scene___init__) = true) {fd__law_cell_at : FuncData} (G__law_cell_at : FnOk P w K mg base (G.CXe P w) 1 f__law_cell_at fd__law_cell_at ["_law_script", "_law_k"] (S_at K)) (b__law_cell_at : Binds K fd__law_cell_at ["_law_script", "_law_k"] []) (k__law_cell_at : PySem.W.keepIn K (.ref f__law_cell_at) = true) {fd__law_hands_by : FuncData} (G__law_hands_by : FnOk P w K mg base (G.CXe P w) 2 f__law_hands_by fd__law_hands_by ["_law_way", "_law_cell"] (S_handsby)) (b__law_hands_by : Binds K fd__law_hands_by ["_law_way", "_law_cell"] []) (k__law_hands_by : PySem.W.keepIn K (.ref f__law_hands_by) = true) {fd__law_kind_by : FuncData} (G__law_kind_by : FnOk P w K mg base (G.CXe P w) 1 f__law_kind_by fd__law_kind_by ["_law_cell"] (S_kindby)) (b__law_kind_by : Binds K fd__law_kind_by ["_law_cell"] []) (k__law_kind_by : PySem.W.keepIn K (.ref f__law_kind_by) = true) {fd__law_row_by : FuncData} (G__law_row_by : FnOk P w K mg base (G.CXe P w) 2 f__law_row_by fd__law_row_by ["_law_cell", "_law_k", "_law_hands"] (S_rowby)) (b__law_row_by : Binds K fd__law_row_by ["_law_cell", "_law_k", "_law_hands"] []) (k__law_row_by : PySem.W.keepIn K (.ref f__law_row_by) = true) {fd__law_same_scene : FuncData} (G__law_same_scene : FnOk P w K mg base (G.CXe P w) 4 f__law_same_scene fd__law_same_scene ["_law_scene", "_law_room", "_law_words", "_law_hands", "_law_weave"] (S_sscene C_Scene C_Kind C_First C_Each C_Last)) (b__law_same_scene : Binds K fd__law_same_scene ["_law_scene", "_law_room", "_law_words", "_law_hands", "_law_weave"] []) (k__law_same_scene : PySem.W.keepIn K (.ref f__law_same_scene) = true) {fd__law_text_of : FuncData} (G__law_text_of : FnOk P w K mg base (G.CXe P w) 1 f__law_text_of fd__law_text_of ["_law_row", "_law_hands"] (S_textof)) (b__law_text_of : Binds K fd__law_text_of ["_law_row", "_law_hands"] []) (k__law_text_of : PySem.W.keepIn K (.ref f__law_text_of) = true) {fd_kind_of : FuncData} (G_kind_of : FnOk P w K mg base (G.CXe P w) 3 f_kind_of fd_kind_of ["text"] (S_kind_of C_Kind C_First C_Each C_Last)) (b_kind_of : Binds K fd_kind_of ["text"] []) (k_kind_of : PySem.W.keepIn K (.ref f_kind_of) = true) {fd_read : FuncData} (G_read : FnOk P w K mg base (G.CXe P w) 8 f_read fd_read ["text"] (S_read C_Scene C_Kind C_First C_Each C_Last)) (b_read : Binds K fd_read ["text"] []) (k_read : PySem.W.keepIn K (.ref f_read) = true) {fd_written : FuncData} (G_written : FnOk P w K mg base (G.CXe P w) 3 f_written fd_written ["scene"] (S_written C_Scene C_Kind C_First C_Each C_Last)) (b_written : Binds K fd_written ["scene"] []) (k_written : PySem.W.keepIn K (.ref f_written) = true) : FnOk P w K mg base (G.CXe P w) 9 fl fd ["_law_script"] (S_law K) := by
  have sc := sc_law
  have tx : TxS K C_Kind C_Scene C_FORMS_copy C_FORMS_drop C_FORMS_get C_FORMS_give C_FORMS_make C_FORMS_name C_FORMS_put C_FORMS_read C_FORMS_seek C_FORMS_write := ⟨T.sq_FORMS_copy, T.sq_FORMS_drop, T.sq_FORMS_get, T.sq_FORMS_give, T.sq_FORMS_make, T.sq_FORMS_name, T.sq_FORMS_put, T.sq_FORMS_read, T.sq_FORMS_seek, T.sq_FORMS_write, T.cl_Kind, T.n_Kind_looking, T.n_Kind_tells, T.cl_Scene, T.n_Scene_room, T.n_Scene_kind, T.n_Scene_hands, T.n_Scene_rows⟩
  refine G.fok F sc (fun vs H Q E h => ?_) (fun cdv A outer s H vs Q E hr h => ?_)
  · obtain ⟨z0, rfl, q⟩ := h; rfl
  · refine ⟨rd_law K C_Scene (S_Scene_init C_Scene) (S_at K) (S_handsby) (S_kindby) (S_rowby) (S_sscene C_Scene C_Kind C_First C_Each C_Last) (S_textof) (S_kind_of C_Kind C_First C_Each C_Last) (S_read C_Scene C_Kind C_First C_Each C_Last) (S_written C_Scene C_Kind C_First C_Each C_Last), (pss_cons (ps_set (i := 1) sc.nd rfl (Or.inl rfl) (pe_op op_mod (pe_op G.op_mulB (pe_op op_add (pe_call G__law_cell_at (hr.mono (by decide)) rfl T.m__law_cell_at k__law_cell_at b__law_cell_at .nil G.passE0 (pa_cons (pv 0) (pa_cons (pe_int) pa_nil))) (pe_int)) (pe_int)) (pe_int)))
      (pss_cons (ps_set (i := 2) sc.nd rfl (Or.inr rfl) (pe_call G__law_hands_by (hr.mono (by decide)) rfl T.m__law_hands_by k__law_hands_by b__law_hands_by .nil G.passE0 (pa_cons (pv 1) (pa_cons (pe_call G__law_cell_at (hr.mono (by decide)) rfl T.m__law_cell_at k__law_cell_at b__law_cell_at .nil G.passE0 (pa_cons (pv 0) (pa_cons (pe_int) pa_nil))) pa_nil))))
      (pss_cons (ps_set (i := 3) sc.nd rfl (Or.inl rfl) (pe_op op_add (pe_int) (pe_op op_mod (pe_call G__law_cell_at (hr.mono (by decide)) rfl T.m__law_cell_at k__law_cell_at b__law_cell_at .nil G.passE0 (pa_cons (pv 0) (pa_cons (pe_int) pa_nil))) (pe_op op_sub (pe_op op_pow (pe_int) (pe_int)) (pe_int)))))
      (pss_cons (ps_set (i := 4) sc.nd rfl (Or.inl rfl) (pe_call G__law_kind_by (hr.mono (by decide)) rfl T.m__law_kind_by k__law_kind_by b__law_kind_by .nil G.passE0 (pa_cons (pe_call G__law_cell_at (hr.mono (by decide)) rfl T.m__law_cell_at k__law_cell_at b__law_cell_at .nil G.passE0 (pa_cons (pv 0) (pa_cons (pe_int) pa_nil))) pa_nil)))
      (pss_cons (G.ps_lcset2 (iz := 5) (cns := ["_law_hands"]) [2] (G.pi_enum rfl T.z_enumerate (pa_cons (pe_slice sl_list (pv 0) (po_some (pe_int)) (po_some (pe_int))) pa_nil)) (fun _ _ _ _ _ => G.pf_nil) (fun _ _ _ _ _ => (pe_call G__law_row_by (hr.mono (by decide)) rfl T.m__law_row_by k__law_row_by b__law_row_by .nil G.passE0 (pa_cons (pv 1) (pa_cons (pv 0) (pa_cons (pv 2) pa_nil))))) rfl rfl (by repeat (first | exact trivial | refine ⟨rfl, ?_⟩)) (by repeat (first | exact trivial | refine ⟨rfl, ?_⟩)) rfl (by decide +kernel) rfl (by decide +kernel) (by decide +kernel) rfl rfl (by decide +kernel) sc.nd rfl (Or.inl rfl) (Or.inr rfl) rfl)
      (pss_cons (ps_set (i := 6) sc.nd rfl (Or.inl rfl) (pe_lst (pa_cons (pe_op op_add_str (pe_str) (pe_callTy G.call_strI (by rfl) T.z_str G.boot_str (pa_cons (pv 3) pa_nil))) (pa_cons (pe_op op_add_str (pe_str) (pv 4)) pa_nil))))
      (pss_cons (ps_for PassesOwn.never rfl (pi_list (pv 2)) (pg_tup rfl (pgs_cons (pg_name (i := 7) sc.nd rfl (Or.inl rfl)) (pgs_cons (pg_name (i := 8) sc.nd rfl (Or.inl rfl)) pgs_nil)))
      (pss_one (ps_expr (pe_bm PySem.F.plainAttrs_list PySem.F.slot_list_append PySem.F.type_list_append mt_append (pv 6) (pa_cons (pe_op op_add_str (pe_op op_add_str (pe_op op_add_str (pe_str) (pv 7)) (pe_str)) (pe_callTy G.call_strI (by rfl) T.z_str G.boot_str (pa_cons (pv 8) pa_nil))) pa_nil)))))
      (pss_cons (ps_expr (pe_bm PySem.F.plainAttrs_list PySem.F.slot_list_append PySem.F.type_list_append mt_append (pv 6) (pa_cons (pe_str) pa_nil)))
      (pss_cons (ps_for PassesOwn.never rfl (pi_list (pv 5)) (pg_name (i := 9) sc.nd rfl (Or.inl rfl))
      (pss_one (ps_expr (pe_bm PySem.F.plainAttrs_list PySem.F.slot_list_append PySem.F.type_list_append mt_append (pv 6) (pa_cons (pe_call G__law_text_of (hr.mono (by decide)) rfl T.m__law_text_of k__law_text_of b__law_text_of .nil G.passE0 (pa_cons (pv 9) (pa_cons (pv 2) pa_nil))) pa_nil)))))
      (pss_cons (ps_set (i := 10) sc.nd rfl (Or.inl rfl) (pe_bm PySem.F.plainAttrs_str PySem.F.slot_str_join PySem.F.type_str_join G.mt_join (pe_str) (pa_cons (pv 6) pa_nil)))
      (pss_cons (ps_set (i := 11) sc.nd rfl (Or.inl rfl) (pe_make T.mk_Scene G_Scene___init__ (hr.mono (by decide)) rfl T.m_Scene b_Scene___init__ .nil G.passE0 (pa_cons (pv 3) (pa_cons (pe_call G_kind_of (hr.mono (by decide)) rfl T.m_kind_of k_kind_of b_kind_of .nil G.passE0 (pa_cons (pv 4) pa_nil)) (pa_cons (pe_callTy G.call_listL (by rfl) T.z_list G.boot_list (pa_cons (pv 2) pa_nil)) (pa_cons (pe_callTy G.call_listL (by rfl) T.z_list G.boot_list (pa_cons (pv 5) pa_nil)) pa_nil))))))
      (pss_cons (ps_set (i := 12) sc.nd rfl (Or.inl rfl) (pe_call G_written (hr.mono (by decide)) rfl T.m_written k_written b_written .nil G.passE0 (pa_cons (pv 11) pa_nil)))
      (pss_cons (ps_if (PW.pt (pw_or (pt_not (pt_val (pe_callB G.call_isi (by rfl) T.z_isinstance G.boot_isinstance (pa_cons (pv 12) (pa_cons (pe_bltn rfl T.z_str G.boot_str rfl) pa_nil))))) (pw_or (pt_cmpR op_ne (pv 12) (pv 10) (nomark _)) (pw_or1 (pt_not (pt_val (pe_call G__law_same_scene (hr.mono (by decide)) rfl T.m__law_same_scene k__law_same_scene b__law_same_scene .nil G.passE0 (pa_cons (pv 11) (pa_cons (pv 3) (pa_cons (pv 4) (pa_cons (pv 2) (pa_cons (pv 5) pa_nil)))))))))))) (pss_one (ps_ret (pe_bl))) pss_nil)
      (pss_cons (ps_set (i := 13) sc.nd rfl (Or.inl rfl) (pe_call G_read (hr.mono (by decide)) rfl T.m_read k_read b_read .nil G.passE0 (pa_cons (pv 12) pa_nil)))
      (pss_one (ps_ret ((pe_and (pe_call G__law_same_scene (hr.mono (by decide)) rfl T.m__law_same_scene k__law_same_scene b__law_same_scene .nil G.passE0 (pa_cons (pv 13) (pa_cons (pv 3) (pa_cons (pv 4) (pa_cons (pv 2) (pa_cons (pv 5) pa_nil)))))) (pe_one (pe_cmpR op_eq (pe_call G_written (hr.mono (by decide)) rfl T.m_written k_written b_written .nil G.passE0 (pa_cons (pv 13) pa_nil)) (pv 10) (nomark _))))))))))))))))))))), ?_⟩
    obtain ⟨z0, rfl, q⟩ := h
    exact law_rd tx q
end
theorem all_mk {l : PySem.W.OpenLaw} {w : World} {K : PySem.W.Frag} {h : Heap} {mg : Str → Option Value} {fa fl C_Scene C_First C_Each C_Last C_Kind C_FORMS_make C_FORMS_get C_FORMS_put C_FORMS_copy C_FORMS_drop C_FORMS_give C_FORMS_write C_FORMS_read C_FORMS_name C_FORMS_seek f_forms_of f_Scene___init__ f_written f_written_row f_written_part f_First_word f_Each_word f_Last_word f_Kind___init__ f_Kind_words f_kind_of f_made_of f_number_of f_load_of f_is_word f_read f_row_at f_well_formed f_number_between f_room_in f_kind_in f_hands_of f_hand_of f_names_of f_hand_in f_is_hand_name f_weave_of f_weave_row f_sweep_in f_told_in f_value_of f_with_hands f_look_at_slots f__law_cell_at f__law_whole f__law_safe f__law_hands_by f__law_kind_by f__law_word_by f__law_large f__law_row_by f__law_text_of f__law_same_row f__law_same_rows f__law_same_scene : Addr} (KI : K.In h) (GN : h.Ns mainGlobals mg) (hfa : mg "law" = some (.ref fa))
    {od1 an1 : Option Addr} {sl1 : Array (Option Value)} {oc1 kV1 dc1 pm1 cd1 ct1 : Value}
    {od2 an2 : Option Addr} {sl2 : Array (Option Value)} {oc2 kV2 dc2 pm2 cd2 ct2 : Value}
    {od3 an3 : Option Addr} {sl3 : Array (Option Value)} {oc3 kV3 dc3 pm3 cd3 ct3 : Value}
    {od4 an4 : Option Addr} {sl4 : Array (Option Value)} {oc4 kV4 dc4 pm4 cd4 ct4 : Value}
    {od5 an5 : Option Addr} {sl5 : Array (Option Value)} {oc5 kV5 dc5 pm5 cd5 ct5 : Value}
    {od6 an6 : Option Addr} {sl6 : Array (Option Value)} {oc6 kV6 dc6 pm6 cd6 ct6 : Value}
    {od7 an7 : Option Addr} {sl7 : Array (Option Value)} {oc7 kV7 dc7 pm7 cd7 ct7 : Value}
    {od8 an8 : Option Addr} {sl8 : Array (Option Value)} {oc8 kV8 dc8 pm8 cd8 ct8 : Value}
    {od9 an9 : Option Addr} {sl9 : Array (Option Value)} {oc9 kV9 dc9 pm9 cd9 ct9 : Value}
    {od10 an10 : Option Addr} {sl10 : Array (Option Value)} {oc10 kV10 dc10 pm10 cd10 ct10 : Value}
    {od11 an11 : Option Addr} {sl11 : Array (Option Value)} {oc11 kV11 dc11 pm11 cd11 ct11 : Value}
    {od12 an12 : Option Addr} {sl12 : Array (Option Value)} {oc12 kV12 dc12 pm12 cd12 ct12 : Value}
    {od13 an13 : Option Addr} {sl13 : Array (Option Value)} {oc13 kV13 dc13 pm13 cd13 ct13 : Value}
    {td13 : Addr} {tc13 : Value} {to13 : Option Addr} {tn13 : Nat} {ts13 : Array (Option Value)} {dv13_0 : Value}
    {od14 an14 : Option Addr} {sl14 : Array (Option Value)} {oc14 kV14 dc14 pm14 cd14 ct14 : Value}
    {od15 an15 : Option Addr} {sl15 : Array (Option Value)} {oc15 kV15 dc15 pm15 cd15 ct15 : Value}
    {od16 an16 : Option Addr} {sl16 : Array (Option Value)} {oc16 kV16 dc16 pm16 cd16 ct16 : Value}
    {od17 an17 : Option Addr} {sl17 : Array (Option Value)} {oc17 kV17 dc17 pm17 cd17 ct17 : Value}
    {od18 an18 : Option Addr} {sl18 : Array (Option Value)} {oc18 kV18 dc18 pm18 cd18 ct18 : Value}
    {od19 an19 : Option Addr} {sl19 : Array (Option Value)} {oc19 kV19 dc19 pm19 cd19 ct19 : Value}
    {od20 an20 : Option Addr} {sl20 : Array (Option Value)} {oc20 kV20 dc20 pm20 cd20 ct20 : Value}
    {od21 an21 : Option Addr} {sl21 : Array (Option Value)} {oc21 kV21 dc21 pm21 cd21 ct21 : Value}
    {od22 an22 : Option Addr} {sl22 : Array (Option Value)} {oc22 kV22 dc22 pm22 cd22 ct22 : Value}
    {od23 an23 : Option Addr} {sl23 : Array (Option Value)} {oc23 kV23 dc23 pm23 cd23 ct23 : Value}
    {od24 an24 : Option Addr} {sl24 : Array (Option Value)} {oc24 kV24 dc24 pm24 cd24 ct24 : Value}
    {od25 an25 : Option Addr} {sl25 : Array (Option Value)} {oc25 kV25 dc25 pm25 cd25 ct25 : Value}
    {od26 an26 : Option Addr} {sl26 : Array (Option Value)} {oc26 kV26 dc26 pm26 cd26 ct26 : Value}
    {od27 an27 : Option Addr} {sl27 : Array (Option Value)} {oc27 kV27 dc27 pm27 cd27 ct27 : Value}
    {od28 an28 : Option Addr} {sl28 : Array (Option Value)} {oc28 kV28 dc28 pm28 cd28 ct28 : Value}
    {od29 an29 : Option Addr} {sl29 : Array (Option Value)} {oc29 kV29 dc29 pm29 cd29 ct29 : Value}
    {od30 an30 : Option Addr} {sl30 : Array (Option Value)} {oc30 kV30 dc30 pm30 cd30 ct30 : Value}
    {od31 an31 : Option Addr} {sl31 : Array (Option Value)} {oc31 kV31 dc31 pm31 cd31 ct31 : Value}
    {od32 an32 : Option Addr} {sl32 : Array (Option Value)} {oc32 kV32 dc32 pm32 cd32 ct32 : Value}
    {od33 an33 : Option Addr} {sl33 : Array (Option Value)} {oc33 kV33 dc33 pm33 cd33 ct33 : Value}
    {od34 an34 : Option Addr} {sl34 : Array (Option Value)} {oc34 kV34 dc34 pm34 cd34 ct34 : Value}
    {od35 an35 : Option Addr} {sl35 : Array (Option Value)} {oc35 kV35 dc35 pm35 cd35 ct35 : Value}
    {od36 an36 : Option Addr} {sl36 : Array (Option Value)} {oc36 kV36 dc36 pm36 cd36 ct36 : Value}
    {od37 an37 : Option Addr} {sl37 : Array (Option Value)} {oc37 kV37 dc37 pm37 cd37 ct37 : Value}
    {od38 an38 : Option Addr} {sl38 : Array (Option Value)} {oc38 kV38 dc38 pm38 cd38 ct38 : Value}
    {od39 an39 : Option Addr} {sl39 : Array (Option Value)} {oc39 kV39 dc39 pm39 cd39 ct39 : Value}
    {od40 an40 : Option Addr} {sl40 : Array (Option Value)} {oc40 kV40 dc40 pm40 cd40 ct40 : Value}
    {od41 an41 : Option Addr} {sl41 : Array (Option Value)} {oc41 kV41 dc41 pm41 cd41 ct41 : Value}
    {od42 an42 : Option Addr} {sl42 : Array (Option Value)} {oc42 kV42 dc42 pm42 cd42 ct42 : Value}
    {od43 an43 : Option Addr} {sl43 : Array (Option Value)} {oc43 kV43 dc43 pm43 cd43 ct43 : Value}
    {od44 an44 : Option Addr} {sl44 : Array (Option Value)} {oc44 kV44 dc44 pm44 cd44 ct44 : Value}
    {od45 an45 : Option Addr} {sl45 : Array (Option Value)} {oc45 kV45 dc45 pm45 cd45 ct45 : Value}
    {od46 an46 : Option Addr} {sl46 : Array (Option Value)} {oc46 kV46 dc46 pm46 cd46 ct46 : Value}
    {dd_FORMS : Addr} {ep_FORMS : Nat} {hh_FORMS0 hh_FORMS1 hh_FORMS2 hh_FORMS3 hh_FORMS4 hh_FORMS5 hh_FORMS6 hh_FORMS7 hh_FORMS8 hh_FORMS9 : Int} {tk_FORMS0 tk_FORMS1 tk_FORMS2 tk_FORMS3 tk_FORMS4 tk_FORMS5 tk_FORMS6 tk_FORMS7 tk_FORMS8 tk_FORMS9 : Tok}
    {tn_FORMS_make : Nat} {tk_FORMS_make_0 tk_FORMS_make_1 tk_FORMS_make_2 tk_FORMS_make_3 : Tok}
    {tn_FORMS_get : Nat} {tk_FORMS_get_0 tk_FORMS_get_1 tk_FORMS_get_2 tk_FORMS_get_3 : Tok}
    {tn_FORMS_put : Nat} {tk_FORMS_put_0 tk_FORMS_put_1 tk_FORMS_put_2 tk_FORMS_put_3 : Tok}
    {tn_FORMS_copy : Nat} {tk_FORMS_copy_0 tk_FORMS_copy_1 tk_FORMS_copy_2 : Tok}
    {tn_FORMS_drop : Nat} {tk_FORMS_drop_0 tk_FORMS_drop_1 : Tok}
    {tn_FORMS_give : Nat} {tk_FORMS_give_0 tk_FORMS_give_1 tk_FORMS_give_2 tk_FORMS_give_3 : Tok}
    {tn_FORMS_write : Nat} {tk_FORMS_write_0 tk_FORMS_write_1 tk_FORMS_write_2 : Tok}
    {tn_FORMS_read : Nat} {tk_FORMS_read_0 tk_FORMS_read_1 : Tok}
    {tn_FORMS_name : Nat} {tk_FORMS_name_0 tk_FORMS_name_1 tk_FORMS_name_2 : Tok}
    {tn_FORMS_seek : Nat} {tk_FORMS_seek_0 tk_FORMS_seek_1 tk_FORMS_seek_2 : Tok}
    {dd_MOST : Addr} {ep_MOST : Nat} {hh_MOST0 hh_MOST1 hh_MOST2 hh_MOST3 : Int} {tk_MOST0 tk_MOST1 tk_MOST2 tk_MOST3 : Tok}
    {ik_MOST0 ik_MOST1 ik_MOST2 ik_MOST3 : Tok}
    {u_FIGURES : Value}
    {u_FIRST_HAND : Value}
    {u_LEAST_ROOM : Value}
    {u_LEAST_SLOTS : Value}
    {u_LEAST_STEPS : Value}
    {u_LETTERS : Value}
    {u_MOST_FIGURES : Value}
    {u_MOST_HANDS : Value}
    {u_MOST_LETTERS : Value}
    {u_MOST_ROOM : Value}
    {u_MOST_ROWS : Value}
    {u_MOST_SLOTS : Value}
    {u_MOST_STEPS : Value}
    {u_NEW : Value}
    {u_OLD : Value}
    {u_SWEEP : Value}
    (a_Scene : PySem.W.nsIn K mainGlobals "Scene" = some (some (.ref C_Scene)))
    (a_First : PySem.W.nsIn K mainGlobals "First" = some (some (.ref C_First)))
    (a_Each : PySem.W.nsIn K mainGlobals "Each" = some (some (.ref C_Each)))
    (a_Last : PySem.W.nsIn K mainGlobals "Last" = some (some (.ref C_Last)))
    (a_Kind : PySem.W.nsIn K mainGlobals "Kind" = some (some (.ref C_Kind)))
    (a1 : PySem.W.nsIn K mainGlobals "forms_of" = some (some (.ref f_forms_of)))
    (l1 : K.lookup f_forms_of = some ⟨oc1, od1, .func (PySem.W.fnOf "forms_of" "forms_of" (defArgs s_forms_of) (defBody s_forms_of) (defScope s_forms_of) .none kV1 dc1 pm1 an1 cd1 ct1), sl1⟩)
    (c1 : PySem.W.codeIn K cd1 "forms_of" = true)
    (k1 : PySem.W.keepIn K (.ref f_forms_of) = true)
    (a2 : PySem.W.findIn K (.ref C_Scene) "__init__" = some (some (.ref f_Scene___init__)))
    (i2 : PySem.W.isFn K (.ref f_Scene___init__) = true)
    (l2 : K.lookup f_Scene___init__ = some ⟨oc2, od2, .func (PySem.W.fnOf "__init__" "Scene.__init__" (defArgs s_Scene___init__) (defBody s_Scene___init__) (defScope s_Scene___init__) .none kV2 dc2 pm2 an2 cd2 ct2), sl2⟩)
    (c2 : PySem.W.codeIn K cd2 "Scene.__init__" = true)
    (k2 : PySem.W.keepIn K (.ref f_Scene___init__) = true)
    (a3 : PySem.W.nsIn K mainGlobals "written" = some (some (.ref f_written)))
    (l3 : K.lookup f_written = some ⟨oc3, od3, .func (PySem.W.fnOf "written" "written" (defArgs s_written) (defBody s_written) (defScope s_written) .none kV3 dc3 pm3 an3 cd3 ct3), sl3⟩)
    (c3 : PySem.W.codeIn K cd3 "written" = true)
    (k3 : PySem.W.keepIn K (.ref f_written) = true)
    (a4 : PySem.W.nsIn K mainGlobals "written_row" = some (some (.ref f_written_row)))
    (l4 : K.lookup f_written_row = some ⟨oc4, od4, .func (PySem.W.fnOf "written_row" "written_row" (defArgs s_written_row) (defBody s_written_row) (defScope s_written_row) .none kV4 dc4 pm4 an4 cd4 ct4), sl4⟩)
    (c4 : PySem.W.codeIn K cd4 "written_row" = true)
    (k4 : PySem.W.keepIn K (.ref f_written_row) = true)
    (a5 : PySem.W.nsIn K mainGlobals "written_part" = some (some (.ref f_written_part)))
    (l5 : K.lookup f_written_part = some ⟨oc5, od5, .func (PySem.W.fnOf "written_part" "written_part" (defArgs s_written_part) (defBody s_written_part) (defScope s_written_part) .none kV5 dc5 pm5 an5 cd5 ct5), sl5⟩)
    (c5 : PySem.W.codeIn K cd5 "written_part" = true)
    (k5 : PySem.W.keepIn K (.ref f_written_part) = true)
    (a6 : PySem.W.findIn K (.ref C_First) "word" = some (some (.ref f_First_word)))
    (i6 : PySem.W.isFn K (.ref f_First_word) = true)
    (l6 : K.lookup f_First_word = some ⟨oc6, od6, .func (PySem.W.fnOf "word" "First.word" (defArgs s_First_word) (defBody s_First_word) (defScope s_First_word) .none kV6 dc6 pm6 an6 cd6 ct6), sl6⟩)
    (c6 : PySem.W.codeIn K cd6 "First.word" = true)
    (k6 : PySem.W.keepIn K (.ref f_First_word) = true)
    (a7 : PySem.W.findIn K (.ref C_Each) "word" = some (some (.ref f_Each_word)))
    (i7 : PySem.W.isFn K (.ref f_Each_word) = true)
    (l7 : K.lookup f_Each_word = some ⟨oc7, od7, .func (PySem.W.fnOf "word" "Each.word" (defArgs s_Each_word) (defBody s_Each_word) (defScope s_Each_word) .none kV7 dc7 pm7 an7 cd7 ct7), sl7⟩)
    (c7 : PySem.W.codeIn K cd7 "Each.word" = true)
    (k7 : PySem.W.keepIn K (.ref f_Each_word) = true)
    (a8 : PySem.W.findIn K (.ref C_Last) "word" = some (some (.ref f_Last_word)))
    (i8 : PySem.W.isFn K (.ref f_Last_word) = true)
    (l8 : K.lookup f_Last_word = some ⟨oc8, od8, .func (PySem.W.fnOf "word" "Last.word" (defArgs s_Last_word) (defBody s_Last_word) (defScope s_Last_word) .none kV8 dc8 pm8 an8 cd8 ct8), sl8⟩)
    (c8 : PySem.W.codeIn K cd8 "Last.word" = true)
    (k8 : PySem.W.keepIn K (.ref f_Last_word) = true)
    (a9 : PySem.W.findIn K (.ref C_Kind) "__init__" = some (some (.ref f_Kind___init__)))
    (i9 : PySem.W.isFn K (.ref f_Kind___init__) = true)
    (l9 : K.lookup f_Kind___init__ = some ⟨oc9, od9, .func (PySem.W.fnOf "__init__" "Kind.__init__" (defArgs s_Kind___init__) (defBody s_Kind___init__) (defScope s_Kind___init__) .none kV9 dc9 pm9 an9 cd9 ct9), sl9⟩)
    (c9 : PySem.W.codeIn K cd9 "Kind.__init__" = true)
    (k9 : PySem.W.keepIn K (.ref f_Kind___init__) = true)
    (a10 : PySem.W.findIn K (.ref C_Kind) "words" = some (some (.ref f_Kind_words)))
    (i10 : PySem.W.isFn K (.ref f_Kind_words) = true)
    (l10 : K.lookup f_Kind_words = some ⟨oc10, od10, .func (PySem.W.fnOf "words" "Kind.words" (defArgs s_Kind_words) (defBody s_Kind_words) (defScope s_Kind_words) .none kV10 dc10 pm10 an10 cd10 ct10), sl10⟩)
    (c10 : PySem.W.codeIn K cd10 "Kind.words" = true)
    (k10 : PySem.W.keepIn K (.ref f_Kind_words) = true)
    (a11 : PySem.W.nsIn K mainGlobals "kind_of" = some (some (.ref f_kind_of)))
    (l11 : K.lookup f_kind_of = some ⟨oc11, od11, .func (PySem.W.fnOf "kind_of" "kind_of" (defArgs s_kind_of) (defBody s_kind_of) (defScope s_kind_of) .none kV11 dc11 pm11 an11 cd11 ct11), sl11⟩)
    (c11 : PySem.W.codeIn K cd11 "kind_of" = true)
    (k11 : PySem.W.keepIn K (.ref f_kind_of) = true)
    (a12 : PySem.W.nsIn K mainGlobals "made_of" = some (some (.ref f_made_of)))
    (l12 : K.lookup f_made_of = some ⟨oc12, od12, .func (PySem.W.fnOf "made_of" "made_of" (defArgs s_made_of) (defBody s_made_of) (defScope s_made_of) .none kV12 dc12 pm12 an12 cd12 ct12), sl12⟩)
    (c12 : PySem.W.codeIn K cd12 "made_of" = true)
    (k12 : PySem.W.keepIn K (.ref f_made_of) = true)
    (a13 : PySem.W.nsIn K mainGlobals "number_of" = some (some (.ref f_number_of)))
    (l13 : K.lookup f_number_of = some ⟨oc13, od13, .func (PySem.W.fnOf "number_of" "number_of" (defArgs s_number_of) (defBody s_number_of) (defScope s_number_of) (.ref td13) kV13 dc13 pm13 an13 cd13 ct13), sl13⟩)
    (t13 : K.lookup td13 = some ⟨tc13, to13, .seq #[dv13_0] tn13, ts13⟩)
    (dr13_0 : RelV .non dv13_0)
    (c13 : PySem.W.codeIn K cd13 "number_of" = true)
    (k13 : PySem.W.keepIn K (.ref f_number_of) = true)
    (a14 : PySem.W.nsIn K mainGlobals "load_of" = some (some (.ref f_load_of)))
    (l14 : K.lookup f_load_of = some ⟨oc14, od14, .func (PySem.W.fnOf "load_of" "load_of" (defArgs s_load_of) (defBody s_load_of) (defScope s_load_of) .none kV14 dc14 pm14 an14 cd14 ct14), sl14⟩)
    (c14 : PySem.W.codeIn K cd14 "load_of" = true)
    (k14 : PySem.W.keepIn K (.ref f_load_of) = true)
    (a15 : PySem.W.nsIn K mainGlobals "is_word" = some (some (.ref f_is_word)))
    (l15 : K.lookup f_is_word = some ⟨oc15, od15, .func (PySem.W.fnOf "is_word" "is_word" (defArgs s_is_word) (defBody s_is_word) (defScope s_is_word) .none kV15 dc15 pm15 an15 cd15 ct15), sl15⟩)
    (c15 : PySem.W.codeIn K cd15 "is_word" = true)
    (k15 : PySem.W.keepIn K (.ref f_is_word) = true)
    (a16 : PySem.W.nsIn K mainGlobals "read" = some (some (.ref f_read)))
    (l16 : K.lookup f_read = some ⟨oc16, od16, .func (PySem.W.fnOf "read" "read" (defArgs s_read) (defBody s_read) (defScope s_read) .none kV16 dc16 pm16 an16 cd16 ct16), sl16⟩)
    (c16 : PySem.W.codeIn K cd16 "read" = true)
    (k16 : PySem.W.keepIn K (.ref f_read) = true)
    (a17 : PySem.W.nsIn K mainGlobals "row_at" = some (some (.ref f_row_at)))
    (l17 : K.lookup f_row_at = some ⟨oc17, od17, .func (PySem.W.fnOf "row_at" "row_at" (defArgs s_row_at) (defBody s_row_at) (defScope s_row_at) .none kV17 dc17 pm17 an17 cd17 ct17), sl17⟩)
    (c17 : PySem.W.codeIn K cd17 "row_at" = true)
    (k17 : PySem.W.keepIn K (.ref f_row_at) = true)
    (a18 : PySem.W.nsIn K mainGlobals "well_formed" = some (some (.ref f_well_formed)))
    (l18 : K.lookup f_well_formed = some ⟨oc18, od18, .func (PySem.W.fnOf "well_formed" "well_formed" (defArgs s_well_formed) (defBody s_well_formed) (defScope s_well_formed) .none kV18 dc18 pm18 an18 cd18 ct18), sl18⟩)
    (c18 : PySem.W.codeIn K cd18 "well_formed" = true)
    (k18 : PySem.W.keepIn K (.ref f_well_formed) = true)
    (a19 : PySem.W.nsIn K mainGlobals "number_between" = some (some (.ref f_number_between)))
    (l19 : K.lookup f_number_between = some ⟨oc19, od19, .func (PySem.W.fnOf "number_between" "number_between" (defArgs s_number_between) (defBody s_number_between) (defScope s_number_between) .none kV19 dc19 pm19 an19 cd19 ct19), sl19⟩)
    (c19 : PySem.W.codeIn K cd19 "number_between" = true)
    (k19 : PySem.W.keepIn K (.ref f_number_between) = true)
    (a20 : PySem.W.nsIn K mainGlobals "room_in" = some (some (.ref f_room_in)))
    (l20 : K.lookup f_room_in = some ⟨oc20, od20, .func (PySem.W.fnOf "room_in" "room_in" (defArgs s_room_in) (defBody s_room_in) (defScope s_room_in) .none kV20 dc20 pm20 an20 cd20 ct20), sl20⟩)
    (c20 : PySem.W.codeIn K cd20 "room_in" = true)
    (k20 : PySem.W.keepIn K (.ref f_room_in) = true)
    (a21 : PySem.W.nsIn K mainGlobals "kind_in" = some (some (.ref f_kind_in)))
    (l21 : K.lookup f_kind_in = some ⟨oc21, od21, .func (PySem.W.fnOf "kind_in" "kind_in" (defArgs s_kind_in) (defBody s_kind_in) (defScope s_kind_in) .none kV21 dc21 pm21 an21 cd21 ct21), sl21⟩)
    (c21 : PySem.W.codeIn K cd21 "kind_in" = true)
    (k21 : PySem.W.keepIn K (.ref f_kind_in) = true)
    (a22 : PySem.W.nsIn K mainGlobals "hands_of" = some (some (.ref f_hands_of)))
    (l22 : K.lookup f_hands_of = some ⟨oc22, od22, .func (PySem.W.fnOf "hands_of" "hands_of" (defArgs s_hands_of) (defBody s_hands_of) (defScope s_hands_of) .none kV22 dc22 pm22 an22 cd22 ct22), sl22⟩)
    (c22 : PySem.W.codeIn K cd22 "hands_of" = true)
    (k22 : PySem.W.keepIn K (.ref f_hands_of) = true)
    (a23 : PySem.W.nsIn K mainGlobals "hand_of" = some (some (.ref f_hand_of)))
    (l23 : K.lookup f_hand_of = some ⟨oc23, od23, .func (PySem.W.fnOf "hand_of" "hand_of" (defArgs s_hand_of) (defBody s_hand_of) (defScope s_hand_of) .none kV23 dc23 pm23 an23 cd23 ct23), sl23⟩)
    (c23 : PySem.W.codeIn K cd23 "hand_of" = true)
    (k23 : PySem.W.keepIn K (.ref f_hand_of) = true)
    (a24 : PySem.W.nsIn K mainGlobals "names_of" = some (some (.ref f_names_of)))
    (l24 : K.lookup f_names_of = some ⟨oc24, od24, .func (PySem.W.fnOf "names_of" "names_of" (defArgs s_names_of) (defBody s_names_of) (defScope s_names_of) .none kV24 dc24 pm24 an24 cd24 ct24), sl24⟩)
    (c24 : PySem.W.codeIn K cd24 "names_of" = true)
    (k24 : PySem.W.keepIn K (.ref f_names_of) = true)
    (a25 : PySem.W.nsIn K mainGlobals "hand_in" = some (some (.ref f_hand_in)))
    (l25 : K.lookup f_hand_in = some ⟨oc25, od25, .func (PySem.W.fnOf "hand_in" "hand_in" (defArgs s_hand_in) (defBody s_hand_in) (defScope s_hand_in) .none kV25 dc25 pm25 an25 cd25 ct25), sl25⟩)
    (c25 : PySem.W.codeIn K cd25 "hand_in" = true)
    (k25 : PySem.W.keepIn K (.ref f_hand_in) = true)
    (a26 : PySem.W.nsIn K mainGlobals "is_hand_name" = some (some (.ref f_is_hand_name)))
    (l26 : K.lookup f_is_hand_name = some ⟨oc26, od26, .func (PySem.W.fnOf "is_hand_name" "is_hand_name" (defArgs s_is_hand_name) (defBody s_is_hand_name) (defScope s_is_hand_name) .none kV26 dc26 pm26 an26 cd26 ct26), sl26⟩)
    (c26 : PySem.W.codeIn K cd26 "is_hand_name" = true)
    (k26 : PySem.W.keepIn K (.ref f_is_hand_name) = true)
    (a27 : PySem.W.nsIn K mainGlobals "weave_of" = some (some (.ref f_weave_of)))
    (l27 : K.lookup f_weave_of = some ⟨oc27, od27, .func (PySem.W.fnOf "weave_of" "weave_of" (defArgs s_weave_of) (defBody s_weave_of) (defScope s_weave_of) .none kV27 dc27 pm27 an27 cd27 ct27), sl27⟩)
    (c27 : PySem.W.codeIn K cd27 "weave_of" = true)
    (k27 : PySem.W.keepIn K (.ref f_weave_of) = true)
    (a28 : PySem.W.nsIn K mainGlobals "weave_row" = some (some (.ref f_weave_row)))
    (l28 : K.lookup f_weave_row = some ⟨oc28, od28, .func (PySem.W.fnOf "weave_row" "weave_row" (defArgs s_weave_row) (defBody s_weave_row) (defScope s_weave_row) .none kV28 dc28 pm28 an28 cd28 ct28), sl28⟩)
    (c28 : PySem.W.codeIn K cd28 "weave_row" = true)
    (k28 : PySem.W.keepIn K (.ref f_weave_row) = true)
    (a29 : PySem.W.nsIn K mainGlobals "sweep_in" = some (some (.ref f_sweep_in)))
    (l29 : K.lookup f_sweep_in = some ⟨oc29, od29, .func (PySem.W.fnOf "sweep_in" "sweep_in" (defArgs s_sweep_in) (defBody s_sweep_in) (defScope s_sweep_in) .none kV29 dc29 pm29 an29 cd29 ct29), sl29⟩)
    (c29 : PySem.W.codeIn K cd29 "sweep_in" = true)
    (k29 : PySem.W.keepIn K (.ref f_sweep_in) = true)
    (a30 : PySem.W.nsIn K mainGlobals "told_in" = some (some (.ref f_told_in)))
    (l30 : K.lookup f_told_in = some ⟨oc30, od30, .func (PySem.W.fnOf "told_in" "told_in" (defArgs s_told_in) (defBody s_told_in) (defScope s_told_in) .none kV30 dc30 pm30 an30 cd30 ct30), sl30⟩)
    (c30 : PySem.W.codeIn K cd30 "told_in" = true)
    (k30 : PySem.W.keepIn K (.ref f_told_in) = true)
    (a31 : PySem.W.nsIn K mainGlobals "value_of" = some (some (.ref f_value_of)))
    (l31 : K.lookup f_value_of = some ⟨oc31, od31, .func (PySem.W.fnOf "value_of" "value_of" (defArgs s_value_of) (defBody s_value_of) (defScope s_value_of) .none kV31 dc31 pm31 an31 cd31 ct31), sl31⟩)
    (c31 : PySem.W.codeIn K cd31 "value_of" = true)
    (k31 : PySem.W.keepIn K (.ref f_value_of) = true)
    (a32 : PySem.W.nsIn K mainGlobals "with_hands" = some (some (.ref f_with_hands)))
    (l32 : K.lookup f_with_hands = some ⟨oc32, od32, .func (PySem.W.fnOf "with_hands" "with_hands" (defArgs s_with_hands) (defBody s_with_hands) (defScope s_with_hands) .none kV32 dc32 pm32 an32 cd32 ct32), sl32⟩)
    (c32 : PySem.W.codeIn K cd32 "with_hands" = true)
    (k32 : PySem.W.keepIn K (.ref f_with_hands) = true)
    (a33 : PySem.W.nsIn K mainGlobals "look_at_slots" = some (some (.ref f_look_at_slots)))
    (l33 : K.lookup f_look_at_slots = some ⟨oc33, od33, .func (PySem.W.fnOf "look_at_slots" "look_at_slots" (defArgs s_look_at_slots) (defBody s_look_at_slots) (defScope s_look_at_slots) .none kV33 dc33 pm33 an33 cd33 ct33), sl33⟩)
    (c33 : PySem.W.codeIn K cd33 "look_at_slots" = true)
    (k33 : PySem.W.keepIn K (.ref f_look_at_slots) = true)
    (a34 : PySem.W.nsIn K mainGlobals "_law_cell_at" = some (some (.ref f__law_cell_at)))
    (l34 : K.lookup f__law_cell_at = some ⟨oc34, od34, .func (PySem.W.fnOf "_law_cell_at" "_law_cell_at" (defArgs s__law_cell_at) (defBody s__law_cell_at) (defScope s__law_cell_at) .none kV34 dc34 pm34 an34 cd34 ct34), sl34⟩)
    (c34 : PySem.W.codeIn K cd34 "_law_cell_at" = true)
    (k34 : PySem.W.keepIn K (.ref f__law_cell_at) = true)
    (a35 : PySem.W.nsIn K mainGlobals "_law_whole" = some (some (.ref f__law_whole)))
    (l35 : K.lookup f__law_whole = some ⟨oc35, od35, .func (PySem.W.fnOf "_law_whole" "_law_whole" (defArgs s__law_whole) (defBody s__law_whole) (defScope s__law_whole) .none kV35 dc35 pm35 an35 cd35 ct35), sl35⟩)
    (c35 : PySem.W.codeIn K cd35 "_law_whole" = true)
    (k35 : PySem.W.keepIn K (.ref f__law_whole) = true)
    (a36 : PySem.W.nsIn K mainGlobals "_law_safe" = some (some (.ref f__law_safe)))
    (l36 : K.lookup f__law_safe = some ⟨oc36, od36, .func (PySem.W.fnOf "_law_safe" "_law_safe" (defArgs s__law_safe) (defBody s__law_safe) (defScope s__law_safe) .none kV36 dc36 pm36 an36 cd36 ct36), sl36⟩)
    (c36 : PySem.W.codeIn K cd36 "_law_safe" = true)
    (k36 : PySem.W.keepIn K (.ref f__law_safe) = true)
    (a37 : PySem.W.nsIn K mainGlobals "_law_hands_by" = some (some (.ref f__law_hands_by)))
    (l37 : K.lookup f__law_hands_by = some ⟨oc37, od37, .func (PySem.W.fnOf "_law_hands_by" "_law_hands_by" (defArgs s__law_hands_by) (defBody s__law_hands_by) (defScope s__law_hands_by) .none kV37 dc37 pm37 an37 cd37 ct37), sl37⟩)
    (c37 : PySem.W.codeIn K cd37 "_law_hands_by" = true)
    (k37 : PySem.W.keepIn K (.ref f__law_hands_by) = true)
    (a38 : PySem.W.nsIn K mainGlobals "_law_kind_by" = some (some (.ref f__law_kind_by)))
    (l38 : K.lookup f__law_kind_by = some ⟨oc38, od38, .func (PySem.W.fnOf "_law_kind_by" "_law_kind_by" (defArgs s__law_kind_by) (defBody s__law_kind_by) (defScope s__law_kind_by) .none kV38 dc38 pm38 an38 cd38 ct38), sl38⟩)
    (c38 : PySem.W.codeIn K cd38 "_law_kind_by" = true)
    (k38 : PySem.W.keepIn K (.ref f__law_kind_by) = true)
    (a39 : PySem.W.nsIn K mainGlobals "_law_word_by" = some (some (.ref f__law_word_by)))
    (l39 : K.lookup f__law_word_by = some ⟨oc39, od39, .func (PySem.W.fnOf "_law_word_by" "_law_word_by" (defArgs s__law_word_by) (defBody s__law_word_by) (defScope s__law_word_by) .none kV39 dc39 pm39 an39 cd39 ct39), sl39⟩)
    (c39 : PySem.W.codeIn K cd39 "_law_word_by" = true)
    (k39 : PySem.W.keepIn K (.ref f__law_word_by) = true)
    (a40 : PySem.W.nsIn K mainGlobals "_law_large" = some (some (.ref f__law_large)))
    (l40 : K.lookup f__law_large = some ⟨oc40, od40, .func (PySem.W.fnOf "_law_large" "_law_large" (defArgs s__law_large) (defBody s__law_large) (defScope s__law_large) .none kV40 dc40 pm40 an40 cd40 ct40), sl40⟩)
    (c40 : PySem.W.codeIn K cd40 "_law_large" = true)
    (k40 : PySem.W.keepIn K (.ref f__law_large) = true)
    (a41 : PySem.W.nsIn K mainGlobals "_law_row_by" = some (some (.ref f__law_row_by)))
    (l41 : K.lookup f__law_row_by = some ⟨oc41, od41, .func (PySem.W.fnOf "_law_row_by" "_law_row_by" (defArgs s__law_row_by) (defBody s__law_row_by) (defScope s__law_row_by) .none kV41 dc41 pm41 an41 cd41 ct41), sl41⟩)
    (c41 : PySem.W.codeIn K cd41 "_law_row_by" = true)
    (k41 : PySem.W.keepIn K (.ref f__law_row_by) = true)
    (a42 : PySem.W.nsIn K mainGlobals "_law_text_of" = some (some (.ref f__law_text_of)))
    (l42 : K.lookup f__law_text_of = some ⟨oc42, od42, .func (PySem.W.fnOf "_law_text_of" "_law_text_of" (defArgs s__law_text_of) (defBody s__law_text_of) (defScope s__law_text_of) .none kV42 dc42 pm42 an42 cd42 ct42), sl42⟩)
    (c42 : PySem.W.codeIn K cd42 "_law_text_of" = true)
    (k42 : PySem.W.keepIn K (.ref f__law_text_of) = true)
    (a43 : PySem.W.nsIn K mainGlobals "_law_same_row" = some (some (.ref f__law_same_row)))
    (l43 : K.lookup f__law_same_row = some ⟨oc43, od43, .func (PySem.W.fnOf "_law_same_row" "_law_same_row" (defArgs s__law_same_row) (defBody s__law_same_row) (defScope s__law_same_row) .none kV43 dc43 pm43 an43 cd43 ct43), sl43⟩)
    (c43 : PySem.W.codeIn K cd43 "_law_same_row" = true)
    (k43 : PySem.W.keepIn K (.ref f__law_same_row) = true)
    (a44 : PySem.W.nsIn K mainGlobals "_law_same_rows" = some (some (.ref f__law_same_rows)))
    (l44 : K.lookup f__law_same_rows = some ⟨oc44, od44, .func (PySem.W.fnOf "_law_same_rows" "_law_same_rows" (defArgs s__law_same_rows) (defBody s__law_same_rows) (defScope s__law_same_rows) .none kV44 dc44 pm44 an44 cd44 ct44), sl44⟩)
    (c44 : PySem.W.codeIn K cd44 "_law_same_rows" = true)
    (k44 : PySem.W.keepIn K (.ref f__law_same_rows) = true)
    (a45 : PySem.W.nsIn K mainGlobals "_law_same_scene" = some (some (.ref f__law_same_scene)))
    (l45 : K.lookup f__law_same_scene = some ⟨oc45, od45, .func (PySem.W.fnOf "_law_same_scene" "_law_same_scene" (defArgs s__law_same_scene) (defBody s__law_same_scene) (defScope s__law_same_scene) .none kV45 dc45 pm45 an45 cd45 ct45), sl45⟩)
    (c45 : PySem.W.codeIn K cd45 "_law_same_scene" = true)
    (k45 : PySem.W.keepIn K (.ref f__law_same_scene) = true)
    (a46 : PySem.W.nsIn K mainGlobals "law" = some (some (.ref fl)))
    (l46 : K.lookup fl = some ⟨oc46, od46, .func (PySem.W.fnOf "law" "law" (defArgs s_law) (defBody s_law) (defScope s_law) .none kV46 dc46 pm46 an46 cd46 ct46), sl46⟩)
    (c46 : PySem.W.codeIn K cd46 "law" = true)
    (k46 : PySem.W.keepIn K (.ref fl) = true)
    (nd_FORMS : PySem.W.nsIn K mainGlobals "FORMS" = some (some (.ref dd_FORMS)))
    (sm_FORMS : (dd_FORMS == sysModules) = false)
    (lk_FORMS : K.lookup dd_FORMS = some ⟨.type "dict", none, .dict #[⟨hh_FORMS0, .str "make" tk_FORMS0, .ref C_FORMS_make⟩, ⟨hh_FORMS1, .str "get" tk_FORMS1, .ref C_FORMS_get⟩, ⟨hh_FORMS2, .str "put" tk_FORMS2, .ref C_FORMS_put⟩, ⟨hh_FORMS3, .str "copy" tk_FORMS3, .ref C_FORMS_copy⟩, ⟨hh_FORMS4, .str "drop" tk_FORMS4, .ref C_FORMS_drop⟩, ⟨hh_FORMS5, .str "give" tk_FORMS5, .ref C_FORMS_give⟩, ⟨hh_FORMS6, .str "write" tk_FORMS6, .ref C_FORMS_write⟩, ⟨hh_FORMS7, .str "read" tk_FORMS7, .ref C_FORMS_read⟩, ⟨hh_FORMS8, .str "name" tk_FORMS8, .ref C_FORMS_name⟩, ⟨hh_FORMS9, .str "seek" tk_FORMS9, .ref C_FORMS_seek⟩] ep_FORMS, #[]⟩)
    (hx_FORMS0 : hh_FORMS0 = hashStr w "make")
    (hx_FORMS1 : hh_FORMS1 = hashStr w "get")
    (hx_FORMS2 : hh_FORMS2 = hashStr w "put")
    (hx_FORMS3 : hh_FORMS3 = hashStr w "copy")
    (hx_FORMS4 : hh_FORMS4 = hashStr w "drop")
    (hx_FORMS5 : hh_FORMS5 = hashStr w "give")
    (hx_FORMS6 : hh_FORMS6 = hashStr w "write")
    (hx_FORMS7 : hh_FORMS7 = hashStr w "read")
    (hx_FORMS8 : hh_FORMS8 = hashStr w "name")
    (hx_FORMS9 : hh_FORMS9 = hashStr w "seek")
    (lk_FORMS_make : K.lookup C_FORMS_make = some ⟨.type "tuple", none, .seq #[.str "hand" tk_FORMS_make_0, .str "slot" tk_FORMS_make_1, .str "many" tk_FORMS_make_2, .str "bulk" tk_FORMS_make_3] tn_FORMS_make, #[]⟩)
    (lk_FORMS_get : K.lookup C_FORMS_get = some ⟨.type "tuple", none, .seq #[.str "hand" tk_FORMS_get_0, .str "slot" tk_FORMS_get_1, .str "slot" tk_FORMS_get_2, .str "field" tk_FORMS_get_3] tn_FORMS_get, #[]⟩)
    (lk_FORMS_put : K.lookup C_FORMS_put = some ⟨.type "tuple", none, .seq #[.str "hand" tk_FORMS_put_0, .str "slot" tk_FORMS_put_1, .str "field" tk_FORMS_put_2, .str "slot" tk_FORMS_put_3] tn_FORMS_put, #[]⟩)
    (lk_FORMS_copy : K.lookup C_FORMS_copy = some ⟨.type "tuple", none, .seq #[.str "hand" tk_FORMS_copy_0, .str "slot" tk_FORMS_copy_1, .str "slot" tk_FORMS_copy_2] tn_FORMS_copy, #[]⟩)
    (lk_FORMS_drop : K.lookup C_FORMS_drop = some ⟨.type "tuple", none, .seq #[.str "hand" tk_FORMS_drop_0, .str "slot" tk_FORMS_drop_1] tn_FORMS_drop, #[]⟩)
    (lk_FORMS_give : K.lookup C_FORMS_give = some ⟨.type "tuple", none, .seq #[.str "hand" tk_FORMS_give_0, .str "slot" tk_FORMS_give_1, .str "hand" tk_FORMS_give_2, .str "slot" tk_FORMS_give_3] tn_FORMS_give, #[]⟩)
    (lk_FORMS_write : K.lookup C_FORMS_write = some ⟨.type "tuple", none, .seq #[.str "hand" tk_FORMS_write_0, .str "slot" tk_FORMS_write_1, .str "load" tk_FORMS_write_2] tn_FORMS_write, #[]⟩)
    (lk_FORMS_read : K.lookup C_FORMS_read = some ⟨.type "tuple", none, .seq #[.str "hand" tk_FORMS_read_0, .str "slot" tk_FORMS_read_1] tn_FORMS_read, #[]⟩)
    (lk_FORMS_name : K.lookup C_FORMS_name = some ⟨.type "tuple", none, .seq #[.str "hand" tk_FORMS_name_0, .str "slot" tk_FORMS_name_1, .str "word" tk_FORMS_name_2] tn_FORMS_name, #[]⟩)
    (lk_FORMS_seek : K.lookup C_FORMS_seek = some ⟨.type "tuple", none, .seq #[.str "hand" tk_FORMS_seek_0, .str "slot" tk_FORMS_seek_1, .str "word" tk_FORMS_seek_2] tn_FORMS_seek, #[]⟩)
    (nd_MOST : PySem.W.nsIn K mainGlobals "MOST" = some (some (.ref dd_MOST)))
    (sm_MOST : (dd_MOST == sysModules) = false)
    (lk_MOST : K.lookup dd_MOST = some ⟨.type "dict", none, .dict #[⟨hh_MOST0, .str "slot" tk_MOST0, .int 999 ik_MOST0⟩, ⟨hh_MOST1, .str "field" tk_MOST1, .int 999 ik_MOST1⟩, ⟨hh_MOST2, .str "many" tk_MOST2, .int 8 ik_MOST2⟩, ⟨hh_MOST3, .str "bulk" tk_MOST3, .int 1000000000000 ik_MOST3⟩] ep_MOST, #[]⟩)
    (hx_MOST0 : hh_MOST0 = hashStr w "slot")
    (hx_MOST1 : hh_MOST1 = hashStr w "field")
    (hx_MOST2 : hh_MOST2 = hashStr w "many")
    (hx_MOST3 : hh_MOST3 = hashStr w "bulk")
    (pg_Scene : PySem.W.plainGet K C_Scene Str.empty = true)
    (hd_Scene : PySem.W.hasDictIn K C_Scene = true)
    (po_Scene : PySem.W.plainOver K C_Scene = true)
    (sa_Scene : PySem.W.findIn K (.ref C_Scene) "__setattr__" = some (some (.builtin "object.__setattr__")))
    (mk_Scene : PySem.W.makesIn K C_Scene = true)
    (kc_Scene : PySem.W.keepIn K (.ref C_Scene) = true)
    (n_Scene_room : PySem.W.findIn K (.ref C_Scene) "room" = some none)
    (n_Scene_kind : PySem.W.findIn K (.ref C_Scene) "kind" = some none)
    (n_Scene_hands : PySem.W.findIn K (.ref C_Scene) "hands" = some none)
    (n_Scene_rows : PySem.W.findIn K (.ref C_Scene) "rows" = some none)
    (pg_First : PySem.W.plainGet K C_First Str.empty = true)
    (hd_First : PySem.W.hasDictIn K C_First = true)
    (po_First : PySem.W.plainOver K C_First = true)
    (sa_First : PySem.W.findIn K (.ref C_First) "__setattr__" = some (some (.builtin "object.__setattr__")))
    (mk_First : PySem.W.makesIn K C_First = true)
    (kc_First : PySem.W.keepIn K (.ref C_First) = true)
    (oi_First : PySem.W.findIn K (.ref C_First) "__init__" = some (some (.builtin "object.__init__")))
    (pg_Each : PySem.W.plainGet K C_Each Str.empty = true)
    (hd_Each : PySem.W.hasDictIn K C_Each = true)
    (po_Each : PySem.W.plainOver K C_Each = true)
    (sa_Each : PySem.W.findIn K (.ref C_Each) "__setattr__" = some (some (.builtin "object.__setattr__")))
    (mk_Each : PySem.W.makesIn K C_Each = true)
    (kc_Each : PySem.W.keepIn K (.ref C_Each) = true)
    (oi_Each : PySem.W.findIn K (.ref C_Each) "__init__" = some (some (.builtin "object.__init__")))
    (pg_Last : PySem.W.plainGet K C_Last Str.empty = true)
    (hd_Last : PySem.W.hasDictIn K C_Last = true)
    (po_Last : PySem.W.plainOver K C_Last = true)
    (sa_Last : PySem.W.findIn K (.ref C_Last) "__setattr__" = some (some (.builtin "object.__setattr__")))
    (mk_Last : PySem.W.makesIn K C_Last = true)
    (kc_Last : PySem.W.keepIn K (.ref C_Last) = true)
    (oi_Last : PySem.W.findIn K (.ref C_Last) "__init__" = some (some (.builtin "object.__init__")))
    (pg_Kind : PySem.W.plainGet K C_Kind Str.empty = true)
    (hd_Kind : PySem.W.hasDictIn K C_Kind = true)
    (po_Kind : PySem.W.plainOver K C_Kind = true)
    (sa_Kind : PySem.W.findIn K (.ref C_Kind) "__setattr__" = some (some (.builtin "object.__setattr__")))
    (mk_Kind : PySem.W.makesIn K C_Kind = true)
    (kc_Kind : PySem.W.keepIn K (.ref C_Kind) = true)
    (n_Kind_looking : PySem.W.findIn K (.ref C_Kind) "looking" = some none)
    (n_Kind_tells : PySem.W.findIn K (.ref C_Kind) "tells" = some none)
    (z_all : PySem.W.nsIn K mainGlobals "all" = some none)
    (z_bool : PySem.W.nsIn K mainGlobals "bool" = some none)
    (z_enumerate : PySem.W.nsIn K mainGlobals "enumerate" = some none)
    (z_int : PySem.W.nsIn K mainGlobals "int" = some none)
    (z_isinstance : PySem.W.nsIn K mainGlobals "isinstance" = some none)
    (z_len : PySem.W.nsIn K mainGlobals "len" = some none)
    (z_list : PySem.W.nsIn K mainGlobals "list" = some none)
    (z_range : PySem.W.nsIn K mainGlobals "range" = some none)
    (z_str : PySem.W.nsIn K mainGlobals "str" = some none)
    (z_tuple : PySem.W.nsIn K mainGlobals "tuple" = some none)
    (z_zip : PySem.W.nsIn K mainGlobals "zip" = some none)
    (gl_FIGURES : PySem.W.nsIn K mainGlobals "FIGURES" = some (some u_FIGURES))
    (gr_FIGURES : RelV (.str "0123456789") u_FIGURES)
    (gl_FIRST_HAND : PySem.W.nsIn K mainGlobals "FIRST_HAND" = some (some u_FIRST_HAND))
    (gr_FIRST_HAND : RelV (.int 3) u_FIRST_HAND)
    (gl_LEAST_ROOM : PySem.W.nsIn K mainGlobals "LEAST_ROOM" = some (some u_LEAST_ROOM))
    (gr_LEAST_ROOM : RelV (.int 4) u_LEAST_ROOM)
    (gl_LEAST_SLOTS : PySem.W.nsIn K mainGlobals "LEAST_SLOTS" = some (some u_LEAST_SLOTS))
    (gr_LEAST_SLOTS : RelV (.int 3) u_LEAST_SLOTS)
    (gl_LEAST_STEPS : PySem.W.nsIn K mainGlobals "LEAST_STEPS" = some (some u_LEAST_STEPS))
    (gr_LEAST_STEPS : RelV (.int 1) u_LEAST_STEPS)
    (gl_LETTERS : PySem.W.nsIn K mainGlobals "LETTERS" = some (some u_LETTERS))
    (gr_LETTERS : RelV (.str "abcdefghijklmnopqrstuvwxyz") u_LETTERS)
    (gl_MOST_FIGURES : PySem.W.nsIn K mainGlobals "MOST_FIGURES" = some (some u_MOST_FIGURES))
    (gr_MOST_FIGURES : RelV (.int 60) u_MOST_FIGURES)
    (gl_MOST_HANDS : PySem.W.nsIn K mainGlobals "MOST_HANDS" = some (some u_MOST_HANDS))
    (gr_MOST_HANDS : RelV (.int 5) u_MOST_HANDS)
    (gl_MOST_LETTERS : PySem.W.nsIn K mainGlobals "MOST_LETTERS" = some (some u_MOST_LETTERS))
    (gr_MOST_LETTERS : RelV (.int 12) u_MOST_LETTERS)
    (gl_MOST_ROOM : PySem.W.nsIn K mainGlobals "MOST_ROOM" = some (some u_MOST_ROOM))
    (gr_MOST_ROOM : RelV (.int 1000000000000000) u_MOST_ROOM)
    (gl_MOST_ROWS : PySem.W.nsIn K mainGlobals "MOST_ROWS" = some (some u_MOST_ROWS))
    (gr_MOST_ROWS : RelV (.int 400) u_MOST_ROWS)
    (gl_MOST_SLOTS : PySem.W.nsIn K mainGlobals "MOST_SLOTS" = some (some u_MOST_SLOTS))
    (gr_MOST_SLOTS : RelV (.int 9) u_MOST_SLOTS)
    (gl_MOST_STEPS : PySem.W.nsIn K mainGlobals "MOST_STEPS" = some (some u_MOST_STEPS))
    (gr_MOST_STEPS : RelV (.int 9999) u_MOST_STEPS)
    (gl_NEW : PySem.W.nsIn K mainGlobals "NEW" = some (some u_NEW))
    (gr_NEW : RelV (.int 2) u_NEW)
    (gl_OLD : PySem.W.nsIn K mainGlobals "OLD" = some (some u_OLD))
    (gr_OLD : RelV (.int 1) u_OLD)
    (gl_SWEEP : PySem.W.nsIn K mainGlobals "SWEEP" = some (some u_SWEEP))
    (gr_SWEEP : RelV (.str "sweep") u_SWEEP)
    : ∃ fd : FuncData, (∀ (s : Shared) (v : Value), BindsTo s fd ⟨[v], []⟩ [("_law_script", v)]) ∧ ∀ base : Heap, K.In base → base.Ns mainGlobals mg → FnOk l.prog w K mg base (G.CXe l.prog w) 9 fa fd ["_law_script"] (S_law K) := by
  have e := hfa.symm.trans (PySem.W.mg_of KI GN a46)
  cases e
  have T : Txt w K mg C_Scene C_First C_Each C_Last C_Kind C_FORMS_make C_FORMS_get C_FORMS_put C_FORMS_copy C_FORMS_drop C_FORMS_give C_FORMS_write C_FORMS_read C_FORMS_name C_FORMS_seek f_forms_of f_Scene___init__ f_written f_written_row f_written_part f_First_word f_Each_word f_Last_word f_Kind___init__ f_Kind_words f_kind_of f_made_of f_number_of f_load_of f_is_word f_read f_row_at f_well_formed f_number_between f_room_in f_kind_in f_hands_of f_hand_of f_names_of f_hand_in f_is_hand_name f_weave_of f_weave_row f_sweep_in f_told_in f_value_of f_with_hands f_look_at_slots f__law_cell_at f__law_whole f__law_safe f__law_hands_by f__law_kind_by f__law_word_by f__law_large f__law_row_by f__law_text_of f__law_same_row f__law_same_rows f__law_same_scene := {
    tabv_FORMS := ⟨dd_FORMS, _, _, ep_FORMS, PySem.W.mg_of KI GN nd_FORMS, sm_FORMS, lk_FORMS, ⟨rfl, rfl, rfl⟩, rfl, hx_FORMS0, ⟨tk_FORMS0, rfl⟩, rfl, hx_FORMS1, ⟨tk_FORMS1, rfl⟩, rfl, hx_FORMS2, ⟨tk_FORMS2, rfl⟩, rfl, hx_FORMS3, ⟨tk_FORMS3, rfl⟩, rfl, hx_FORMS4, ⟨tk_FORMS4, rfl⟩, rfl, hx_FORMS5, ⟨tk_FORMS5, rfl⟩, rfl, hx_FORMS6, ⟨tk_FORMS6, rfl⟩, rfl, hx_FORMS7, ⟨tk_FORMS7, rfl⟩, rfl, hx_FORMS8, ⟨tk_FORMS8, rfl⟩, rfl, hx_FORMS9, ⟨tk_FORMS9, rfl⟩, rfl, trivial⟩
    sq_FORMS_make := fun H => .inr ⟨_, _, _, lk_FORMS_make, rfl, rfl, by simp [sizeLine_eq], .cons ⟨_, rfl⟩ (.cons ⟨_, rfl⟩ (.cons ⟨_, rfl⟩ (.cons ⟨_, rfl⟩ .nil)))⟩
    sq_FORMS_get := fun H => .inr ⟨_, _, _, lk_FORMS_get, rfl, rfl, by simp [sizeLine_eq], .cons ⟨_, rfl⟩ (.cons ⟨_, rfl⟩ (.cons ⟨_, rfl⟩ (.cons ⟨_, rfl⟩ .nil)))⟩
    sq_FORMS_put := fun H => .inr ⟨_, _, _, lk_FORMS_put, rfl, rfl, by simp [sizeLine_eq], .cons ⟨_, rfl⟩ (.cons ⟨_, rfl⟩ (.cons ⟨_, rfl⟩ (.cons ⟨_, rfl⟩ .nil)))⟩
    sq_FORMS_copy := fun H => .inr ⟨_, _, _, lk_FORMS_copy, rfl, rfl, by simp [sizeLine_eq], .cons ⟨_, rfl⟩ (.cons ⟨_, rfl⟩ (.cons ⟨_, rfl⟩ .nil))⟩
    sq_FORMS_drop := fun H => .inr ⟨_, _, _, lk_FORMS_drop, rfl, rfl, by simp [sizeLine_eq], .cons ⟨_, rfl⟩ (.cons ⟨_, rfl⟩ .nil)⟩
    sq_FORMS_give := fun H => .inr ⟨_, _, _, lk_FORMS_give, rfl, rfl, by simp [sizeLine_eq], .cons ⟨_, rfl⟩ (.cons ⟨_, rfl⟩ (.cons ⟨_, rfl⟩ (.cons ⟨_, rfl⟩ .nil)))⟩
    sq_FORMS_write := fun H => .inr ⟨_, _, _, lk_FORMS_write, rfl, rfl, by simp [sizeLine_eq], .cons ⟨_, rfl⟩ (.cons ⟨_, rfl⟩ (.cons ⟨_, rfl⟩ .nil))⟩
    sq_FORMS_read := fun H => .inr ⟨_, _, _, lk_FORMS_read, rfl, rfl, by simp [sizeLine_eq], .cons ⟨_, rfl⟩ (.cons ⟨_, rfl⟩ .nil)⟩
    sq_FORMS_name := fun H => .inr ⟨_, _, _, lk_FORMS_name, rfl, rfl, by simp [sizeLine_eq], .cons ⟨_, rfl⟩ (.cons ⟨_, rfl⟩ (.cons ⟨_, rfl⟩ .nil))⟩
    sq_FORMS_seek := fun H => .inr ⟨_, _, _, lk_FORMS_seek, rfl, rfl, by simp [sizeLine_eq], .cons ⟨_, rfl⟩ (.cons ⟨_, rfl⟩ (.cons ⟨_, rfl⟩ .nil))⟩
    tabv_MOST := ⟨dd_MOST, _, _, ep_MOST, PySem.W.mg_of KI GN nd_MOST, sm_MOST, lk_MOST, ⟨rfl, rfl, rfl⟩, rfl, hx_MOST0, ⟨tk_MOST0, rfl⟩, ⟨_, rfl⟩, hx_MOST1, ⟨tk_MOST1, rfl⟩, ⟨_, rfl⟩, hx_MOST2, ⟨tk_MOST2, rfl⟩, ⟨_, rfl⟩, hx_MOST3, ⟨tk_MOST3, rfl⟩, ⟨_, rfl⟩, trivial⟩
    cl_Scene := ⟨pg_Scene, hd_Scene, po_Scene, sa_Scene⟩
    m_Scene := PySem.W.mg_of KI GN a_Scene
    mk_Scene := ⟨mk_Scene, a2, i2, kc_Scene⟩
    n_Scene_room := n_Scene_room
    n_Scene_kind := n_Scene_kind
    n_Scene_hands := n_Scene_hands
    n_Scene_rows := n_Scene_rows
    cl_First := ⟨pg_First, hd_First, po_First, sa_First⟩
    m_First := PySem.W.mg_of KI GN a_First
    mk0_First := ⟨mk_First, oi_First, kc_First⟩
    cl_Each := ⟨pg_Each, hd_Each, po_Each, sa_Each⟩
    m_Each := PySem.W.mg_of KI GN a_Each
    mk0_Each := ⟨mk_Each, oi_Each, kc_Each⟩
    cl_Last := ⟨pg_Last, hd_Last, po_Last, sa_Last⟩
    m_Last := PySem.W.mg_of KI GN a_Last
    mk0_Last := ⟨mk_Last, oi_Last, kc_Last⟩
    cl_Kind := ⟨pg_Kind, hd_Kind, po_Kind, sa_Kind⟩
    m_Kind := PySem.W.mg_of KI GN a_Kind
    mk_Kind := ⟨mk_Kind, a9, i9, kc_Kind⟩
    n_Kind_looking := n_Kind_looking
    n_Kind_tells := n_Kind_tells
    m_forms_of := PySem.W.mg_of KI GN a1
    me_Scene___init__ := ⟨a2, i2, k2⟩
    m_written := PySem.W.mg_of KI GN a3
    m_written_row := PySem.W.mg_of KI GN a4
    m_written_part := PySem.W.mg_of KI GN a5
    me_First_word := ⟨a6, i6, k6⟩
    me_Each_word := ⟨a7, i7, k7⟩
    me_Last_word := ⟨a8, i8, k8⟩
    me_Kind___init__ := ⟨a9, i9, k9⟩
    me_Kind_words := ⟨a10, i10, k10⟩
    m_kind_of := PySem.W.mg_of KI GN a11
    m_made_of := PySem.W.mg_of KI GN a12
    m_number_of := PySem.W.mg_of KI GN a13
    m_load_of := PySem.W.mg_of KI GN a14
    m_is_word := PySem.W.mg_of KI GN a15
    m_read := PySem.W.mg_of KI GN a16
    m_row_at := PySem.W.mg_of KI GN a17
    m_well_formed := PySem.W.mg_of KI GN a18
    m_number_between := PySem.W.mg_of KI GN a19
    m_room_in := PySem.W.mg_of KI GN a20
    m_kind_in := PySem.W.mg_of KI GN a21
    m_hands_of := PySem.W.mg_of KI GN a22
    m_hand_of := PySem.W.mg_of KI GN a23
    m_names_of := PySem.W.mg_of KI GN a24
    m_hand_in := PySem.W.mg_of KI GN a25
    m_is_hand_name := PySem.W.mg_of KI GN a26
    m_weave_of := PySem.W.mg_of KI GN a27
    m_weave_row := PySem.W.mg_of KI GN a28
    m_sweep_in := PySem.W.mg_of KI GN a29
    m_told_in := PySem.W.mg_of KI GN a30
    m_value_of := PySem.W.mg_of KI GN a31
    m_with_hands := PySem.W.mg_of KI GN a32
    m_look_at_slots := PySem.W.mg_of KI GN a33
    m__law_cell_at := PySem.W.mg_of KI GN a34
    m__law_whole := PySem.W.mg_of KI GN a35
    m__law_safe := PySem.W.mg_of KI GN a36
    m__law_hands_by := PySem.W.mg_of KI GN a37
    m__law_kind_by := PySem.W.mg_of KI GN a38
    m__law_word_by := PySem.W.mg_of KI GN a39
    m__law_large := PySem.W.mg_of KI GN a40
    m__law_row_by := PySem.W.mg_of KI GN a41
    m__law_text_of := PySem.W.mg_of KI GN a42
    m__law_same_row := PySem.W.mg_of KI GN a43
    m__law_same_rows := PySem.W.mg_of KI GN a44
    m__law_same_scene := PySem.W.mg_of KI GN a45
    z_all := PySem.W.mg_none_of KI GN z_all
    z_bool := PySem.W.mg_none_of KI GN z_bool
    z_enumerate := PySem.W.mg_none_of KI GN z_enumerate
    z_int := PySem.W.mg_none_of KI GN z_int
    z_isinstance := PySem.W.mg_none_of KI GN z_isinstance
    z_len := PySem.W.mg_none_of KI GN z_len
    z_list := PySem.W.mg_none_of KI GN z_list
    z_range := PySem.W.mg_none_of KI GN z_range
    z_str := PySem.W.mg_none_of KI GN z_str
    z_tuple := PySem.W.mg_none_of KI GN z_tuple
    z_zip := PySem.W.mg_none_of KI GN z_zip
    g_FIGURES := ⟨_, PySem.W.mg_of KI GN gl_FIGURES, gr_FIGURES⟩
    g_FIRST_HAND := ⟨_, PySem.W.mg_of KI GN gl_FIRST_HAND, gr_FIRST_HAND⟩
    g_LEAST_ROOM := ⟨_, PySem.W.mg_of KI GN gl_LEAST_ROOM, gr_LEAST_ROOM⟩
    g_LEAST_SLOTS := ⟨_, PySem.W.mg_of KI GN gl_LEAST_SLOTS, gr_LEAST_SLOTS⟩
    g_LEAST_STEPS := ⟨_, PySem.W.mg_of KI GN gl_LEAST_STEPS, gr_LEAST_STEPS⟩
    g_LETTERS := ⟨_, PySem.W.mg_of KI GN gl_LETTERS, gr_LETTERS⟩
    g_MOST_FIGURES := ⟨_, PySem.W.mg_of KI GN gl_MOST_FIGURES, gr_MOST_FIGURES⟩
    g_MOST_HANDS := ⟨_, PySem.W.mg_of KI GN gl_MOST_HANDS, gr_MOST_HANDS⟩
    g_MOST_LETTERS := ⟨_, PySem.W.mg_of KI GN gl_MOST_LETTERS, gr_MOST_LETTERS⟩
    g_MOST_ROOM := ⟨_, PySem.W.mg_of KI GN gl_MOST_ROOM, gr_MOST_ROOM⟩
    g_MOST_ROWS := ⟨_, PySem.W.mg_of KI GN gl_MOST_ROWS, gr_MOST_ROWS⟩
    g_MOST_SLOTS := ⟨_, PySem.W.mg_of KI GN gl_MOST_SLOTS, gr_MOST_SLOTS⟩
    g_MOST_STEPS := ⟨_, PySem.W.mg_of KI GN gl_MOST_STEPS, gr_MOST_STEPS⟩
    g_NEW := ⟨_, PySem.W.mg_of KI GN gl_NEW, gr_NEW⟩
    g_OLD := ⟨_, PySem.W.mg_of KI GN gl_OLD, gr_OLD⟩
    g_SWEEP := ⟨_, PySem.W.mg_of KI GN gl_SWEEP, gr_SWEEP⟩
  }
  have F1 := fun_mk (st := s_forms_of) l1 c1 k1
  have b1 := F1.binds (ps := ["word"]) fun _ _ _ _ _ _ us hl => match us, hl with | [_], _ => rfl
  have F2 := fun_mk (st := s_Scene___init__) l2 c2 k2
  have b2 := F2.binds (ps := ["self", "room", "kind", "hands", "rows"]) fun _ _ _ _ _ _ us hl => match us, hl with | [_, _, _, _, _], _ => rfl
  have F3 := fun_mk (st := s_written) l3 c3 k3
  have b3 := F3.binds (ps := ["scene"]) fun _ _ _ _ _ _ us hl => match us, hl with | [_], _ => rfl
  have F4 := fun_mk (st := s_written_row) l4 c4 k4
  have b4 := F4.binds (ps := ["row", "names"]) fun _ _ _ _ _ _ us hl => match us, hl with | [_, _], _ => rfl
  have F5 := fun_mk (st := s_written_part) l5 c5 k5
  have b5 := F5.binds (ps := ["form", "value", "names"]) fun _ _ _ _ _ _ us hl => match us, hl with | [_, _, _], _ => rfl
  have F6 := fun_mk (st := s_First_word) l6 c6 k6
  have b6 := F6.binds (ps := ["self"]) fun _ _ _ _ _ _ us hl => match us, hl with | [_], _ => rfl
  have F7 := fun_mk (st := s_Each_word) l7 c7 k7
  have b7 := F7.binds (ps := ["self"]) fun _ _ _ _ _ _ us hl => match us, hl with | [_], _ => rfl
  have F8 := fun_mk (st := s_Last_word) l8 c8 k8
  have b8 := F8.binds (ps := ["self"]) fun _ _ _ _ _ _ us hl => match us, hl with | [_], _ => rfl
  have F9 := fun_mk (st := s_Kind___init__) l9 c9 k9
  have b9 := F9.binds (ps := ["self", "looking", "tells"]) fun _ _ _ _ _ _ us hl => match us, hl with | [_, _, _], _ => rfl
  have F10 := fun_mk (st := s_Kind_words) l10 c10 k10
  have b10 := F10.binds (ps := ["self"]) fun _ _ _ _ _ _ us hl => match us, hl with | [_], _ => rfl
  have F11 := fun_mk (st := s_kind_of) l11 c11 k11
  have b11 := F11.binds (ps := ["text"]) fun _ _ _ _ _ _ us hl => match us, hl with | [_], _ => rfl
  have F12 := fun_mk (st := s_made_of) l12 c12 k12
  have b12 := F12.binds (ps := ["text", "signs", "most"]) fun _ _ _ _ _ _ us hl => match us, hl with | [_, _, _], _ => rfl
  have F13 := G.funD_mk (st := s_number_of) l13 c13 k13
  have b13 := G.bindsD (ps := ["text", "most"]) (ds := []) l13 t13 fun us hl => match us, hl with | [_, _], _ => ⟨_, rfl, rfl⟩
  have bd13_1 := G.bindsD (ps := ["text", "most"]) (ds := [dv13_0]) l13 t13 fun us hl => match us, hl with | [_], _ => ⟨_, rfl, rfl⟩
  have F14 := fun_mk (st := s_load_of) l14 c14 k14
  have b14 := F14.binds (ps := ["text"]) fun _ _ _ _ _ _ us hl => match us, hl with | [_], _ => rfl
  have F15 := fun_mk (st := s_is_word) l15 c15 k15
  have b15 := F15.binds (ps := ["text"]) fun _ _ _ _ _ _ us hl => match us, hl with | [_], _ => rfl
  have F16 := fun_mk (st := s_read) l16 c16 k16
  have b16 := F16.binds (ps := ["text"]) fun _ _ _ _ _ _ us hl => match us, hl with | [_], _ => rfl
  have F17 := fun_mk (st := s_row_at) l17 c17 k17
  have b17 := F17.binds (ps := ["rows", "number"]) fun _ _ _ _ _ _ us hl => match us, hl with | [_, _], _ => rfl
  have F18 := fun_mk (st := s_well_formed) l18 c18 k18
  have b18 := F18.binds (ps := ["found", "number"]) fun _ _ _ _ _ _ us hl => match us, hl with | [_, _], _ => rfl
  have F19 := fun_mk (st := s_number_between) l19 c19 k19
  have b19 := F19.binds (ps := ["text", "least", "most"]) fun _ _ _ _ _ _ us hl => match us, hl with | [_, _, _], _ => rfl
  have F20 := fun_mk (st := s_room_in) l20 c20 k20
  have b20 := F20.binds (ps := ["row"]) fun _ _ _ _ _ _ us hl => match us, hl with | [_], _ => rfl
  have F21 := fun_mk (st := s_kind_in) l21 c21 k21
  have b21 := F21.binds (ps := ["row"]) fun _ _ _ _ _ _ us hl => match us, hl with | [_], _ => rfl
  have F22 := fun_mk (st := s_hands_of) l22 c22 k22
  have b22 := F22.binds (ps := ["rows"]) fun _ _ _ _ _ _ us hl => match us, hl with | [_], _ => rfl
  have F23 := fun_mk (st := s_hand_of) l23 c23 k23
  have b23 := F23.binds (ps := ["rows", "number", "earlier"]) fun _ _ _ _ _ _ us hl => match us, hl with | [_, _, _], _ => rfl
  have F24 := fun_mk (st := s_names_of) l24 c24 k24
  have b24 := F24.binds (ps := ["hands"]) fun _ _ _ _ _ _ us hl => match us, hl with | [_], _ => rfl
  have F25 := fun_mk (st := s_hand_in) l25 c25 k25
  have b25 := F25.binds (ps := ["row"]) fun _ _ _ _ _ _ us hl => match us, hl with | [_], _ => rfl
  have F26 := fun_mk (st := s_is_hand_name) l26 c26 k26
  have b26 := F26.binds (ps := ["text"]) fun _ _ _ _ _ _ us hl => match us, hl with | [_], _ => rfl
  have F27 := fun_mk (st := s_weave_of) l27 c27 k27
  have b27 := F27.binds (ps := ["rows", "first", "hands"]) fun _ _ _ _ _ _ us hl => match us, hl with | [_, _, _], _ => rfl
  have F28 := fun_mk (st := s_weave_row) l28 c28 k28
  have b28 := F28.binds (ps := ["parts", "number", "hands"]) fun _ _ _ _ _ _ us hl => match us, hl with | [_, _, _], _ => rfl
  have F29 := fun_mk (st := s_sweep_in) l29 c29 k29
  have b29 := F29.binds (ps := ["parts"]) fun _ _ _ _ _ _ us hl => match us, hl with | [_], _ => rfl
  have F30 := fun_mk (st := s_told_in) l30 c30 k30
  have b30 := F30.binds (ps := ["parts"]) fun _ _ _ _ _ _ us hl => match us, hl with | [_], _ => rfl
  have F31 := fun_mk (st := s_value_of) l31 c31 k31
  have b31 := F31.binds (ps := ["form", "text"]) fun _ _ _ _ _ _ us hl => match us, hl with | [_, _], _ => rfl
  have F32 := fun_mk (st := s_with_hands) l32 c32 k32
  have b32 := F32.binds (ps := ["forms", "told", "number", "hands"]) fun _ _ _ _ _ _ us hl => match us, hl with | [_, _, _, _], _ => rfl
  have F33 := fun_mk (st := s_look_at_slots) l33 c33 k33
  have b33 := F33.binds (ps := ["forms", "values", "number", "hands"]) fun _ _ _ _ _ _ us hl => match us, hl with | [_, _, _, _], _ => rfl
  have F34 := fun_mk (st := s__law_cell_at) l34 c34 k34
  have b34 := F34.binds (ps := ["_law_script", "_law_k"]) fun _ _ _ _ _ _ us hl => match us, hl with | [_, _], _ => rfl
  have F35 := fun_mk (st := s__law_whole) l35 c35 k35
  have b35 := F35.binds (ps := ["_law_found"]) fun _ _ _ _ _ _ us hl => match us, hl with | [_], _ => rfl
  have F36 := fun_mk (st := s__law_safe) l36 c36 k36
  have b36 := F36.binds (ps := ["_law_name"]) fun _ _ _ _ _ _ us hl => match us, hl with | [_], _ => rfl
  have F37 := fun_mk (st := s__law_hands_by) l37 c37 k37
  have b37 := F37.binds (ps := ["_law_way", "_law_cell"]) fun _ _ _ _ _ _ us hl => match us, hl with | [_, _], _ => rfl
  have F38 := fun_mk (st := s__law_kind_by) l38 c38 k38
  have b38 := F38.binds (ps := ["_law_cell"]) fun _ _ _ _ _ _ us hl => match us, hl with | [_], _ => rfl
  have F39 := fun_mk (st := s__law_word_by) l39 c39 k39
  have b39 := F39.binds (ps := ["_law_cell", "_law_way"]) fun _ _ _ _ _ _ us hl => match us, hl with | [_, _], _ => rfl
  have F40 := fun_mk (st := s__law_large) l40 c40 k40
  have b40 := F40.binds (ps := ["_law_cell", "_law_way", "_law_most"]) fun _ _ _ _ _ _ us hl => match us, hl with | [_, _, _], _ => rfl
  have F41 := fun_mk (st := s__law_row_by) l41 c41 k41
  have b41 := F41.binds (ps := ["_law_cell", "_law_k", "_law_hands"]) fun _ _ _ _ _ _ us hl => match us, hl with | [_, _, _], _ => rfl
  have F42 := fun_mk (st := s__law_text_of) l42 c42 k42
  have b42 := F42.binds (ps := ["_law_row", "_law_hands"]) fun _ _ _ _ _ _ us hl => match us, hl with | [_, _], _ => rfl
  have F43 := fun_mk (st := s__law_same_row) l43 c43 k43
  have b43 := F43.binds (ps := ["_law_found", "_law_due"]) fun _ _ _ _ _ _ us hl => match us, hl with | [_, _], _ => rfl
  have F44 := fun_mk (st := s__law_same_rows) l44 c44 k44
  have b44 := F44.binds (ps := ["_law_found", "_law_due"]) fun _ _ _ _ _ _ us hl => match us, hl with | [_, _], _ => rfl
  have F45 := fun_mk (st := s__law_same_scene) l45 c45 k45
  have b45 := F45.binds (ps := ["_law_scene", "_law_room", "_law_words", "_law_hands", "_law_weave"]) fun _ _ _ _ _ _ us hl => match us, hl with | [_, _, _, _, _], _ => rfl
  have F46 := fun_mk (st := s_law) l46 c46 k46
  refine ⟨PySem.W.fnOf "law" "law" (defArgs s_law) (defBody s_law) (defScope s_law) .none kV46 dc46 pm46 an46 cd46 ct46, fun s v => .of_eq rfl, fun base _ _ => ?_⟩
  have G1 := ok_forms_of (P := l.prog) (w := w) (base := base) T F1 
  have G2 := ok_Scene___init__ (P := l.prog) (w := w) (base := base) T F2 
  have G5 := ok_written_part (P := l.prog) (w := w) (base := base) T F5 
  have G6 := ok_First_word (P := l.prog) (w := w) (base := base) T F6 
  have G7 := ok_Each_word (P := l.prog) (w := w) (base := base) T F7 
  have G8 := ok_Last_word (P := l.prog) (w := w) (base := base) T F8 
  have G9 := ok_Kind___init__ (P := l.prog) (w := w) (base := base) T F9 
  have G12 := ok_made_of (P := l.prog) (w := w) (base := base) T F12 
  have G17 := ok_row_at (P := l.prog) (w := w) (base := base) T F17 
  have G18 := ok_well_formed (P := l.prog) (w := w) (base := base) T F18 
  have G24 := ok_names_of (P := l.prog) (w := w) (base := base) T F24 
  have G33 := ok_look_at_slots (P := l.prog) (w := w) (base := base) T F33 
  have G34 := ok__law_cell_at (P := l.prog) (w := w) (base := base) T F34 
  have G35 := ok__law_whole (P := l.prog) (w := w) (base := base) T F35 
  have G36 := ok__law_safe (P := l.prog) (w := w) (base := base) T F36 
  have G38 := ok__law_kind_by (P := l.prog) (w := w) (base := base) T F38 
  have G39 := ok__law_word_by (P := l.prog) (w := w) (base := base) T F39 
  have G40 := ok__law_large (P := l.prog) (w := w) (base := base) T F40 
  have G42 := ok__law_text_of (P := l.prog) (w := w) (base := base) T F42 
  have G4 := ok_written_row (P := l.prog) (w := w) (base := base) T F4 G1 b1 k1 G5 b5 k5
  have G10 := ok_Kind_words (P := l.prog) (w := w) (base := base) T F10 G7 b7 k7 G6 b6 k6 G8 b8 k8
  have G13 := ok_number_of (P := l.prog) (w := w) (base := base) T F13 G12 b12 k12
  have G15 := ok_is_word (P := l.prog) (w := w) (base := base) T F15 G12 b12 k12
  have G32 := ok_with_hands (P := l.prog) (w := w) (base := base) T F32 G24 b24 k24
  have G37 := ok__law_hands_by (P := l.prog) (w := w) (base := base) T F37 G36 b36 k36
  have G41 := ok__law_row_by (P := l.prog) (w := w) (base := base) T F41 G40 b40 k40 G39 b39 k39
  have G43 := ok__law_same_row (P := l.prog) (w := w) (base := base) T F43 G35 b35 k35
  have G3 := ok_written (P := l.prog) (w := w) (base := base) T F3 G10 b10 k10 G4 b4 k4
  have G11 := ok_kind_of (P := l.prog) (w := w) (base := base) T F11 G9 b9 k9 G10 b10 k10
  have G14 := ok_load_of (P := l.prog) (w := w) (base := base) T F14 G13 b13 k13 bd13_1 (.cons dr13_0 .nil)
  have G19 := ok_number_between (P := l.prog) (w := w) (base := base) T F19 G13 b13 k13
  have G26 := ok_is_hand_name (P := l.prog) (w := w) (base := base) T F26 G15 b15 k15
  have G44 := ok__law_same_rows (P := l.prog) (w := w) (base := base) T F44 G43 b43 k43
  have G20 := ok_room_in (P := l.prog) (w := w) (base := base) T F20 G19 b19 k19
  have G21 := ok_kind_in (P := l.prog) (w := w) (base := base) T F21 G11 b11 k11
  have G25 := ok_hand_in (P := l.prog) (w := w) (base := base) T F25 G26 b26 k26 G19 b19 k19
  have G29 := ok_sweep_in (P := l.prog) (w := w) (base := base) T F29 G19 b19 k19
  have G31 := ok_value_of (P := l.prog) (w := w) (base := base) T F31 G15 b15 k15 G14 b14 k14 G13 b13 k13
  have G45 := ok__law_same_scene (P := l.prog) (w := w) (base := base) T F45 G10 b10 k10 G44 b44 k44 G35 b35 k35
  have G23 := ok_hand_of (P := l.prog) (w := w) (base := base) T F23 G25 b25 k25 G24 b24 k24 G17 b17 k17 G18 b18 k18
  have G30 := ok_told_in (P := l.prog) (w := w) (base := base) T F30 G1 b1 k1 G31 b31 k31
  have G22 := ok_hands_of (P := l.prog) (w := w) (base := base) T F22 G23 b23 k23 G17 b17 k17
  have G28 := ok_weave_row (P := l.prog) (w := w) (base := base) T F28 G1 b1 k1 G33 b33 k33 G29 b29 k29 G30 b30 k30 G18 b18 k18 G32 b32 k32
  have G27 := ok_weave_of (P := l.prog) (w := w) (base := base) T F27 G28 b28 k28
  have G16 := ok_read (P := l.prog) (w := w) (base := base) T F16 G2 b2 k2 G22 b22 k22 G21 b21 k21 G20 b20 k20 G17 b17 k17 G27 b27 k27 G18 b18 k18
  exact ok_law T F46 G2 b2 k2 G34 b34 k34 G37 b37 k37 G38 b38 k38 G41 b41 k41 G45 b45 k45 G42 b42 k42 G11 b11 k11 G16 b16 k16 G3 b3 k3
theorem walk {l : PySem.W.OpenLaw} {q : Program} {loose : List Str} {XP : (Str → Option Value) → Heap → Prop} {YP : World → Heap → Prop} {d : DefRec} {K : Params → PySem.W.Frag} (hn : l.most = some 63) (hdf : d.params.defaults = [])
    (hY : ∀ (w : World) (h : Heap), YP w h → (K w.params).In h)
    (F : ∀ (w : World) (mg : Str → Option Value) (fa : Addr) (h : Heap), (K w.params).In h → h.Ns mainGlobals mg → mg d.name = some (.ref fa) →
      ∃ fd : FuncData, (∀ (s : Shared) (u : Value), BindsTo s fd ⟨[u], []⟩ [("_law_script", u)]) ∧ ∀ base : Heap, (K w.params).In base → base.Ns mainGlobals mg → FnOk l.prog w (K w.params) mg base (G.CXe l.prog w) 9 fa fd ["_law_script"] (S_law (K w.params))) :
    PySem.W.WalkO q loose XP YP l.row.toRowW d [] (fun f vs => PySem.call f vs) :=
  G.walk_ofB (n := 63) (k := 9) (x := "_law_script") (CX := fun w => G.CXe l.prog w) (sp := fun w => S_law (K w.params)) hn (by decide) hdf ⟨rfl, by decide, by decide⟩ hY F (fun _ _ a ns hl _ hS hb => ⟨a, rfl, ns, hS, hl, hb, fun _ => rfl⟩) fun _ _ _ _ _ z => by
    obtain ⟨_, _, _, _, _, _, _, _, _, _, _, _, z⟩ := z
    exact z
end K38
def PySem.W.Fast.tw1037582980322529541 : Nat := 0
def PySem.W.Fast.tw885638114923736005 : Nat := 0
def PySem.W.Fast.tw12091476166646077542 : Nat := 0
def PySem.W.Fast.tw5673372120410804999 : Nat := 0
def PySem.W.Fast.tw17522499712816338824 : Nat := 0
def PySem.W.Fast.tw4101889415838054186 : Nat := 0
def PySem.W.Fast.tw2144120652696940875 : Nat := 0
def PySem.W.Fast.tw15099927853131797612 : Nat := 0
def PySem.W.Fast.tw4332109154662284333 : Nat := 0
def PySem.W.Fast.tw6628814630304471759 : Nat := 0
def PySem.W.Fast.tw1125015547861452080 : Nat := 0
def PySem.W.Fast.tw1875429279739557841 : Nat := 0
def PySem.W.Fast.tw17561446192554818740 : Nat := 0
def PySem.W.Fast.tw5192873095264397172 : Nat := 0
def PySem.W.Fast.tw14627182246620516214 : Nat := 0
def PySem.W.Fast.tw11742576074132402295 : Nat := 0
def PySem.W.Fast.tw5582175757218148184 : Nat := 0
def PySem.W.Fast.tw5189658364197873531 : Nat := 0
def PySem.W.Fast.tw9519619867600227516 : Nat := 0
def PySem.W.Fast.tw16633786614797412252 : Nat := 0
def PySem.W.Fast.tw11243448479373086527 : Nat := 0
def PySem.W.Fast.tw5197638087338055474 : Nat := 0
def PySem.W.Fast.tw2264108601956417828 : Nat := 0
def PySem.W.Fast.tw7294662884531512100 : Nat := 0
def PySem.W.Fast.tw18304719357504283933 : Nat := 0
def PySem.W.Fast.tw10666718783315089561 : Nat := 0
def PySem.W.Fast.tw2677779080179293878 : Nat := 0
def PySem.W.Fast.tw1452563199681385602 : Nat := 0
def PySem.W.Fast.tw4611118357116231404 : Nat := 0
def PySem.W.Fast.tw14903812417566280678 : Nat := 0
def PySem.W.Fast.tw12074497976729305335 : Nat := 0
def PySem.W.Fast.tw632319954403930800 : Nat := 0
def PySem.W.Fast.tw9277652477123947461 : Nat := 0
def PySem.W.Fast.tw6407246704879346891 : Nat := 0
def PySem.W.Fast.tw6474884271630515287 : Nat := 0
def PySem.W.Fast.tw5304177892836077189 : Nat := 0
def PySem.W.Fast.tw6393869184503030392 : Nat := 0
def PySem.W.Fast.tw6056142454978668953 : Nat := 0
def PySem.W.Fast.tw14651321869723017750 : Nat := 0
def PySem.W.Fast.tw15373548576190074638 : Nat := 0
def PySem.W.Fast.tw769271967150267670 : Nat := 0
def PySem.W.Fast.tw8546932251008755441 : Nat := 0
def PySem.W.Fast.tw11396353004343336503 : Nat := 0
def PySem.W.Fast.tw13234146822451391239 : Nat := 0
def PySem.W.Fast.tw9048465181513125561 : Nat := 0
def PySem.W.Fast.tw6841038060838158293 : Nat := 0
def PySem.W.Fast.tw1725062145069299356 : Nat := 0
def PySem.W.Fast.tw5459988512153691988 : Nat := 0
def PySem.W.Fast.tw1731243109971400246 : Nat := 0
def PySem.W.Fast.tw4724237469093174211 : Nat := 0
def PySem.W.Fast.tw3893051787593653063 : Nat := 0
def PySem.W.Fast.tw16892956851667320389 : Nat := 0
def PySem.W.Fast.tw13252994050277713894 : Nat := 0
def PySem.W.Fast.tw9079583302181558273 : Nat := 0
def PySem.W.Fast.tw12415730717077001701 : Nat := 0
def PySem.W.Fast.tw12204245525950892271 : Nat := 0
def PySem.W.Fast.tw10368679097758097853 : Nat := 0
def PySem.W.Fast.tw13987583505019215535 : Nat := 0
def PySem.W.Fast.tw12067959517513086191 : Nat := 0
def PySem.W.Fast.tw7365111842526140746 : Nat := 0
def PySem.W.Fast.tw4102466801833918657 : Nat := 0
def PySem.W.Fast.tw14165379365158341963 : Nat := 0
def PySem.W.Fast.tw8507234676989619556 : Nat := 0
def PySem.W.Fast.tw5951824211789471215 : Nat := 0
def PySem.W.Fast.tw3613294893986627975 : Nat := 0
def PySem.W.Fast.tw17298565990461926396 : Nat := 0
def PySem.W.Fast.tw17899169337434934310 : Nat := 0
def PySem.W.Fast.tw5919047870792486634 : Nat := 0
def PySem.W.Fast.tw10052542433362728544 : Nat := 0
def PySem.W.Fast.tw17876451048879392362 : Nat := 0
def PySem.W.Fast.tw7553501930363055383 : Nat := 0
def PySem.W.Fast.tw7014536339908722229 : Nat := 0
def PySem.W.Fast.tw16186479007602727378 : Nat := 0
def PySem.W.Fast.tw14347578949610208050 : Nat := 0
def PySem.W.Fast.tw15457380183799394380 : Nat := 0
def PySem.W.Fast.tw13365924954637778109 : Nat := 0
def PySem.W.Fast.tw18426580314982235586 : Nat := 0
def PySem.W.Fast.tw6699094606515904358 : Nat := 0
def PySem.W.Fast.tw14453453097297600756 : Nat := 0
def PySem.W.Fast.tw2359789008993386218 : Nat := 0
def PySem.W.Fast.tw5690893501038514813 : Nat := 0
def PySem.W.Fast.tw304500408619092250 : Nat := 0
def PySem.W.Fast.tw2923166213060718507 : Nat := 0
def PySem.W.Fast.tw4598861950599940935 : Nat := 0
def PySem.W.Fast.tw4005269619958718535 : Nat := 0
def PySem.W.Fast.tw446479012588855248 : Nat := 0
def PySem.W.Fast.tw3597411063329100898 : Nat := 0
def PySem.W.Fast.tw16193537601052751561 : Nat := 0
def PySem.W.Fast.tw3485155820995211454 : Nat := 0
def PySem.W.Fast.tw2030885116894175787 : Nat := 0
def PySem.W.Fast.tw5441727875412715946 : Nat := 0
def PySem.W.Fast.tw17154869287321927639 : Nat := 0
def PySem.W.Fast.tw6845029365833081830 : Nat := 0
def PySem.W.Fast.tw18070651514225655879 : Nat := 0
def PySem.W.Fast.tw183673011114910179 : Nat := 0
def PySem.W.Fast.tw4074542081907066968 : Nat := 0
def PySem.W.Fast.tw17885105898392325111 : Nat := 0
def PySem.W.Fast.tw7905095556972010530 : Nat := 0
def PySem.W.Fast.tw4790667365714072663 : Nat := 0
def PySem.W.Fast.tw11185481465144003512 : Nat := 0
def PySem.W.Fast.tw673359742608408055 : Nat := 0
def PySem.W.Fast.tw10284010286363410094 : Nat := 0
def PySem.W.Fast.tw397320423054558203 : Nat := 0
def PySem.W.Fast.tw6473918102104573635 : Nat := 0
def PySem.W.Fast.tw10576272419820772817 : Nat := 0
def PySem.W.Fast.tw6047687399369904247 : Nat := 0
def PySem.W.Fast.tw3449695199406600751 : Nat := 0
def PySem.W.Fast.tw12604752714411713366 : Nat := 0
def PySem.W.Fast.tw18217079618393023484 : Nat := 0
def PySem.W.Fast.tw13353182134218841250 : Nat := 0
def PySem.W.Fast.tw15882771026532459509 : Nat := 0
def PySem.W.Fast.tw16106941973166429943 : Nat := 0
def PySem.W.Fast.tw5932261861979140600 : Nat := 0
def PySem.W.Fast.tw3153894460479906913 : Nat := 0
def PySem.W.Fast.tw10667183439312572046 : Nat := 0
def PySem.W.Fast.tw3262568074007246427 : Nat := 0
def PySem.W.Fast.tw10334784067536100502 : Nat := 0
def PySem.W.Fast.tw2168599548979709 : Nat := 0
def PySem.W.Fast.tw12048536397436895859 : Nat := 0
def PySem.W.Fast.tw10538541071414838464 : Nat := 0
def PySem.W.Fast.tw7996828489649731948 : Nat := 0
def PySem.W.Fast.tw14091322809910303147 : Nat := 0
def PySem.W.Fast.tw9499666773204357743 : Nat := 0
def PySem.W.Fast.tw13893627577490023669 : Nat := 0
def PySem.W.Fast.tw1602426387730740846 : Nat := 0
def PySem.W.Fast.tw11891122407145931404 : Nat := 0
def PySem.W.Fast.tw16045249924494965298 : Nat := 0
def PySem.W.Fast.tw17572671000208969918 : Nat := 0
def PySem.W.Fast.tw1400389553850367731 : Nat := 0
def PySem.W.Fast.tw3425069960922589604 : Nat := 0
def PySem.W.Fast.tw10787103575117576968 : Nat := 0
def PySem.W.Fast.tw3230197988045628432 : Nat := 0
def PySem.W.Fast.tw6001884869182691345 : Nat := 0
def PySem.W.Fast.tw7335080148208603268 : Nat := 0
def PySem.W.Fast.tw17373991938363018959 : Nat := 0
def PySem.W.Fast.tw2075733083236670986 : Nat := 0
def PySem.W.Fast.tw1674927902756878489 : Nat := 0
def PySem.W.Fast.tw10932519963869329949 : Nat := 0
def PySem.W.Fast.tw15177719630264325975 : Nat := 0
def PySem.W.Fast.tw5479532810382345971 : Nat := 0
def PySem.W.Fast.tw2476122457287131301 : Nat := 0
def PySem.W.Fast.tw3340915215619138433 : Nat := 0
def PySem.W.Fast.tw12154697672669854718 : Nat := 0
def PySem.W.Fast.tw3853048627803716851 : Nat := 0
def PySem.W.Fast.tw18016609368735751584 : Nat := 0
def PySem.W.Fast.tw679173326917476503 : Nat := 0
def PySem.W.Fast.tw13219465930167121969 : Nat := 0
def PySem.W.Fast.tw691987632659076620 : Nat := 0
def PySem.W.Fast.tw16770508619741368845 : Nat := 0
def PySem.W.Fast.tw3816704432654205079 : Nat := 0
def PySem.W.Fast.tw16149767421055536609 : Nat := 0
def PySem.W.Fast.tw4346817458946867717 : Nat := 0
def PySem.W.Fast.tw15764053217304902734 : Nat := 0
def PySem.W.Fast.tw14849187068133082514 : Nat := 0
def PySem.W.Fast.tw12722753777724804454 : Nat := 0
def PySem.W.Fast.tw1874573932305452186 : Nat := 0
def PySem.W.Fast.tw14892863112005021601 : Nat := 0
def PySem.W.Fast.tw15755315119985612509 : Nat := 0
def PySem.W.Fast.tw14507052864080635623 : Nat := 0
def PySem.W.Fast.tw17702838173353972020 : Nat := 0
def PySem.W.Fast.tw10643513205454811152 : Nat := 0
def PySem.W.Fast.tw9620080287679720572 : Nat := 0
def PySem.W.Fast.tw8417057132108875783 : Nat := 0
def PySem.W.Fast.tw3359837185360276986 : Nat := 0
def PySem.W.Fast.tw4016263559178340075 : Nat := 0
def PySem.W.Fast.tw2778275518771546923 : Nat := 0
def PySem.W.Fast.tw5365739314244423868 : Nat := 0
def PySem.W.Fast.tw15490720121646608607 : Nat := 0
def PySem.W.Fast.tw13234261396401786510 : Nat := 0
def PySem.W.Fast.tw3881786581992570434 : Nat := 0
def PySem.W.Fast.tw503079805917446137 : Nat := 0
def PySem.W.Fast.tw16013665890459660442 : Nat := 0
def PySem.W.Fast.tw843434392398817277 : Nat := 0
def PySem.W.Fast.tw9446551202994125014 : Nat := 0
def PySem.W.Fast.tw12568046704258040928 : Nat := 0
def PySem.W.Fast.tw9190895790887926488 : Nat := 0
def PySem.W.Fast.tw399448633825010317 : Nat := 0
def PySem.W.Fast.tw16691270875607237858 : Nat := 0
def PySem.W.Fast.tw11263679666160013476 : Nat := 0
def PySem.W.Fast.tw6501355225467645326 : Nat := 0
def PySem.W.Fast.tw6558010460117031424 : Nat := 0
def PySem.W.Fast.tw6260174295494657510 : Nat := 0
def PySem.W.Fast.tw493575214088198593 : Nat := 0
def PySem.W.Fast.tw3892967949165365349 : Nat := 0
def PySem.W.Fast.tw11779003311173244743 : Nat := 0
def PySem.W.Fast.tw9942791503454818625 : Nat := 0
def PySem.W.Fast.tw17014961532764503158 : Nat := 0
def PySem.W.Fast.tw1291965006474172037 : Nat := 0
def PySem.W.Fast.tw9166968839826050964 : Nat := 0
def PySem.W.Fast.tw11227232999358902429 : Nat := 0
def PySem.W.Fast.tw15817437839309901511 : Nat := 0
def PySem.W.Fast.tw9609254893639907126 : Nat := 0
def PySem.W.Fast.tw13775468802159830627 : Nat := 0
def PySem.W.Fast.tw5179187646401594946 : Nat := 0
def PySem.W.Fast.tw12299331416958160812 : Nat := 0
def PySem.W.Fast.tw18222686254756436352 : Nat := 0
def PySem.W.Fast.tw5644566901867242436 : Nat := 0
def PySem.W.Fast.tw13329580948360255139 : Nat := 0
def PySem.W.Fast.tw7384388548688312479 : Nat := 0
def PySem.W.Fast.tw1754276865350558604 : Nat := 0
def PySem.W.Fast.tw16297944334422153628 : Nat := 0
def PySem.W.Fast.tw3236895917611482261 : Nat := 0
def PySem.W.Fast.tw17927961967327170102 : Nat := 0
def PySem.W.Fast.tw13653764580473517785 : Nat := 0
def PySem.W.Fast.tw3519448593445436 : Nat := 0
def PySem.W.Fast.tw4852413760584307914 : Nat := 0
def PySem.W.Fast.tw6389755701433141810 : Nat := 0
def PySem.W.Fast.tw8334490988571104667 : Nat := 0
def PySem.W.Fast.tw18095936162390599752 : Nat := 0
def PySem.W.Fast.tw6322566704365055388 : Nat := 0
def PySem.W.Fast.tw9308193857935586153 : Nat := 0
def PySem.W.Fast.tw2838606176752700332 : Nat := 0
def PySem.W.Fast.tw3140261731668782873 : Nat := 0
def PySem.W.Fast.tw18435097831925840423 : Nat := 0
def PySem.W.Fast.tw12199443115703982986 : Nat := 0
def PySem.W.Fast.tw9248151691692867944 : Nat := 0
def PySem.W.Fast.tw548262524161523580 : Nat := 0
def PySem.W.Fast.tw1999899622218988369 : Nat := 0
def PySem.W.Fast.tw12298476794679963781 : Nat := 0
def PySem.W.Fast.tw4238285871840350608 : Nat := 0
def PySem.W.Fast.tw9540058285947180600 : Nat := 0
def PySem.W.Fast.tw10408988650920695397 : Nat := 0
def PySem.W.Fast.tw1067948767876267847 : Nat := 0
def PySem.W.Fast.tw9725096959295992605 : Nat := 0
def PySem.W.Fast.tw14486293467952094107 : Nat := 0
def PySem.W.Fast.tw4750388345145516136 : Nat := 0
def PySem.W.Fast.tw13259123212812251777 : Nat := 0
def PySem.W.Fast.tw1880091903640675282 : Nat := 0
def PySem.W.Fast.tw1238069066858466550 : Nat := 0
def PySem.W.Fast.tw5053752861375531859 : Nat := 0
def PySem.W.Fast.tw8878522381256549499 : Nat := 0
def PySem.W.Fast.tw4841831307979133643 : Nat := 0
def PySem.W.Fast.tw14367399843859163514 : Nat := 0
def PySem.W.Fast.tw15721832330207840804 : Nat := 0
def PySem.W.Fast.tw8815901687423447788 : Nat := 0
def PySem.W.Fast.tw9187770913862322824 : Nat := 0
def PySem.W.Fast.tw3114722940995526135 : Nat := 0
def PySem.W.Fast.tw16147158126007228762 : Nat := 0
def PySem.W.Fast.tw947915270303263247 : Nat := 0
open PySem PySem.W PyProof.Rows
set_option maxRecDepth 100000 in
set_option maxHeartbeats 0 in
theorem PySem.Challenge.cw_greywalk_k38_texts_both_ways_holds : PySem.Challenge.rw_greywalk_k38_texts_both_ways.Holds := by
  w_on; o_law; k_head; (case hw => w_witness2)
  k_fill
  refine K38.walk (l := PySem.Challenge.rw_greywalk_k38_texts_both_ways) rfl rfl (fun w h Y => PySem.W.kIn_of Y) ?F
  case F =>
    intro w mg fa h KX G hmg
    refine' K38.all_mk KX G hmg ?a_Scene ?a_First ?a_Each ?a_Last ?a_Kind ?a1 ?l1 ?c1 ?k1 ?a2 ?i2 ?l2 ?c2 ?k2 ?a3 ?l3 ?c3 ?k3 ?a4 ?l4 ?c4 ?k4 ?a5 ?l5 ?c5 ?k5 ?a6 ?i6 ?l6 ?c6 ?k6 ?a7 ?i7 ?l7 ?c7 ?k7 ?a8 ?i8 ?l8 ?c8 ?k8 ?a9 ?i9 ?l9 ?c9 ?k9 ?a10 ?i10 ?l10 ?c10 ?k10 ?a11 ?l11 ?c11 ?k11 ?a12 ?l12 ?c12 ?k12 ?a13 ?l13 ?t13 ?dr13_0 ?c13 ?k13 ?a14 ?l14 ?c14 ?k14 ?a15 ?l15 ?c15 ?k15 ?a16 ?l16 ?c16 ?k16 ?a17 ?l17 ?c17 ?k17 ?a18 ?l18 ?c18 ?k18 ?a19 ?l19 ?c19 ?k19 ?a20 ?l20 ?c20 ?k20 ?a21 ?l21 ?c21 ?k21 ?a22 ?l22 ?c22 ?k22 ?a23 ?l23 ?c23 ?k23 ?a24 ?l24 ?c24 ?k24 ?a25 ?l25 ?c25 ?k25 ?a26 ?l26 ?c26 ?k26 ?a27 ?l27 ?c27 ?k27 ?a28 ?l28 ?c28 ?k28 ?a29 ?l29 ?c29 ?k29 ?a30 ?l30 ?c30 ?k30 ?a31 ?l31 ?c31 ?k31 ?a32 ?l32 ?c32 ?k32 ?a33 ?l33 ?c33 ?k33 ?a34 ?l34 ?c34 ?k34 ?a35 ?l35 ?c35 ?k35 ?a36 ?l36 ?c36 ?k36 ?a37 ?l37 ?c37 ?k37 ?a38 ?l38 ?c38 ?k38 ?a39 ?l39 ?c39 ?k39 ?a40 ?l40 ?c40 ?k40 ?a41 ?l41 ?c41 ?k41 ?a42 ?l42 ?c42 ?k42 ?a43 ?l43 ?c43 ?k43 ?a44 ?l44 ?c44 ?k44 ?a45 ?l45 ?c45 ?k45 ?a46 ?l46 ?c46 ?k46 ?nd_FORMS ?sm_FORMS ?lk_FORMS ?hx_FORMS0 ?hx_FORMS1 ?hx_FORMS2 ?hx_FORMS3 ?hx_FORMS4 ?hx_FORMS5 ?hx_FORMS6 ?hx_FORMS7 ?hx_FORMS8 ?hx_FORMS9 ?lk_FORMS_make ?lk_FORMS_get ?lk_FORMS_put ?lk_FORMS_copy ?lk_FORMS_drop ?lk_FORMS_give ?lk_FORMS_write ?lk_FORMS_read ?lk_FORMS_name ?lk_FORMS_seek ?nd_MOST ?sm_MOST ?lk_MOST ?hx_MOST0 ?hx_MOST1 ?hx_MOST2 ?hx_MOST3 ?pg_Scene ?hd_Scene ?po_Scene ?sa_Scene ?mk_Scene ?kc_Scene ?n_Scene_room ?n_Scene_kind ?n_Scene_hands ?n_Scene_rows ?pg_First ?hd_First ?po_First ?sa_First ?mk_First ?kc_First ?oi_First ?pg_Each ?hd_Each ?po_Each ?sa_Each ?mk_Each ?kc_Each ?oi_Each ?pg_Last ?hd_Last ?po_Last ?sa_Last ?mk_Last ?kc_Last ?oi_Last ?pg_Kind ?hd_Kind ?po_Kind ?sa_Kind ?mk_Kind ?kc_Kind ?n_Kind_looking ?n_Kind_tells ?z_all ?z_bool ?z_enumerate ?z_int ?z_isinstance ?z_len ?z_list ?z_range ?z_str ?z_tuple ?z_zip ?gl_FIGURES ?gr_FIGURES ?gl_FIRST_HAND ?gr_FIRST_HAND ?gl_LEAST_ROOM ?gr_LEAST_ROOM ?gl_LEAST_SLOTS ?gr_LEAST_SLOTS ?gl_LEAST_STEPS ?gr_LEAST_STEPS ?gl_LETTERS ?gr_LETTERS ?gl_MOST_FIGURES ?gr_MOST_FIGURES ?gl_MOST_HANDS ?gr_MOST_HANDS ?gl_MOST_LETTERS ?gr_MOST_LETTERS ?gl_MOST_ROOM ?gr_MOST_ROOM ?gl_MOST_ROWS ?gr_MOST_ROWS ?gl_MOST_SLOTS ?gr_MOST_SLOTS ?gl_MOST_STEPS ?gr_MOST_STEPS ?gl_NEW ?gr_NEW ?gl_OLD ?gr_OLD ?gl_SWEEP ?gr_SWEEP
    (case a_Scene => k_is)
    (case a_First => k_is)
    (case a_Each => k_is)
    (case a_Last => k_is)
    (case a_Kind => k_is)
    (case a1 => k_is)
    (case l1 => k_is)
    (case c1 => k_is)
    (case k1 => k_is)
    (case a2 => k_is)
    (case i2 => k_is)
    (case l2 => k_is)
    (case c2 => k_is)
    (case k2 => k_is)
    (case a3 => k_is)
    (case l3 => k_is)
    (case c3 => k_is)
    (case k3 => k_is)
    (case a4 => k_is)
    (case l4 => k_is)
    (case c4 => k_is)
    (case k4 => k_is)
    (case a5 => k_is)
    (case l5 => k_is)
    (case c5 => k_is)
    (case k5 => k_is)
    (case a6 => k_is)
    (case i6 => k_is)
    (case l6 => k_is)
    (case c6 => k_is)
    (case k6 => k_is)
    (case a7 => k_is)
    (case i7 => k_is)
    (case l7 => k_is)
    (case c7 => k_is)
    (case k7 => k_is)
    (case a8 => k_is)
    (case i8 => k_is)
    (case l8 => k_is)
    (case c8 => k_is)
    (case k8 => k_is)
    (case a9 => k_is)
    (case i9 => k_is)
    (case l9 => k_is)
    (case c9 => k_is)
    (case k9 => k_is)
    (case a10 => k_is)
    (case i10 => k_is)
    (case l10 => k_is)
    (case c10 => k_is)
    (case k10 => k_is)
    (case a11 => k_is)
    (case l11 => k_is)
    (case c11 => k_is)
    (case k11 => k_is)
    (case a12 => k_is)
    (case l12 => k_is)
    (case c12 => k_is)
    (case k12 => k_is)
    (case a13 => k_is)
    (case l13 => k_is)
    (case t13 => k_is)
    (case dr13_0 => first | exact rfl | exact ⟨_, rfl⟩)
    (case c13 => k_is)
    (case k13 => k_is)
    (case a14 => k_is)
    (case l14 => k_is)
    (case c14 => k_is)
    (case k14 => k_is)
    (case a15 => k_is)
    (case l15 => k_is)
    (case c15 => k_is)
    (case k15 => k_is)
    (case a16 => k_is)
    (case l16 => k_is)
    (case c16 => k_is)
    (case k16 => k_is)
    (case a17 => k_is)
    (case l17 => k_is)
    (case c17 => k_is)
    (case k17 => k_is)
    (case a18 => k_is)
    (case l18 => k_is)
    (case c18 => k_is)
    (case k18 => k_is)
    (case a19 => k_is)
    (case l19 => k_is)
    (case c19 => k_is)
    (case k19 => k_is)
    (case a20 => k_is)
    (case l20 => k_is)
    (case c20 => k_is)
    (case k20 => k_is)
    (case a21 => k_is)
    (case l21 => k_is)
    (case c21 => k_is)
    (case k21 => k_is)
    (case a22 => k_is)
    (case l22 => k_is)
    (case c22 => k_is)
    (case k22 => k_is)
    (case a23 => k_is)
    (case l23 => k_is)
    (case c23 => k_is)
    (case k23 => k_is)
    (case a24 => k_is)
    (case l24 => k_is)
    (case c24 => k_is)
    (case k24 => k_is)
    (case a25 => k_is)
    (case l25 => k_is)
    (case c25 => k_is)
    (case k25 => k_is)
    (case a26 => k_is)
    (case l26 => k_is)
    (case c26 => k_is)
    (case k26 => k_is)
    (case a27 => k_is)
    (case l27 => k_is)
    (case c27 => k_is)
    (case k27 => k_is)
    (case a28 => k_is)
    (case l28 => k_is)
    (case c28 => k_is)
    (case k28 => k_is)
    (case a29 => k_is)
    (case l29 => k_is)
    (case c29 => k_is)
    (case k29 => k_is)
    (case a30 => k_is)
    (case l30 => k_is)
    (case c30 => k_is)
    (case k30 => k_is)
    (case a31 => k_is)
    (case l31 => k_is)
    (case c31 => k_is)
    (case k31 => k_is)
    (case a32 => k_is)
    (case l32 => k_is)
    (case c32 => k_is)
    (case k32 => k_is)
    (case a33 => k_is)
    (case l33 => k_is)
    (case c33 => k_is)
    (case k33 => k_is)
    (case a34 => k_is)
    (case l34 => k_is)
    (case c34 => k_is)
    (case k34 => k_is)
    (case a35 => k_is)
    (case l35 => k_is)
    (case c35 => k_is)
    (case k35 => k_is)
    (case a36 => k_is)
    (case l36 => k_is)
    (case c36 => k_is)
    (case k36 => k_is)
    (case a37 => k_is)
    (case l37 => k_is)
    (case c37 => k_is)
    (case k37 => k_is)
    (case a38 => k_is)
    (case l38 => k_is)
    (case c38 => k_is)
    (case k38 => k_is)
    (case a39 => k_is)
    (case l39 => k_is)
    (case c39 => k_is)
    (case k39 => k_is)
    (case a40 => k_is)
    (case l40 => k_is)
    (case c40 => k_is)
    (case k40 => k_is)
    (case a41 => k_is)
    (case l41 => k_is)
    (case c41 => k_is)
    (case k41 => k_is)
    (case a42 => k_is)
    (case l42 => k_is)
    (case c42 => k_is)
    (case k42 => k_is)
    (case a43 => k_is)
    (case l43 => k_is)
    (case c43 => k_is)
    (case k43 => k_is)
    (case a44 => k_is)
    (case l44 => k_is)
    (case c44 => k_is)
    (case k44 => k_is)
    (case a45 => k_is)
    (case l45 => k_is)
    (case c45 => k_is)
    (case k45 => k_is)
    (case a46 => k_is)
    (case l46 => k_is)
    (case c46 => k_is)
    (case k46 => k_is)
    (case nd_FORMS => k_is)
    (case sm_FORMS => exact rfl)
    (case lk_FORMS => k_is)
    (case hx_FORMS0 => exact rfl)
    (case hx_FORMS1 => exact rfl)
    (case hx_FORMS2 => exact rfl)
    (case hx_FORMS3 => exact rfl)
    (case hx_FORMS4 => exact rfl)
    (case hx_FORMS5 => exact rfl)
    (case hx_FORMS6 => exact rfl)
    (case hx_FORMS7 => exact rfl)
    (case hx_FORMS8 => exact rfl)
    (case hx_FORMS9 => exact rfl)
    (case lk_FORMS_make => k_is)
    (case lk_FORMS_get => k_is)
    (case lk_FORMS_put => k_is)
    (case lk_FORMS_copy => k_is)
    (case lk_FORMS_drop => k_is)
    (case lk_FORMS_give => k_is)
    (case lk_FORMS_write => k_is)
    (case lk_FORMS_read => k_is)
    (case lk_FORMS_name => k_is)
    (case lk_FORMS_seek => k_is)
    (case nd_MOST => k_is)
    (case sm_MOST => exact rfl)
    (case lk_MOST => k_is)
    (case hx_MOST0 => exact rfl)
    (case hx_MOST1 => exact rfl)
    (case hx_MOST2 => exact rfl)
    (case hx_MOST3 => exact rfl)
    (case pg_Scene => k_is)
    (case hd_Scene => k_is)
    (case po_Scene => k_is)
    (case sa_Scene => k_is)
    (case mk_Scene => k_is)
    (case kc_Scene => k_is)
    (case n_Scene_room => k_is)
    (case n_Scene_kind => k_is)
    (case n_Scene_hands => k_is)
    (case n_Scene_rows => k_is)
    (case pg_First => k_is)
    (case hd_First => k_is)
    (case po_First => k_is)
    (case sa_First => k_is)
    (case mk_First => k_is)
    (case kc_First => k_is)
    (case oi_First => k_is)
    (case pg_Each => k_is)
    (case hd_Each => k_is)
    (case po_Each => k_is)
    (case sa_Each => k_is)
    (case mk_Each => k_is)
    (case kc_Each => k_is)
    (case oi_Each => k_is)
    (case pg_Last => k_is)
    (case hd_Last => k_is)
    (case po_Last => k_is)
    (case sa_Last => k_is)
    (case mk_Last => k_is)
    (case kc_Last => k_is)
    (case oi_Last => k_is)
    (case pg_Kind => k_is)
    (case hd_Kind => k_is)
    (case po_Kind => k_is)
    (case sa_Kind => k_is)
    (case mk_Kind => k_is)
    (case kc_Kind => k_is)
    (case n_Kind_looking => k_is)
    (case n_Kind_tells => k_is)
    (case z_all => k_is)
    (case z_bool => k_is)
    (case z_enumerate => k_is)
    (case z_int => k_is)
    (case z_isinstance => k_is)
    (case z_len => k_is)
    (case z_list => k_is)
    (case z_range => k_is)
    (case z_str => k_is)
    (case z_tuple => k_is)
    (case z_zip => k_is)
    (case gl_FIGURES => k_is)
    (case gr_FIGURES => first | exact rfl | exact ⟨_, rfl⟩)
    (case gl_FIRST_HAND => k_is)
    (case gr_FIRST_HAND => first | exact rfl | exact ⟨_, rfl⟩)
    (case gl_LEAST_ROOM => k_is)
    (case gr_LEAST_ROOM => first | exact rfl | exact ⟨_, rfl⟩)
    (case gl_LEAST_SLOTS => k_is)
    (case gr_LEAST_SLOTS => first | exact rfl | exact ⟨_, rfl⟩)
    (case gl_LEAST_STEPS => k_is)
    (case gr_LEAST_STEPS => first | exact rfl | exact ⟨_, rfl⟩)
    (case gl_LETTERS => k_is)
    (case gr_LETTERS => first | exact rfl | exact ⟨_, rfl⟩)
    (case gl_MOST_FIGURES => k_is)
    (case gr_MOST_FIGURES => first | exact rfl | exact ⟨_, rfl⟩)
    (case gl_MOST_HANDS => k_is)
    (case gr_MOST_HANDS => first | exact rfl | exact ⟨_, rfl⟩)
    (case gl_MOST_LETTERS => k_is)
    (case gr_MOST_LETTERS => first | exact rfl | exact ⟨_, rfl⟩)
    (case gl_MOST_ROOM => k_is)
    (case gr_MOST_ROOM => first | exact rfl | exact ⟨_, rfl⟩)
    (case gl_MOST_ROWS => k_is)
    (case gr_MOST_ROWS => first | exact rfl | exact ⟨_, rfl⟩)
    (case gl_MOST_SLOTS => k_is)
    (case gr_MOST_SLOTS => first | exact rfl | exact ⟨_, rfl⟩)
    (case gl_MOST_STEPS => k_is)
    (case gr_MOST_STEPS => first | exact rfl | exact ⟨_, rfl⟩)
    (case gl_NEW => k_is)
    (case gr_NEW => first | exact rfl | exact ⟨_, rfl⟩)
    (case gl_OLD => k_is)
    (case gr_OLD => first | exact rfl | exact ⟨_, rfl⟩)
    (case gl_SWEEP => k_is)
    (case gr_SWEEP => first | exact rfl | exact ⟨_, rfl⟩)
#print axioms PySem.Challenge.cw_greywalk_k38_texts_both_ways_holds


