import PyProof.Rows.All
import Wide.All
import OpenK.AllK
import Wide.FinOn
import Lean
import PyProof.EqAt
import PyProof.EqKinds
import PyProof.TupleCall
import KE.KItemsList
import KE.KDictList
import PyProof.Rows.StrSplitAre
import PyProof.Rows.StrWeight2
import PyProof.StrLawsTight
import PyProof.Rows.StrItems
import PyProof.Rows.ReprOcc
import PyProof.StrReplace2
import PyProof.FitsReplace
import PyProof.ZipIter
import PyProof.Rows.FactsT2
import PyProof.Rows.FStrParts
import PyProof.Rows.StrNews2
import PyProof.ToksMono
import PyProof.InstStoreFacts
import PySem.Challenge.RW_greywalk_k39_logs_heard
set_option Elab.async false
set_option linter.all false
set_option maxRecDepth 100000
namespace L2
open PySem PySem.Spec PyProof.Rows

abbrev Key := Sum Int Str
def keyIs : Key → Value → Bool
  | .inl k, v => Value.isInt k v
  | .inr x, v => Value.isStrOf x v
def keyH (w : World) : Key → Int
  | .inl k => hashInt k
  | .inr x => hashStr w x
theorem keyIs_shape : ∀ {k : Key} {v : Value}, keyIs k v = true → (∃ i t, k = Sum.inl i ∧ v = Value.int i t) ∨ (∃ x t, k = Sum.inr x ∧ v = Value.str x t)
  | .inl i, v, h => by
    obtain ⟨t, e⟩ := Value.isInt_shape (k := i) (v := v) h
    exact .inl ⟨i, t, rfl, e⟩
  | .inr x, v, h => by
    obtain ⟨t, e⟩ := Value.isStrOf_shape (x := x) (v := v) h
    exact .inr ⟨x, t, rfl, e⟩
theorem key_ll (a b : Int) : decide ((Sum.inl a : Key) = Sum.inl b) = (a == b) := by
  by_cases e : a = b
  · subst e; simp
  · have h : ¬ (Sum.inl a : Key) = Sum.inl b := fun q => e (Sum.inl.inj q)
    rw [decide_eq_false h]
    exact (beq_eq_false_iff_ne.mpr e).symm
theorem key_rr (a b : Str) : decide ((Sum.inr a : Key) = Sum.inr b) = decide (a = b) := by
  by_cases e : a = b
  · subst e; simp
  · have h : ¬ (Sum.inr a : Key) = Sum.inr b := fun q => e (Sum.inr.inj q)
    rw [decide_eq_false h, decide_eq_false e]
theorem key_lr (a : Int) (b : Str) : decide ((Sum.inl a : Key) = Sum.inr b) = false := decide_eq_false (fun q => nomatch q)
theorem key_rl (a : Str) (b : Int) : decide ((Sum.inr a : Key) = Sum.inl b) = false := decide_eq_false (fun q => nomatch q)

def mixKind (prog : Program) (w : World) : PySem.KeyKind prog w Key where
  is := keyIs
  hash := keyH w
  inj := fun v a b ha hb => by
    rcases keyIs_shape ha with ⟨i, t, rfl, rfl⟩ | ⟨x, t, rfl, rfl⟩
    · rcases keyIs_shape hb with ⟨j, u, rfl, e⟩ | ⟨y, u, rfl, e⟩
      · injection e with e1 _; rw [e1]
      · exact nomatch e
    · rcases keyIs_shape hb with ⟨j, u, rfl, e⟩ | ⟨y, u, rfl, e⟩
      · exact nomatch e
      · injection e with e1 _; rw [e1]
  byValue := fun k v h => by
    rcases keyIs_shape h with ⟨i, t, rfl, rfl⟩ | ⟨x, t, rfl, rfl⟩ <;> rfl
  pyHash := fun hv h => by
    rcases keyIs_shape hv with ⟨i, t, rfl, rfl⟩ | ⟨x, t, rfl, rfl⟩
    · exact wpAny_pyHash_int h
    · exact wpAny_pyHash_str h
  eqBool := fun hu hv h => by
    rcases keyIs_shape hu with ⟨i, t, rfl, rfl⟩ | ⟨x, t, rfl, rfl⟩
    · rcases keyIs_shape hv with ⟨j, u, rfl, rfl⟩ | ⟨y, u, rfl, rfl⟩
      · rw [key_ll] at h; exact wpAny_eqBool_int h
      · rw [key_lr] at h; exact SeqAt.EqAt.int_str i t y u _ _ _ _ h
    · rcases keyIs_shape hv with ⟨j, u, rfl, rfl⟩ | ⟨y, u, rfl, rfl⟩
      · rw [key_rl] at h; exact SeqAt.EqAt.str_int x t j u _ _ _ _ h
      · rw [key_rr] at h; exact wpAny_eqBool_str h
  «strs» := fun k x t v h => by
    rcases keyIs_shape h with ⟨i, u, rfl, e⟩ | ⟨y, u, rfl, e⟩
    · exact nomatch e
    · injection e with e1 _
      subst e1
      cases v <;> rfl

end L2

namespace L2
open PySem PySem.Spec PyProof.Rows

inductive V where
  | non | bl (b : Bool) | int (i : Int) | str (x : Str) | byt (b : Array UInt8) | flt (b : UInt64) | ref (a : Addr) | ty (n : String)
  deriving DecidableEq

def RelV : V → Value → Prop
  | .non, u => u = Value.none
  | .bl b, u => u = Value.bool b
  | .int i, u => ∃ t, u = Value.int i t
  | .str x, u => ∃ t, u = Value.str x t
  | .byt b, u => ∃ t, u = Value.bytes b t
  | .flt b, u => ∃ t, u = Value.float b t
  | .ref a, u => u = Value.ref a
  | .ty n, u => u = Value.type n

abbrev Vals : List V → List Value → Prop := Paired RelV
theorem Vals.length {xs : List V} {us : List Value} (r : Vals xs us) : xs.length = us.length := Paired.length r
theorem Vals.get : ∀ {xs : List V} {us : List Value} {i : Nat} {x : V}, Vals xs us → xs[i]? = some x → ∃ u, us[i]? = some u ∧ RelV x u
  | _, _, _, _, .nil, e => by simp at e
  | _, _, 0, _, .cons r _, e => by simp at e; subst e; exact ⟨_, rfl, r⟩
  | _, _, i + 1, x, .cons _ t, e => by
    obtain ⟨u, h1, h2⟩ := Vals.get (i := i) (x := x) t (by simpa using e)
    exact ⟨u, by simpa using h1, h2⟩
theorem Vals.set {x : V} {u : Value} (r : RelV x u) : ∀ {xs : List V} {us : List Value} (i : Nat), Vals xs us → Vals (xs.set i x) (us.set i u)
  | _, _, _, .nil => .nil
  | _, _, 0, .cons _ t => .cons r t
  | _, _, i + 1, .cons q t => .cons q (Vals.set r i t)
theorem Vals.append : ∀ {xs ys : List V} {us ws : List Value}, Vals xs us → Vals ys ws → Vals (xs ++ ys) (us ++ ws)
  | _, _, _, _, .nil, s => s
  | _, _, _, _, .cons r t, s => .cons r (Vals.append t s)
theorem Vals.take : ∀ {xs : List V} {us : List Value} (n : Nat), Vals xs us → Vals (xs.take n) (us.take n)
  | _, _, 0, _ => .nil
  | _, _, _ + 1, .nil => .nil
  | _, _, n + 1, .cons r t => .cons r (Vals.take n t)
theorem Vals.drop : ∀ {xs : List V} {us : List Value} (n : Nat), Vals xs us → Vals (xs.drop n) (us.drop n)
  | _, _, 0, r => r
  | _, _, _ + 1, .nil => .nil
  | _, _, n + 1, .cons _ t => Vals.drop n t
def RelO : Option V → Option Value → Prop
  | some v, some u => RelV v u
  | none, none => True
  | _, _ => False
def KV {κ : Type} : List (κ × V) → List (κ × Value) → Prop := Paired fun (p : κ × V) (q : κ × Value) => p.1 = q.1 ∧ RelV p.2 q.2

def kV : Key → V
  | .inl i => .int i
  | .inr x => .str x

inductive HO where
    | lst (xs : List V)
    | tup (xs : List V)
    | dK (kvs : List (Key × V)) | dT (kvs : List (List Key × V))
    | set (S : Int → Bool) (n : Nat)
    | ins (C dx : Addr) (fs : List (Str × V))
    | own (x : Addr)
    | xd (fs : List (Str × V))
    | met (f x : Addr)
    | rng (lo hi : Int)
    | frz (o : Obj) (u : HO)
    | tbl (ps : Array Value)
    | ext (φ : Heap → Prop)

abbrev Hp := Addr → Option HO
def upd (H : Hp) (a : Addr) (o : HO) : Hp := fun b => if b = a then some o else H b
theorem upd_same {H : Hp} {a : Addr} {o : HO} : upd H a o a = some o := by unfold upd; rw [if_pos rfl]
theorem upd_ne {H : Hp} {a b : Addr} {o : HO} (h : b ≠ a) : upd H a o b = H b := by unfold upd; rw [if_neg h]
theorem upd_upd {H : Hp} {a : Addr} {o u : HO} : upd (upd H a o) a u = upd H a u := by
  funext b; unfold upd; split <;> rfl
theorem ne_of_none {H : Hp} {a b : Addr} {o : HO} (h : H a = some o) (h' : H b = none) : a ≠ b := by
  intro e; subst e; rw [h] at h'; cases h'

section
variable (P : Program) (w : World)
def ObjOk (H : Hp) (h : Heap) (a : Addr) : HO → Prop
  | .lst xs => xs.length ≤ sizeLine ∧ ∃ (its : List Value) (n : Nat), Vals xs its ∧ h.get? a = some { cls := .type "list", data := .seq its.toArray n }
  | .tup xs => xs.length ≤ sizeLine ∧ ∃ its : List Value, Vals xs its ∧ IsTup h a its.toArray
  | .dK kvs => kvs.length ≤ sizeLine ∧ (a == sysModules) = false ∧ ∃ vs, KV kvs vs ∧ h.DictOf (mixKind P w) a vs
  | .dT kvs => kvs.length ≤ sizeLine ∧ (a == sysModules) = false ∧ ∃ xs : List (List Key × Addr × Value),
      Paired (fun (p : List Key × V) (q : List Key × Addr × Value) => p.1 = q.1 ∧ H q.2.1 = some (.tup (p.1.map kV)) ∧ RelV p.2 q.2.2) kvs xs ∧
      ∃ o es ep, h.get? a = some o ∧ o.ExactDict ∧ o.data = .dict es ep ∧ es.toList = xs.map (entryOfKey (tupleKind (mixKind P w))) ∧ (xs.map (·.1)).Nodup
  | .set S n => h.SetOf (intKind P w) a S n
  | .ins C dx fs => H dx = some (.own a) ∧ fs.length ≤ 1000 ∧ dx ≠ a ∧ h.get? a = some (PySem.W.instObj C dx) ∧
      ∃ mA, h.Ns1 dx mA ∧ (∀ f, RelO (fs.lookup f) (mA f)) ∧ PySem.Within mA (fs.map (·.1))
  | .own _ => ∃ o, h.get? a = some o
  | .xd fs => ∃ mA, h.Ns1 a mA ∧ ∀ f, RelO (fs.lookup f) (mA f)
  | .rng lo hi => ∃ t u v, h.get? a = some { cls := .type "range", data := .fields #[.int lo t, .int hi u, .int 1 v] }
  | .frz o u => h.get? a = some o ∧ ObjOk H h a u
  | .tbl ps => h.get? a = some { cls := .none, data := .fields ps }
  | .met f x => h.get? a = some (PySem.W.methodObj (.ref f) (.ref x))
  | .ext φ => φ h ∧ (∃ o, h.get? a = some o) ∧ ∀ h1 h2 : Heap, φ h1 → (∀ o, h1.get? a = some o → h2.get? a = some o) → φ h2
def HOk (H : Hp) (h : Heap) : Prop := ∀ a o, H a = some o → ObjOk P w H h a o
end

section
variable {P : Program} {w : World} {H H' : Hp} {h h' : Heap} {a : Addr} {o : HO}
theorem ObjOk.lt (x : ObjOk P w H h a o) : a < h.objs.size := by
  cases o with
  | lst xs => obtain ⟨_, _, _, _, e⟩ := x; exact Heap.lt_size e
  | tup xs => obtain ⟨_, _, _, p⟩ := x; exact p.lt
  | dK kvs => obtain ⟨_, _, _, _, o, _, _, e, _⟩ := x; exact Heap.lt_size e
  | dT kvs => obtain ⟨_, _, _, _, o, _, _, e, _⟩ := x; exact Heap.lt_size e
  | set S n => obtain ⟨o, _, _, _, e, _⟩ := x; exact Heap.lt_size e
  | ins C dx fs => obtain ⟨_, _, _, e, _⟩ := x; exact Heap.lt_size e
  | own y => obtain ⟨_, e⟩ := x; exact Heap.lt_size e
  | xd fs => obtain ⟨_, ⟨_, _, _, e, _⟩, _⟩ := x; exact Heap.lt_size e
  | rng lo hi => obtain ⟨_, _, _, e⟩ := x; exact Heap.lt_size e
  | frz ob u => obtain ⟨e, _⟩ := x; exact Heap.lt_size e
  | tbl ps => exact Heap.lt_size (show h.get? a = some _ from x)
  | met f y => exact Heap.lt_size (show h.get? a = some _ from x)
  | ext φ => obtain ⟨_, ⟨_, e⟩, _⟩ := x; exact Heap.lt_size e
theorem Paired.mapP {α β : Type} {F G : α → β → Prop} : ∀ {l₁ : List α} {l₂ : List β}, Paired F l₁ l₂ → (∀ a b, F a b → G a b) → Paired G l₁ l₂
  | _, _, .nil, _ => .nil
  | _, _, .cons r t, f => .cons (f _ _ r) (Paired.mapP t f)
theorem ObjOk.stay (x : ObjOk P w H h a o) (k : ∀ b u, (b = a ∨ H b = some (.own a)) → h.get? b = some u → h'.get? b = some u)
    (ho : ∀ b, H b = some (.own a) → H' b = some (.own a)) (ht : ∀ b xs, H b = some (.tup xs) → H' b = some (.tup xs)) : ObjOk P w H' h' a o := by
  induction o with
  | lst xs => obtain ⟨z, its, n, r, e⟩ := x; exact ⟨z, its, n, r, k _ _ (.inl rfl) e⟩
  | tup xs => obtain ⟨z, its, r, ob, e, c⟩ := x; exact ⟨z, its, r, ob, k _ _ (.inl rfl) e, c⟩
  | dK kvs => obtain ⟨z, y, vs, r, ob, es, ep, e, c⟩ := x; exact ⟨z, y, vs, r, ob, es, ep, k _ _ (.inl rfl) e, c⟩
  | dT kvs =>
    obtain ⟨z, y, xs, r, ob, es, ep, e, c⟩ := x
    exact ⟨z, y, xs, Paired.mapP r fun p q z => ⟨z.1, ht _ _ z.2.1, z.2.2⟩, ob, es, ep, k _ _ (.inl rfl) e, c⟩
  | set S n => obtain ⟨ob, es, ep, t, e, c⟩ := x; exact ⟨ob, es, ep, t, k _ _ (.inl rfl) e, c⟩
  | ins C dx fs =>
    obtain ⟨d, z, ne, e, mA, ⟨od, es, ep, e2, c⟩, r⟩ := x
    exact ⟨ho _ d, z, ne, k _ _ (.inl rfl) e, mA, ⟨od, es, ep, k _ _ (.inr d) e2, c⟩, r⟩
  | own y => obtain ⟨ob, e⟩ := x; exact ⟨ob, k _ _ (.inl rfl) e⟩
  | xd fs => obtain ⟨mA, ⟨od, es, ep, e, c⟩, r⟩ := x; exact ⟨mA, ⟨od, es, ep, k _ _ (.inl rfl) e, c⟩, r⟩
  | rng lo hi => obtain ⟨t, u, v, e⟩ := x; exact ⟨t, u, v, k _ _ (.inl rfl) e⟩
  | frz ob u ih => obtain ⟨e, q⟩ := x; exact ⟨k _ _ (.inl rfl) e, ih q⟩
  | tbl ps =>
    have e : h.get? a = some { cls := .none, data := .fields ps } := x
    show h'.get? a = some { cls := .none, data := .fields ps }
    exact k a _ (.inl rfl) e
  | met f y =>
    have e : h.get? a = some (PySem.W.methodObj (.ref f) (.ref y)) := x
    show h'.get? a = some (PySem.W.methodObj (.ref f) (.ref y))
    exact k a _ (.inl rfl) e
  | ext φ => obtain ⟨p, ⟨o, e⟩, st⟩ := x; exact ⟨st _ _ p fun o q => k _ _ (.inl rfl) q, ⟨o, k _ _ (.inl rfl) e⟩, st⟩
theorem HOk.lt (x : HOk P w H h) (e : H a = some o) : a < h.objs.size := (x a o e).lt
theorem HOk.fresh (x : HOk P w H h) (e : h.objs.size ≤ a) : H a = none := by
  cases q : H a with
  | none => rfl
  | some u => exact absurd (Nat.lt_of_lt_of_le (x.lt q) e) (Nat.lt_irrefl _)
theorem HOk.kept (x : HOk P w H h) (k : ∀ b u, h.get? b = some u → h'.get? b = some u) : HOk P w H h' := fun a o e =>
  (x a o e).stay (fun b u _ q => k b u q) (fun _ q => q) fun _ _ q => q
theorem HOk.laid (x : HOk P w H h) (k : ∀ b u, h.get? b = some u → h'.get? b = some u) (hp : h.objs.size ≤ a) (new : ObjOk P w (upd H a o) h' a o) : HOk P w (upd H a o) h' := fun b u e => by
  have hn := x.fresh hp
  by_cases hb : b = a
  · subst hb; rw [upd_same] at e; cases e; exact new
  · rw [upd_ne hb] at e
    exact (x b u e).stay (fun c v _ q => k c v q) (fun c q => by rw [upd_ne (ne_of_none q hn)]; exact q) fun c xs q => by rw [upd_ne (ne_of_none q hn)]; exact q
end

def Rd (H : Hp) (a : Addr) (u : HO) : Prop := H a = some u ∨ ∃ o, H a = some (.frz o u)
theorem Rd.ok {P : Program} {w : World} {H : Hp} {h : Heap} {a : Addr} {u : HO} (r : Rd H a u) (x : HOk P w H h) : ObjOk P w H h a u := by
  rcases r with r | ⟨o, r⟩
  · exact x a u r
  · obtain ⟨_, q⟩ := x a _ r
    exact q
def Mut : Option HO → Prop
  | some (.lst _) => True
  | some (.dK _) => True
  | some (.dT _) => True
  | some (.set _ _) => True
  | some (.ins _ _ _) => True
  | some (.ext _) => True
  | _ => False
section
variable {P : Program} {w : World} {H : Hp} {h h' : Heap} {x e : Addr} {o' : HO}
theorem HOk.write (ok : HOk P w H h) (mu : Mut (H x)) (he : e = x ∨ H e = some (.own x)) (k : ∀ b u, b ≠ e → h.get? b = some u → h'.get? b = some u) (heo : ∃ u, h'.get? e = some u)
    (new : ObjOk P w (upd H x o') h' x o') : HOk P w (upd H x o') h' := fun b u q => by
  have nown : ∀ c y, H c = some (.own y) → c ≠ x := fun c y r z => by subst z; rw [r] at mu; exact mu
  have ntup : ∀ c xs, H c = some (.tup xs) → c ≠ x := fun c xs r z => by subst z; rw [r] at mu; exact mu
  by_cases hb : b = x
  · subst hb; rw [upd_same] at q; cases q; exact new
  · rw [upd_ne hb] at q
    by_cases hbe : b = e
    · have q' : H b = some (.own x) := by
        rcases he with z | z
        · exact absurd (hbe.trans z) hb
        · rw [hbe]; exact z
      rw [q] at q'; cases q'
      obtain ⟨v, hv⟩ := heo
      exact ⟨v, by rw [hbe]; exact hv⟩
    · refine (ok b u q).stay (fun c v hc r => k c v ?_ r) (fun c r => by rw [upd_ne (nown c b r)]; exact r) fun c xs r => by rw [upd_ne (ntup c xs r)]; exact r
      rcases hc with rfl | hc
      · exact hbe
      · rintro rfl
        rcases he with z | z
        · exact nown c b hc z
        · rw [hc] at z; cases z; exact hb rfl
end

structure Un (fs ex : List Addr) (H H' : Hp) (h h' : Heap) : Prop where
  keep : ∀ b o, h.get? b = some o → H b = none → b ∉ fs → b ∉ ex → h'.get? b = some o
  slot : ∀ b o, h.get? b = some o → H b = none → b ∈ fs → b ∉ ex → ∃ sl, h'.get? b = some { o with slots := sl }
  free : ∀ b o, h.get? b = some o → H b = none → b ∉ ex → H' b = none
  there : ∀ b o, h.get? b = some o → b ∉ ex → ∃ o', h'.get? b = some o'
  tups : ∀ b xs, H b = some (.tup xs) → H' b = some (.tup xs)
  frzs : ∀ b o u, H b = some (.frz o u) → H' b = some (.frz o u)
  tbls : ∀ b ps, H b = some (.tbl ps) → ∃ more, H' b = some (.tbl (ps ++ more))
section
variable {fs fs' ex ex' : List Addr} {H H1 H2 : Hp} {h h1 h2 h' : Heap} {a x e : Addr} {o : HO}
theorem Un.any (u : Un fs ex H H1 h h1) {b : Addr} {ob : Obj} (q : h.get? b = some ob) (n : H b = none) (hx : b ∉ ex) : ∃ sl, h1.get? b = some { ob with slots := sl } := by
  by_cases hb : b ∈ fs
  · exact u.slot b ob q n hb hx
  · exact ⟨ob.slots, u.keep b ob q n hb hx⟩
theorem Un.kept (k : ∀ b u, h.get? b = some u → h'.get? b = some u) : Un fs ex H H h h' :=
  ⟨fun b ob q _ _ _ => k b ob q, fun b ob q _ _ _ => ⟨ob.slots, k b ob q⟩, fun _ _ _ n _ => n, fun b ob q _ => ⟨ob, k b ob q⟩, fun _ _ q => q, fun _ _ _ q => q, fun _ ps q => ⟨#[], by rw [q]; simp⟩⟩
theorem Un.refl : Un fs ex H H h h := Un.kept fun _ _ q => q
theorem Un.laid (k : ∀ b u, h.get? b = some u → h'.get? b = some u) (hp : h.objs.size ≤ a) (hn : H a = none) : Un fs ex H (upd H a o) h h' where
  keep := fun b u q _ _ _ => k b u q
  slot := fun b u q _ _ _ => ⟨u.slots, k b u q⟩
  free := fun b u q n _ => by rw [upd_ne (Nat.ne_of_lt (Nat.lt_of_lt_of_le (Heap.lt_size q) hp))]; exact n
  there := fun b u q _ => ⟨u, k b u q⟩
  tups := fun b xs q => by rw [upd_ne (ne_of_none q hn)]; exact q
  frzs := fun b u xs q => by rw [upd_ne (ne_of_none q hn)]; exact q
  tbls := fun b ps q => ⟨#[], by rw [upd_ne (ne_of_none q hn), q]; simp⟩
theorem Un.write (mu : Mut (H x)) (he : e = x ∨ H e = some (.own x)) (k : ∀ b u, b ≠ e → h.get? b = some u → h'.get? b = some u) (heo : ∃ u, h'.get? e = some u) : Un fs ex H (upd H x o) h h' := by
  have hx : ∀ b, H b = none → b ≠ x := fun b n z => by subst z; rw [n] at mu; exact mu
  have hb : ∀ b, H b = none → b ≠ e := fun b n z => by
    subst z
    rcases he with r | r
    · exact hx b n r
    · rw [n] at r; cases r
  have hm : ∀ b u, H b = some u → ¬ Mut (some u) → b ≠ x := fun b u q nm z => by subst z; rw [q] at mu; exact nm mu
  refine ⟨fun b u q n _ _ => k b u (hb b n) q, fun b u q n _ _ => ⟨u.slots, k b u (hb b n) q⟩, fun b u q n _ => by rw [upd_ne (hx b n)]; exact n, fun b u q _ => ?_,
    fun b xs q => by rw [upd_ne (hm b _ q fun z => z)]; exact q, fun b u xs q => by rw [upd_ne (hm b _ q fun z => z)]; exact q, fun b ps q => ⟨#[], by rw [upd_ne (hm b _ q fun z => z), q]; simp⟩⟩
  by_cases hbe : b = e
  · subst hbe; exact heo
  · exact ⟨u, k b u hbe q⟩
end

def trk (h : Heap) (H : Hp) : List Addr := (List.range h.objs.size).filter fun a => (H a).isSome
def hidT (h : Heap) (H : Hp) : Heap := PySem.W.hideAll h (trk h H)
theorem hidT_size (h : Heap) (H : Hp) : (hidT h H).objs.size = h.objs.size := PySem.W.hideAll_size _ _
theorem hidT_get {h : Heap} {H : Hp} {b : Addr} {o : Obj} (e : h.get? b = some o) (n : H b = none) : (hidT h H).get? b = some o :=
  PySem.W.hideAll_get _ e fun hm => by
    have q : (H b).isSome = true := (List.mem_filter.mp hm).2
    rw [n] at q; simp at q
theorem of_hidT {h : Heap} {H : Hp} {b : Addr} {o : Obj} (e : (hidT h H).get? b = some o) : h.get? b = some o ∧ H b = none := by
  have e' : h.get? b = some o := PySem.W.of_hideAll (trk h H) e
  refine ⟨e', ?_⟩
  cases q : H b with
  | none => rfl
  | some x =>
    have hm : b ∈ trk h H := List.mem_filter.mpr ⟨List.mem_range.mpr (Heap.lt_size e'), by simp [q]⟩
    have z : (hidT h H).get? b = none := PySem.W.hideAll_none (trk h H) hm
    rw [z] at e; cases e

def allNews (g h : Heap) (L : Addr) : List (Addr × Obj) := (List.range h.objs.size).filterMap fun a => if a = L ∨ (g.get? a).isSome = true then none else (h.get? a).map fun o => (a, o)
def rest (g h : Heap) (L d : Addr) : List (Addr × Obj) := (allNews g h L).filter fun p => decide (p.1 ≠ d)
end L2

namespace L2
open PySem PySem.Spec PyProof.Rows

structure Mod (K : PySem.W.Frag) (mg : Str → Option Value) (base : Heap) : Prop where
  kin : K.In base
  glob : base.Ns mainGlobals mg
  blt : ∃ mb, base.Ns builtinsNs mb ∧ ∀ x : Str, x ≠ "__name__" → mb x = bootBuiltins x
  nolimit : base.NoLimit

structure Cx where
  prog : Program
  w : World
  K : PySem.W.Frag
  mg : Str → Option Value
  base : Heap
  A : Around
  N : List Str
  s₀ : Shared
  H₀ : Hp
  env : Env
  outer : List Env
  stack : List Env
  ex : List Addr
  fn : Str → Bool
  calm : Bool
  pn : List (Addr × Obj)
  xe : Value → Shared → Prop
def frs (l : List Env) : List Addr := l.filterMap (·.frame)
abbrev Cx.fs (X : Cx) : List Addr := frs X.outer

def Vis (sc : Scope) (x : Str) : Prop := sc.names.lookup x = some .local ∨ sc.names.lookup x = some .cell ∨ sc.names.lookup x = some .free
def Loc (sc : Scope) (x : Str) : Prop := sc.names.lookup x = some .local ∨ sc.names.lookup x = some .cell
def Look (env : Env) (h : Heap) (m : Str → Option Value) (x : Str) (u : Value) : Prop :=
  (env.kindOf x = some .local ∧ m x = some u) ∨ ((env.kindOf x = some .cell ∨ env.kindOf x = some .free) ∧ ∃ c, env.cells.lookup x = some c ∧ h.IsCell c (some u))

structure Cx.Ok (X : Cx) : Prop where
  mod : Mod X.K X.mg X.base
  kind : X.env.scope.kind = .function
  glob : X.env.globals = mainGlobals
  blt : X.env.builtins = builtinsNs
  above : X.s₀.heap.objs.size ≤ X.env.locals
  inj : ∀ x y c, X.env.cells.lookup x = some c → X.env.cells.lookup y = some c → x = y
  has : ∀ x, (X.env.kindOf x = some .cell ∨ X.env.kindOf x = some .free) → ∃ c, X.env.cells.lookup x = some c
  cab : ∀ x c, X.fn x = true → X.env.cells.lookup x = some c → X.s₀.heap.objs.size ≤ c
  hd : X.calm = true → X.A.handled = none
  frames : X.A.frames = some X.stack
  stk : X.stack = X.outer ∨ (X.stack = X.env :: X.outer ∧ X.env.frame = some X.env.locals)
  exf : ∀ b ∈ X.ex, b ≠ X.env.locals ∧ ∀ x c, X.env.cells.lookup x = some c → c ≠ b
  bs : ∀ b o, X.base.get? b = some o → X.s₀.heap.get? b = some o ∧ X.H₀ b = none
  bsz : X.base.objs.size ≤ X.s₀.heap.objs.size
  noex : ∀ b o, X.base.get? b = some o → b ∉ X.ex
  exfs : ∀ b ∈ X.ex, b ∉ X.fs
  funs : X.s₀.heap.FunFrames X.base X.outer
  frf : ∀ b ∈ X.fs, X.H₀ b = none

structure Inv (X : Cx) (pins : List (Addr × Obj)) (σ : List (Option V)) (H : Hp) (s : Shared) : Prop where
  ok : X.Ok
  os : s.os = X.s₀.os
  bare : AllBare s.gens
  base : Un X.fs X.ex X.H₀ H X.s₀.heap s.heap
  loc : ∃ m, s.heap.Ns X.env.locals m ∧ ∀ (i : Nat) (x : Str) (v : V), X.N[i]? = some x → σ[i]? = some (some v) → Vis X.env.scope x → ∃ u, RelV v u ∧ Look X.env s.heap m x u
  cell : ∀ x c, X.env.cells.lookup x = some c → ∃ v, s.heap.IsCell c v
  free : H X.env.locals = none
  freeC : ∀ x c, X.env.cells.lookup x = some c → H c = none
  pin : ∀ p ∈ X.pn ++ pins, s.heap.get? p.1 = some p.2 ∧ H p.1 = none ∧ p.1 ≠ X.env.locals ∧ p.1 ∉ X.fs ∧ ∀ v, p.2.data ≠ .cell v
  hok : HOk X.prog X.w H s.heap
  len : σ.length = X.N.length

section
variable {X : Cx} {pins : List (Addr × Obj)} {σ : List (Option V)} {H H' : Hp} {s : Shared} {h' : Heap}

theorem Cx.Ok.nofr (ok : X.Ok) {b : Addr} {o : Obj} (e : X.base.get? b = some o) : b ∉ X.fs := fun hb => by
  have := (ok.funs.mem hb).1
  rw [e] at this; cases this
theorem Inv.bs (I : Inv X pins σ H s) : ∀ b o, X.base.get? b = some o → s.heap.get? b = some o ∧ H b = none := fun b o e =>
  ⟨I.base.keep b o (I.ok.bs b o e).1 (I.ok.bs b o e).2 (I.ok.nofr e) (I.ok.noex b o e), I.base.free b o (I.ok.bs b o e).1 (I.ok.bs b o e).2 (I.ok.noex b o e)⟩
theorem Inv.bk (I : Inv X pins σ H s) : ∀ b o, X.base.get? b = some o → s.heap.get? b = some o := fun b o e => (I.bs b o e).1
theorem Inv.mod (I : Inv X pins σ H s) : Mod X.K X.mg X.base := I.ok.mod
theorem Inv.kIn (I : Inv X pins σ H s) : X.K.In s.heap := I.ok.mod.kin.keeps I.bk
theorem Inv.lt (I : Inv X pins σ H s) : X.env.locals < s.heap.objs.size := let ⟨_, hn, _⟩ := I.loc; hn.lt
theorem Inv.sz (I : Inv X pins σ H s) : X.s₀.heap.objs.size ≤ s.heap.objs.size := Nat.le_trans I.ok.above (Nat.le_of_lt I.lt)
theorem Inv.nofs (I : Inv X pins σ H s) {a : Addr} (h : s.heap.objs.size ≤ a) : a ∉ X.fs := fun hb => by
  obtain ⟨_, o, ho, _⟩ := I.ok.funs.mem hb
  exact absurd (Nat.lt_of_lt_of_le (Heap.lt_size ho) (Nat.le_trans I.sz h)) (Nat.lt_irrefl _)
theorem Inv.cne (I : Inv X pins σ H s) : ∀ x c, X.env.cells.lookup x = some c → c ≠ X.env.locals := fun x c e z => by
  obtain ⟨v, o, ho, hd⟩ := I.cell x c e
  obtain ⟨m, ⟨o', es, ep, ho', hd', _⟩, _⟩ := I.loc
  rw [z, ho'] at ho; cases ho; rw [hd'] at hd; cases hd
theorem Inv.funs (I : Inv X pins σ H s) : s.heap.FunFrames X.base X.outer := by
  have all : ∀ (l : List Env), (∀ b ∈ frs l, b ∈ X.fs) → X.s₀.heap.FunFrames X.base l → s.heap.FunFrames X.base l := by
    intro l
    induction l with
    | nil => intro _ _; trivial
    | cons env r ih =>
      intro hs hl
      obtain ⟨hk, ⟨L, o, hf, hn, ho, hd⟩, hr⟩ := hl
      have hL : L ∈ X.fs := hs L (by unfold frs; rw [List.filterMap_cons, hf]; exact List.mem_cons_self)
      obtain ⟨sl, e⟩ := I.base.slot L o ho (I.ok.frf L hL) hL fun z => I.ok.exfs L z hL
      exact ⟨hk, ⟨L, _, hf, hn, e, hd⟩, ih (fun b hb => hs b (by unfold frs; rw [List.filterMap_cons, hf]; exact List.mem_cons_of_mem _ hb)) hr⟩
  exact all X.outer (fun _ hb => hb) I.ok.funs

theorem Inv.stack (I : Inv X pins σ H s) : s.heap.FunFrames X.base X.stack := by
  rcases I.ok.stk with e | ⟨e, hf⟩
  · rw [e]; exact I.funs
  · rw [e]
    obtain ⟨m, hn, _⟩ := I.loc
    refine .cons (by rw [I.ok.kind]; decide) hf hn ?_ I.funs
    exact Heap.get?_none_of_le (Nat.le_trans I.ok.bsz I.ok.above)
theorem Inv.stkSub (I : Inv X pins σ H s) : ∀ b ∈ frs X.stack, b ∈ X.env.locals :: X.fs := fun b hb => by
  rcases I.ok.stk with e | ⟨e, hf⟩
  · rw [e] at hb; exact List.mem_cons_of_mem _ hb
  · rw [e] at hb
    unfold frs at hb
    rw [List.filterMap_cons, hf] at hb
    exact hb
theorem Inv.stkFree (I : Inv X pins σ H s) : ∀ b ∈ frs X.stack, H b = none := fun b hb => by
  rcases List.mem_cons.mp (I.stkSub b hb) with e | hb
  · rw [e]; exact I.free
  · obtain ⟨_, o, ho, _⟩ := I.ok.funs.mem hb
    exact I.base.free b o ho (I.ok.frf b hb) fun z => I.ok.exfs b z hb

theorem Inv.step {g' : Array GenState} {t' : Nat} {d' : Drawn} {ch : List Addr} (I : Inv X pins σ H s)
    (hch : ∀ b ∈ ch, (b ∈ X.ex ∨ X.s₀.heap.objs.size ≤ b) ∧ b ≠ X.env.locals ∧ (∀ x c, X.env.cells.lookup x = some c → c ≠ b) ∧ ∀ p ∈ X.pn ++ pins, p.1 ≠ b)
    (keep : ∀ b o, b ≠ X.env.locals → b ∉ X.fs → b ∉ ch → s.heap.get? b = some o → H b = none → h'.get? b = some o)
    (slot : ∀ b o, b ≠ X.env.locals → b ∈ X.fs → b ∉ ch → s.heap.get? b = some o → H b = none → ∃ sl, h'.get? b = some { o with slots := sl }) (free : ∀ b o, b ∉ ch → s.heap.get? b = some o → H b = none → H' b = none)
    (there : ∀ b o, b ∉ ch → s.heap.get? b = some o → ∃ o', h'.get? b = some o')
    (tups : ∀ b xs, H b = some (.tup xs) → H' b = some (.tup xs)) (frzs : ∀ b o u, H b = some (.frz o u) → H' b = some (.frz o u)) (tbls : ∀ b ps, H b = some (.tbl ps) → ∃ more, H' b = some (.tbl (ps ++ more)))
    (ns : ∀ m, s.heap.Ns X.env.locals m → h'.Ns X.env.locals m) (hok : HOk X.prog X.w H' h') (hg : AllBare g') :
    Inv X pins σ H' { s with heap := h', gens := g', drawn := d', toks := t' } := by
  have neL : ∀ b o, X.s₀.heap.get? b = some o → b ≠ X.env.locals := fun b o e => Nat.ne_of_lt (Nat.lt_of_lt_of_le (Heap.lt_size e) I.ok.above)
  have neC : ∀ b o, X.s₀.heap.get? b = some o → b ∉ X.ex → b ∉ ch := fun b o e hx hb => by
    rcases (hch b hb).1 with z | z
    · exact hx z
    · exact absurd (Nat.lt_of_lt_of_le (Heap.lt_size e) z) (Nat.lt_irrefl _)
  have cellK : ∀ x c, X.env.cells.lookup x = some c → ∀ v, s.heap.IsCell c v → h'.IsCell c v := fun x c e v ⟨o, ho, hd⟩ => by
    have nch : c ∉ ch := fun z => (hch c z).2.2.1 x c e rfl
    by_cases hc : c ∈ X.fs
    · obtain ⟨sl, q⟩ := slot c o (I.cne x c e) hc nch ho (I.freeC x c e)
      exact ⟨_, q, hd⟩
    · exact ⟨o, keep c o (I.cne x c e) hc nch ho (I.freeC x c e), hd⟩
  refine ⟨I.ok, I.os, hg, ⟨fun b o e n hb hx => ?_, fun b o e n hb hx => ?_, fun b o e n hx => ?_, fun b o e hx => ?_, fun b xs e => tups b xs (I.base.tups b xs e), fun b o xs e => frzs b o xs (I.base.frzs b o xs e), fun b ps e => ?_⟩, ?_, fun x c e => ?_, ?_, fun x c e => ?_, fun p hp => ?_, hok, I.len⟩
  · exact keep b o (neL b o e) hb (neC b o e hx) (I.base.keep b o e n hb hx) (I.base.free b o e n hx)
  · obtain ⟨sl, e1⟩ := I.base.slot b o e n hb hx
    obtain ⟨sl', e2⟩ := slot b _ (neL b o e) hb (neC b o e hx) e1 (I.base.free b o e n hx)
    exact ⟨sl', e2⟩
  · obtain ⟨o', e1⟩ := I.base.there b o e hx
    exact free b o' (neC b o e hx) e1 (I.base.free b o e n hx)
  · obtain ⟨o', e1⟩ := I.base.there b o e hx
    exact there b o' (neC b o e hx) e1
  · obtain ⟨m1, e1⟩ := I.base.tbls b ps e
    obtain ⟨m2, e2⟩ := tbls b _ e1
    exact ⟨m1 ++ m2, by rw [e2, Array.append_assoc]⟩
  · obtain ⟨m, hn, hl⟩ := I.loc
    refine ⟨m, ns m hn, fun i x v e1 e2 e3 => ?_⟩
    obtain ⟨u, r, l⟩ := hl i x v e1 e2 e3
    refine ⟨u, r, ?_⟩
    rcases l with l | ⟨k, c, e, z⟩
    · exact .inl l
    · exact .inr ⟨k, c, e, cellK x c e _ z⟩
  · obtain ⟨v, z⟩ := I.cell x c e
    exact ⟨v, cellK x c e v z⟩
  · obtain ⟨m, ⟨o, _, _, ho, _⟩, _⟩ := I.loc
    exact free _ o (fun z => (hch _ z).2.1 rfl) ho I.free
  · obtain ⟨v, o, ho, hd⟩ := I.cell x c e
    exact free c o (fun z => (hch c z).2.2.1 x c e rfl) ho (I.freeC x c e)
  · obtain ⟨e, n, ne, nf, d⟩ := I.pin p hp
    have nch : p.1 ∉ ch := fun z => (hch p.1 z).2.2.2 p hp rfl
    exact ⟨keep p.1 p.2 ne nf nch e n, free p.1 p.2 nch e n, ne, nf, d⟩
theorem Inv.un {t' : Nat} (I : Inv X pins σ H s) (u : Un X.fs [] H H' s.heap h') (hok : HOk X.prog X.w H' h') : Inv X pins σ H' { s with heap := h', toks := t' } := by
  obtain ⟨m, ⟨o, es, ep, ho, r⟩, _⟩ := id I.loc
  obtain ⟨sl, hL⟩ := u.any ho I.free (by simp)
  exact I.step (g' := s.gens) (d' := s.drawn) (ch := []) (fun _ z => nomatch z) (fun b o _ hb _ e n => u.keep b o e n hb (by simp)) (fun b o _ hb _ e n => u.slot b o e n hb (by simp)) (fun b o _ e n => u.free b o e n (by simp)) (fun b o _ e => u.there b o e (by simp)) u.tups u.frzs u.tbls (fun m' hm => by
    obtain ⟨o', es', ep', ho', r'⟩ := hm
    rw [ho] at ho'; cases ho'
    exact ⟨_, es', ep', hL, r'⟩) hok I.bare
theorem Inv.call {g' : Array GenState} {t' : Nat} {d' : Drawn} {ch : List Addr} (I : Inv X pins σ H s) (u : Un (frs X.stack) ch H H' s.heap h') (hok : HOk X.prog X.w H' h') (hg : AllBare g')
    (hch : ∀ b ∈ ch, (b ∈ X.ex ∨ X.s₀.heap.objs.size ≤ b) ∧ b ≠ X.env.locals ∧ (∀ x c, X.env.cells.lookup x = some c → c ≠ b) ∧ ∀ p ∈ X.pn ++ pins, p.1 ≠ b) :
    Inv X pins σ H' { s with heap := h', gens := g', drawn := d', toks := t' } := by
  obtain ⟨m, ⟨o, es, ep, ho, r⟩, _⟩ := id I.loc
  obtain ⟨sl, hL⟩ := u.any ho I.free fun z => (hch _ z).2.1 rfl
  exact I.step (ch := ch) hch (fun b o hL hb hc e n => u.keep b o e n (fun z => (List.mem_cons.mp (I.stkSub b z)).elim hL hb) hc) (fun b o _ _ hc e n => u.any e n hc) (fun b o hc e n => u.free b o e n hc) (fun b o hc e => u.there b o e hc) u.tups u.frzs u.tbls (fun m' hm => by
    obtain ⟨o', es', ep', ho', r'⟩ := hm
    rw [ho] at ho'; cases ho'
    exact ⟨_, es', ep', hL, r'⟩) hok hg
theorem Inv.turned {t' : Nat} {it : Addr} (I : Inv X pins σ H s) (k : ∀ b o, b ≠ it → s.heap.get? b = some o → h'.get? b = some o) (hn : H it = none) (hL : it ≠ X.env.locals)
    (h1 : it ∈ X.ex ∨ X.s₀.heap.objs.size ≤ it) (h2 : ∀ x c, X.env.cells.lookup x = some c → c ≠ it) (h3 : ∀ p ∈ X.pn ++ pins, p.1 ≠ it) : Inv X pins σ H { s with heap := h', toks := t' } := by
  have nit : ∀ b u, H b = some u → b ≠ it := fun b u e z => by rw [z, hn] at e; cases e
  refine I.step (g' := s.gens) (d' := s.drawn) (ch := [it]) (fun b hb => ?_) (fun b o _ _ hc e _ => k b o (fun z => hc (by simp [z])) e) (fun b o _ _ hc e _ => ⟨o.slots, k b o (fun z => hc (by simp [z])) e⟩) (fun _ _ _ _ n => n)
    (fun b o hc e => ⟨o, k b o (fun z => hc (by simp [z])) e⟩) (fun _ _ e => e) (fun _ _ _ e => e) (fun b ps e => ⟨#[], by rw [e]; simp⟩) (fun m hm => ?_) (fun b u e => ?_) I.bare
  · have e : b = it := by simpa using hb
    subst e
    exact ⟨h1, hL, h2, h3⟩
  · obtain ⟨o, es, ep, ho, r⟩ := hm
    exact ⟨o, es, ep, k _ o (Ne.symm hL) ho, r⟩
  · refine (I.hok b u e).stay (fun c v hc q => k c v ?_ q) (fun _ q => q) fun _ _ q => q
    rcases hc with z | z
    · rw [z]; exact nit b u e
    · exact nit c _ z
theorem Inv.tok (I : Inv X pins σ H s) (t : Nat) : Inv X pins σ H { s with toks := t } := I.un (h' := s.heap) (t' := t) Un.refl I.hok
theorem Inv.kept {t' : Nat} (I : Inv X pins σ H s) (k : ∀ b u, s.heap.get? b = some u → h'.get? b = some u) : Inv X pins σ H { s with heap := h', toks := t' } := I.un (Un.kept k) (I.hok.kept k)
theorem Inv.laid {a : Addr} {o : HO} {t' : Nat} (I : Inv X pins σ H s) (k : ∀ b u, s.heap.get? b = some u → h'.get? b = some u) (hp : s.heap.objs.size ≤ a) (new : ObjOk X.prog X.w (upd H a o) h' a o) :
    Inv X pins σ (upd H a o) { s with heap := h', toks := t' } := I.un (Un.laid k hp (I.hok.fresh hp)) (I.hok.laid k hp new)
theorem Inv.write {x e : Addr} {o : HO} {t' : Nat} (I : Inv X pins σ H s) (mu : Mut (H x)) (he : e = x ∨ H e = some (.own x)) (k : ∀ b u, b ≠ e → s.heap.get? b = some u → h'.get? b = some u) (heo : ∃ u, h'.get? e = some u)
    (new : ObjOk X.prog X.w (upd H x o) h' x o) : Inv X pins σ (upd H x o) { s with heap := h', toks := t' } := I.un (Un.write mu he k heo) (I.hok.write mu he k heo new)
theorem Inv.pins_of {pins' : List (Addr × Obj)} (I : Inv X pins σ H s) (h : ∀ p ∈ pins', s.heap.get? p.1 = some p.2 ∧ H p.1 = none ∧ p.1 ≠ X.env.locals ∧ p.1 ∉ X.fs ∧ ∀ v, p.2.data ≠ .cell v) : Inv X pins' σ H s :=
  ⟨I.ok, I.os, I.bare, I.base, I.loc, I.cell, I.free, I.freeC, fun p hp => (List.mem_append.mp hp).elim (fun z => I.pin p (List.mem_append_left _ z)) (h p), I.hok, I.len⟩

theorem nodup_ix {N : List Str} (hN : N.Nodup) {i j : Nat} {x : Str} (a : N[i]? = some x) (b : N[j]? = some x) : i = j := by
  obtain ⟨h1, e1⟩ := List.getElem?_eq_some_iff.mp a
  obtain ⟨h2, e2⟩ := List.getElem?_eq_some_iff.mp b
  exact (List.getElem_inj hN).mp (e1.trans e2.symm)

theorem store_ok2 {M : Model} {A : Around} {E : Value → Shared → Prop} {i : Nat} {x : Str} {v : V} {u : Value} {Q : Unit → Shared → Prop} (I : Inv X pins σ H s) (hN : X.N.Nodup) (hi : X.N[i]? = some x) (hx : Loc X.env.scope x) (r : RelV v u)
    (h : ∀ s', Inv X pins (σ.set i (some v)) H s' → (∃ a, Heap.SameBut a s.heap s'.heap ∧ (a = X.env.locals ∨ X.env.cells.lookup x = some a)) → Q () s') (hf : X.fn x = true ∨ X.env.scope.names.lookup x = some .local := by first | exact .inl rfl | exact .inr rfl | assumption) : wpAny M A (storeName X.env x u) Q E s := by
  obtain ⟨m, hn, hl⟩ := id I.loc
  have hcls : (X.env.scope.kind == .class || (X.env.scope.kind == .module && X.env.locals != X.env.globals)) = false := by rw [I.ok.kind]; rfl
  have hiσ : i < σ.length := by rw [I.len]; exact (List.getElem?_eq_some_iff.mp hi).1
  have cne := I.cne
  have tracked : ∀ {a : Addr} {h' : Heap}, (∃ o, s.heap.get? a = some o ∧ H a = none) → Heap.SameBut a s.heap h' → HOk X.prog X.w H h' := fun {a h'} ha hs b ob e => by
    obtain ⟨_, _, hfree⟩ := ha
    refine (I.hok b ob e).stay (fun c w' hc q => (hs.2 c ?_).trans q) (fun _ q => q) fun _ _ q => q
    rintro rfl
    rcases hc with rfl | hc
    · rw [hfree] at e; cases e
    · rw [hfree] at hc; cases hc
  rcases hx with hk | hk
  · refine wpAny_storeName_local hk hn (fun h' hn' hs => ?_) hcls
    obtain ⟨oL, _, _, hoL, _⟩ := id hn
    refine h _ ⟨I.ok, I.os, I.bare, ⟨fun b o e n hb hx => ?_, fun b o e n hb hx => ?_, I.base.free, fun b o e hx => ?_, I.base.tups, I.base.frzs, I.base.tbls⟩, ⟨_, hn', fun j y v' e1 e2 e3 => ?_⟩, fun y c e => ?_, I.free, I.freeC, fun p hp => ?_, tracked ⟨oL, hoL, I.free⟩ hs, by simpa using I.len⟩ ⟨_, hs, .inl rfl⟩
    · exact (hs.2 b (Nat.ne_of_lt (Nat.lt_of_lt_of_le (Heap.lt_size e) I.ok.above))).trans (I.base.keep b o e n hb hx)
    · obtain ⟨sl, e1⟩ := I.base.slot b o e n hb hx
      exact ⟨sl, (hs.2 b (Nat.ne_of_lt (Nat.lt_of_lt_of_le (Heap.lt_size e) I.ok.above))).trans e1⟩
    · obtain ⟨o', e1⟩ := I.base.there b o e hx
      exact ⟨o', (hs.2 b (Nat.ne_of_lt (Nat.lt_of_lt_of_le (Heap.lt_size e) I.ok.above))).trans e1⟩
    · by_cases hj : j = i
      · subst hj
        rw [hi] at e1; cases e1
        rw [List.getElem?_set_self hiσ] at e2
        cases e2
        exact ⟨u, r, .inl ⟨hk, by simp⟩⟩
      · rw [List.getElem?_set_ne (Ne.symm hj)] at e2
        obtain ⟨u', r', q⟩ := hl j y v' e1 e2 e3
        refine ⟨u', r', ?_⟩
        rcases q with ⟨k, e⟩ | ⟨k, c, e, z⟩
        · refine .inl ⟨k, ?_⟩
          have : y ≠ x := fun e => hj (nodup_ix hN e1 (e ▸ hi))
          simp [this, e]
        · exact .inr ⟨k, c, e, z.sameBut hs (cne y c e)⟩
    · obtain ⟨w', z⟩ := I.cell y c e
      exact ⟨w', z.sameBut hs (cne y c e)⟩
    · obtain ⟨e, n, ne, nf, d⟩ := I.pin p hp
      exact ⟨(hs.2 p.1 ne).trans e, n, ne, nf, d⟩
  · have hfn : X.fn x = true := by
      rcases hf with z | z
      · exact z
      · rw [z] at hk; cases hk
    obtain ⟨c, hc⟩ := I.ok.has x (.inl hk)
    obtain ⟨w', z⟩ := I.cell x c hc
    refine wpAny_storeName_cell I.ok.kind hk hc z (fun h' hc' hs => ?_)
    obtain ⟨oc, hoc, hocd⟩ := id z
    refine h { s with heap := h' } ⟨I.ok, I.os, I.bare, ⟨fun b o e n hb hx => ?_, fun b o e n hb hx => ?_, I.base.free, fun b o e hx => ?_, I.base.tups, I.base.frzs, I.base.tbls⟩, ⟨m, hn.sameBut hs (Ne.symm (cne x c hc)), fun j y v' e1 e2 e3 => ?_⟩, fun y c' e => ?_, I.free, I.freeC, fun p hp => ?_, tracked ⟨oc, hoc, I.freeC x c hc⟩ hs, by simpa using I.len⟩ ⟨c, hs, .inr hc⟩
    · exact (hs.2 b (Nat.ne_of_lt (Nat.lt_of_lt_of_le (Heap.lt_size e) (I.ok.cab x c hfn hc)))).trans (I.base.keep b o e n hb hx)
    · obtain ⟨sl, e1⟩ := I.base.slot b o e n hb hx
      exact ⟨sl, (hs.2 b (Nat.ne_of_lt (Nat.lt_of_lt_of_le (Heap.lt_size e) (I.ok.cab x c hfn hc)))).trans e1⟩
    · obtain ⟨o', e1⟩ := I.base.there b o e hx
      exact ⟨o', (hs.2 b (Nat.ne_of_lt (Nat.lt_of_lt_of_le (Heap.lt_size e) (I.ok.cab x c hfn hc)))).trans e1⟩
    · by_cases hj : j = i
      · subst hj
        rw [hi] at e1; cases e1
        rw [List.getElem?_set_self hiσ] at e2
        cases e2
        exact ⟨u, r, .inr ⟨.inl hk, c, hc, hc'⟩⟩
      · rw [List.getElem?_set_ne (Ne.symm hj)] at e2
        obtain ⟨u', r', q⟩ := hl j y v' e1 e2 e3
        refine ⟨u', r', ?_⟩
        rcases q with q | ⟨k, c', e, z'⟩
        · exact .inl q
        · refine .inr ⟨k, c', e, z'.sameBut hs ?_⟩
          rintro rfl
          exact hj (nodup_ix hN e1 (I.ok.inj _ _ _ e hc ▸ hi))
    · by_cases hcc : c' = c
      · subst hcc; exact ⟨_, hc'⟩
      · obtain ⟨w2, z2⟩ := I.cell y c' e
        exact ⟨w2, z2.sameBut hs hcc⟩
    · obtain ⟨e, n, ne, nf, d⟩ := I.pin p hp
      refine ⟨(hs.2 p.1 ?_).trans e, n, ne, nf, d⟩
      intro q
      rw [q, hoc] at e
      have q' : oc = p.2 := Option.some.inj e
      exact d w' (by rw [← q']; exact hocd)
theorem store_ok {M : Model} {A : Around} {E : Value → Shared → Prop} {i : Nat} {x : Str} {v : V} {u : Value} {Q : Unit → Shared → Prop} (I : Inv X pins σ H s) (hN : X.N.Nodup) (hi : X.N[i]? = some x) (hx : Loc X.env.scope x) (r : RelV v u)
    (h : ∀ s', Inv X pins (σ.set i (some v)) H s' → Q () s') (hf : X.fn x = true ∨ X.env.scope.names.lookup x = some .local := by first | exact .inl rfl | exact .inr rfl | assumption) : wpAny M A (storeName X.env x u) Q E s :=
  store_ok2 I hN hi hx r (fun s' I' _ => h s' I') hf
theorem Inv.call' {s' : Shared} {ch : List Addr} (I : Inv X pins σ H s) (ho : s'.os = s.os) (u : Un (frs X.stack) ch H H' s.heap s'.heap) (hok : HOk X.prog X.w H' s'.heap) (hg : AllBare s'.gens)
    (hch : ∀ b ∈ ch, (b ∈ X.ex ∨ X.s₀.heap.objs.size ≤ b) ∧ b ≠ X.env.locals ∧ (∀ x c, X.env.cells.lookup x = some c → c ≠ b) ∧ ∀ p ∈ X.pn ++ pins, p.1 ≠ b) : Inv X pins σ H' s' := by
  obtain ⟨h', g', d', t', o'⟩ := s'
  have e : o' = s.os := ho
  subst e
  exact I.call (g' := g') (t' := t') (d' := d') u hok hg hch
end

abbrev XK := Value → Option Addr → Hp → Prop
abbrev St := List (Option V)
abbrev VK := V → Hp → Prop
abbrev TE := St → Hp → VK → Prop
abbrev TT := St → Hp → (Bool → Hp → Prop) → Prop
abbrev TA := St → Hp → (List V → Hp → Prop) → Prop
structure Ends where
  nx : St → Hp → Prop
  rt : VK
  bk : St → Hp → Prop := fun _ _ => False
  ct : St → Hp → Prop := fun _ _ => False
abbrev TS := Ends → St → Hp → Prop

def EP (X : Cx) (pins : List (Addr × Obj)) (σ : St) (Q : VK) (u : Value) (s' : Shared) : Prop := ∃ v H', Inv X pins σ H' s' ∧ RelV v u ∧ Q v H'
def TP (X : Cx) (pins : List (Addr × Obj)) (σ : St) (Q : Bool → Hp → Prop) (b : Bool) (s' : Shared) : Prop := ∃ H', Inv X pins σ H' s' ∧ Q b H'
def AP (X : Cx) (pins : List (Addr × Obj)) (σ : St) (Q : List V → Hp → Prop) (us : List Value) (s' : Shared) : Prop := ∃ vs H', Inv X pins σ H' s' ∧ Vals vs us ∧ Q vs H'
def SP (X : Cx) (pins : List (Addr × Obj)) (D : Ends) (f : Flow) (s' : Shared) : Prop :=
  match f with
  | .next => ∃ σ' H', Inv X pins σ' H' s' ∧ D.nx σ' H'
  | .brk => ∃ σ' H', Inv X pins σ' H' s' ∧ D.bk σ' H'
  | .cont => ∃ σ' H', Inv X pins σ' H' s' ∧ D.ct σ' H'
  | .ret u => ∃ v σ' H', Inv X pins σ' H' s' ∧ RelV v u ∧ D.rt v H'

def PE (X : Cx) (e : Expr) (t : TE) : Prop :=
  ∀ (pins : List (Addr × Obj)) (s : Shared) (σ : St) (H : Hp) (Q : VK), Inv X pins σ H s → t σ H Q → wpAny (model X.prog X.w) X.A (eval e X.env) (EP X pins σ Q) X.xe s
def PT (X : Cx) (e : Expr) (t : TT) : Prop :=
  ∀ (pins : List (Addr × Obj)) (s : Shared) (σ : St) (H : Hp) (Q : Bool → Hp → Prop), Inv X pins σ H s → t σ H Q → wpAny (model X.prog X.w) X.A (isTrue e X.env (eval e X.env)) (TP X pins σ Q) X.xe s
def PW (X : Cx) (e : Expr) (t : TT) : Prop :=
  ∀ (whole : Sem Value) (pins : List (Addr × Obj)) (s : Shared) (σ : St) (H : Hp) (Q : Bool → Hp → Prop), Inv X pins σ H s → t σ H Q → wpAny (model X.prog X.w) X.A (isTrue e X.env whole) (TP X pins σ Q) X.xe s
theorem PW.pt {X : Cx} {e : Expr} {t : TT} (h : PW X e t) : PT X e t := h _
def PA (X : Cx) (es : List Expr) (t : TA) : Prop :=
  ∀ (pos : Pos) (pins : List (Addr × Obj)) (s : Shared) (σ : St) (H : Hp) (Q : List V → Hp → Prop), Inv X pins σ H s → t σ H Q → wpAny (model X.prog X.w) X.A (spliced (backTo pos (starEach es X.env))) (AP X pins σ Q) X.xe s
def PS (X : Cx) (st : Stmt) (t : TS) : Prop :=
  ∀ (pins : List (Addr × Obj)) (s : Shared) (σ : St) (H : Hp) (D : Ends), Inv X pins σ H s → t D σ H → wpAny (model X.prog X.w) X.A (exec st X.env) (SP X pins D) X.xe s
def PSs (X : Cx) (st : List Stmt) (t : TS) : Prop :=
  ∀ (pins : List (Addr × Obj)) (s : Shared) (σ : St) (H : Hp) (D : Ends), Inv X pins σ H s → t D σ H → wpAny (model X.prog X.w) X.A (execs st X.env) (SP X pins D) X.xe s
theorem thn {α : Type} {t : Sem α} {Q Q' : α → Shared → Prop} {M : Model} {A : Around} {E : Value → Shared → Prop} {s : Shared} (h : wpAny M A t Q E s) (hQ : ∀ a s, Q a s → Q' a s) : wpAny M A t Q' E s := wpAny_mono h hQ fun _ _ x => x
end L2

namespace L2
open PySem PySem.Spec PyProof.Rows
section
variable {X : Cx}

def tVar (i : Nat) : TE := fun σ H Q => ∃ v, σ[i]? = some (some v) ∧ Q v H
def tC (v : V) : TE := fun _ H Q => Q v H
theorem pe_var {i : Nat} {x : Str} {pos : Pos} (hN : X.N[i]? = some x) (hv : Vis X.env.scope x) (hd : (x == ("__debug__" : Str)) = false := by decide) (hcd : (x == ("__classdict__" : Str)) = false := by decide) : PE X (.Name x pos) (tVar i) := by
  intro pins s σ H Q I h
  obtain ⟨v, e, h⟩ := h
  obtain ⟨m, hn, hl⟩ := I.loc
  obtain ⟨u, r, l⟩ := hl i x v hN e hv
  have fin : EP X pins σ Q u s := ⟨v, H, I, r, h⟩
  rcases l with ⟨hk, hm⟩ | ⟨hk, c, hc, hcell⟩
  · exact wpAny_Name (wpAny_loadName_local I.ok.kind hk hn hm fin) hd
  · rcases hk with hk | hk
    · exact wpAny_Name (wpAny_loadName_cell I.ok.kind hk hc hcell fin) hd
    · exact wpAny_Name (wpAny_loadName_free I.ok.kind hk hc hcell fin hcd) hd
theorem pe_int {i j pos} : PE X (.Constant (.int i) j pos) (tC (.int i)) := fun _ _ _ H _ I h => wpAny_Constant_int ⟨.int i, H, I.tok _, ⟨_, rfl⟩, h⟩
theorem pe_bl {b j pos} : PE X (.Constant (.bool b) j pos) (tC (.bl b)) := fun _ _ _ H _ I h => Constant_bool ⟨.bl b, H, I, rfl, h⟩
theorem pe_non {j pos} : PE X (.Constant .none j pos) (tC .non) := fun _ _ _ H _ I h => Constant_none ⟨.non, H, I, rfl, h⟩
theorem pe_str {x j pos} : PE X (.Constant (.str x) j pos) (tC (.str x)) := fun _ _ _ H _ I h => Calls.Constant_str ⟨.str x, H, I.tok _, ⟨_, rfl⟩, h⟩

def Gl (X : Cx) (x : Str) : Prop := X.env.kindOf x = some .globalImplicit
theorem ld_glob {E : Value → Shared → Prop} {pins : List (Addr × Obj)} {s : Shared} {σ : St} {H : Hp} {x : Str} {u : Value} {pos : Pos} {Q : Value → Shared → Prop} (I : Inv X pins σ H s) (hg : Gl X x) (hm : X.mg x = some u) (h : Q u s)
    (hd : (x == ("__debug__" : Str)) = false := by decide) : wpAny (model X.prog X.w) X.A (eval (.Name x pos) X.env) Q E s :=
  Calls.Name_function_global I.ok.kind hg (Calls.loadGlobal_global (by rw [I.ok.glob]; exact I.mod.glob.keeps I.bk) hm h) hd
theorem ld_blt {E : Value → Shared → Prop} {pins : List (Addr × Obj)} {s : Shared} {σ : St} {H : Hp} {x : Str} {u : Value} {pos : Pos} {Q : Value → Shared → Prop} (I : Inv X pins σ H s) (hg : Gl X x) (hm : X.mg x = none) (hv : bootBuiltins x = some u) (h : Q u s)
    (hn : x ≠ "__name__" := by decide) (hd : (x == ("__debug__" : Str)) = false := by decide) : wpAny (model X.prog X.w) X.A (eval (.Name x pos) X.env) Q E s := by
  obtain ⟨mb, h1, h2⟩ := I.mod.blt
  exact Calls.Name_function_global I.ok.kind hg (Calls.loadGlobal_builtin (by rw [I.ok.glob]; exact I.mod.glob.keeps I.bk) hm (by rw [I.ok.blt]; exact h1.keeps I.bk) ((h2 x hn).trans hv) h) hd
theorem pe_glob {x : Str} {v : V} {u : Value} {pos : Pos} (hg : Gl X x) (hm : X.mg x = some u) (r : RelV v u) (hd : (x == ("__debug__" : Str)) = false := by decide) : PE X (.Name x pos) (tC v) :=
  fun _ _ _ H _ I h => ld_glob I hg hm ⟨v, H, I, r, h⟩ hd
theorem pe_bltn {x : Str} {v : V} {u : Value} {pos : Pos} (hg : Gl X x) (hm : X.mg x = none) (hv : bootBuiltins x = some u) (r : RelV v u) (hn : x ≠ "__name__" := by decide) (hd : (x == ("__debug__" : Str)) = false := by decide) : PE X (.Name x pos) (tC v) :=
  fun _ _ _ H _ I h => ld_blt I hg hm hv ⟨v, H, I, r, h⟩ hn hd

variable {a b : Expr} {ta tb : TE} {pos : Pos}
def tB (t : TE) : TT := fun σ H Q => t σ H fun x H1 => ∃ c, x = .bl c ∧ Q c H1
theorem pt_val {e : Expr} {t : TE} (h : PE X e t) (he : ∀ whole, isTrue e X.env whole = (do let v ← whole; standAt e.pos; holding [v] (truthy v)) := by intro _; rfl) : PT X e (tB t) := by
  intro pins s σ H Q I hw
  refine isTrue_plain (thn (h pins s σ H _ I hw) fun v s1 ⟨x, H1, I1, r1, q1⟩ => ?_) (he _)
  obtain ⟨d, rfl, q⟩ := q1
  cases r1
  exact wpAny_truthy_bool ⟨H1, I1, q⟩

variable {tA tB' : TT} {rest : List Expr}
def tAnd (t u : TT) : TT := fun σ H Q => t σ H fun c H1 => if c = true then u σ H1 Q else Q false H1
def tOr (t u : TT) : TT := fun σ H Q => t σ H fun c H1 => if c = true then Q true H1 else u σ H1 Q
def tNot (t : TT) : TT := fun σ H Q => t σ H fun c H1 => Q (!c) H1
theorem pw_and1 (ha : PT X a tA) : PW X (.BoolOp .And [a] pos) tA := by
  intro wh pins s σ H Q I h
  refine isTrue_and (thn (ha pins s σ H Q I h) fun c s1 e => ?_)
  cases c with
  | true => exact isTrue_and_nil e
  | false => exact e
theorem pw_or1 (ha : PT X a tA) : PW X (.BoolOp .Or [a] pos) tA := by
  intro wh pins s σ H Q I h
  refine isTrue_or (thn (ha pins s σ H Q I h) fun c s1 e => ?_)
  cases c with
  | false => exact isTrue_or_nil e
  | true => exact e
theorem pw_and (ha : PT X a tA) (hb : PW X (.BoolOp .And (b :: rest) pos) tB') : PW X (.BoolOp .And (a :: b :: rest) pos) (tAnd tA tB') := by
  intro wh pins s σ H Q I h
  refine isTrue_and (thn (ha pins s σ H _ I h) fun c s1 ⟨H1, I1, q1⟩ => ?_)
  cases c with
  | true => exact hb wh pins s1 σ H1 Q I1 q1
  | false => exact ⟨H1, I1, q1⟩
theorem pw_or (ha : PT X a tA) (hb : PW X (.BoolOp .Or (b :: rest) pos) tB') : PW X (.BoolOp .Or (a :: b :: rest) pos) (tOr tA tB') := by
  intro wh pins s σ H Q I h
  refine isTrue_or (thn (ha pins s σ H _ I h) fun c s1 ⟨H1, I1, q1⟩ => ?_)
  cases c with
  | true => exact ⟨H1, I1, q1⟩
  | false => exact hb wh pins s1 σ H1 Q I1 q1
theorem pt_not (ha : PT X a tA) : PT X (.UnaryOp .Not a pos) (tNot tA) := by
  intro pins s σ H Q I h
  exact isTrue_not (ha pins s σ H (fun c H1 => Q (!c) H1) I h)
def tAndV (ta tb : TE) : TE := fun σ H Q => ta σ H fun x H1 => ∃ c, x = .bl c ∧ if c = true then tb σ H1 Q else Q (.bl false) H1
def tOrV (ta tb : TE) : TE := fun σ H Q => ta σ H fun x H1 => ∃ c, x = .bl c ∧ if c = true then Q (.bl true) H1 else tb σ H1 Q
def tNotV (ta : TE) : TE := fun σ H Q => ta σ H fun x H1 => ∃ c, x = .bl c ∧ Q (.bl (!c)) H1
theorem pe_one {op} {t : TE} (h : PE X a t) : PE X (.BoolOp op [a] pos) t := fun pins s σ H Q I hw => BoolOp_one (h pins s σ H Q I hw)
theorem pe_and (ha : PE X a ta) (hb : PE X (.BoolOp .And (b :: rest) pos) tb) : PE X (.BoolOp .And (a :: b :: rest) pos) (tAndV ta tb) := by
  intro pins s σ H Q I h
  refine BoolOp_and (thn (ha pins s σ H _ I h) fun v s1 ⟨x, H1, I1, r1, q1⟩ => ?_)
  obtain ⟨c, rfl, q1⟩ := q1
  cases r1
  refine wpAny_truthy_bool ?_
  cases c with
  | true => exact hb pins s1 σ H1 Q I1 q1
  | false => exact ⟨.bl false, H1, I1, rfl, q1⟩
theorem pe_or (ha : PE X a ta) (hb : PE X (.BoolOp .Or (b :: rest) pos) tb) : PE X (.BoolOp .Or (a :: b :: rest) pos) (tOrV ta tb) := by
  intro pins s σ H Q I h
  refine BoolOp_or (thn (ha pins s σ H _ I h) fun v s1 ⟨x, H1, I1, r1, q1⟩ => ?_)
  obtain ⟨c, rfl, q1⟩ := q1
  cases r1
  refine wpAny_truthy_bool ?_
  cases c with
  | false => exact hb pins s1 σ H1 Q I1 q1
  | true => exact ⟨.bl true, H1, I1, rfl, q1⟩
theorem pe_not (ha : PE X a ta) : PE X (.UnaryOp .Not a pos) (tNotV ta) := by
  intro pins s σ H Q I h
  refine UnaryOp_ (thn (ha pins s σ H _ I h) fun v s1 ⟨x, H1, I1, r1, q1⟩ => ?_)
  obtain ⟨c, rfl, q1⟩ := q1
  cases r1
  exact not_of (wpAny_truthy_bool ⟨.bl (!c), H1, I1, rfl, q1⟩)
def tIf (t : TT) (ta tb : TE) : TE := fun σ H Q => t σ H fun c H1 => if c = true then ta σ H1 Q else tb σ H1 Q
theorem pe_ifExp {c : Expr} (hc : PT X c tA) (ha : PE X a ta) (hb : PE X b tb) : PE X (.IfExp c a b pos) (tIf tA ta tb) := by
  intro pins s σ H Q I h
  refine wpAny_IfExp (thn (hc pins s σ H _ I h) fun d s1 ⟨H1, I1, q1⟩ => ?_)
  cases d with
  | true => exact ha pins s1 σ H1 Q I1 q1
  | false => exact hb pins s1 σ H1 Q I1 q1
end
end L2

namespace L2
open PySem PySem.Spec PyProof.Rows

def SqL (K : PySem.W.Frag) (H : Hp) (a : Addr) (xs : List V) : Prop :=
  Rd H a (.lst xs) ∨
    ∃ (o : Obj) (its : Array Value) (n : Nat), K.lookup a = some o ∧ o.cls = .type "list" ∧ o.dict = none ∧ o.data = .seq its n ∧ its.size ≤ sizeLine ∧ Vals xs its.toList
def SqT (K : PySem.W.Frag) (H : Hp) (a : Addr) (xs : List V) : Prop :=
  Rd H a (.tup xs) ∨
    ∃ (o : Obj) (its : Array Value) (n : Nat), K.lookup a = some o ∧ o.cls = .type "tuple" ∧ o.data = .seq its n ∧ its.size ≤ sizeLine ∧ Vals xs its.toList
def absV : Value → Option V
  | .none => some .non
  | .bool b => some (.bl b)
  | .int i _ => some (.int i)
  | .str x _ => some (.str x)
  | .bytes b _ => some (.byt b)
  | .float b _ => some (.flt b)
  | .ref a => some (.ref a)
  | .type n => some (.ty n)
  | _ => none
theorem RelV.abs {x : V} {u : Value} (r : RelV x u) : absV u = some x := by
  cases x with
  | non => cases r; rfl
  | bl _ => cases r; rfl
  | int _ => obtain ⟨t, rfl⟩ := r; rfl
  | str _ => obtain ⟨t, rfl⟩ := r; rfl
  | byt _ => obtain ⟨t, rfl⟩ := r; rfl
  | flt _ => obtain ⟨t, rfl⟩ := r; rfl
  | ref _ => cases r; rfl
  | ty _ => cases r; rfl
theorem RelV.inj {x y : V} {u : Value} (r : RelV x u) (q : RelV y u) : x = y := Option.some.inj (r.abs.symm.trans q.abs)
theorem Vals.inj : ∀ {xs ys : List V} {us : List Value}, Vals xs us → Vals ys us → xs = ys
  | _, _, _, .nil, .nil => rfl
  | _, _, _, .cons r t, .cons r' t' => by rw [r.inj r', Vals.inj t t']
section
variable {X : Cx} {pins : List (Addr × Obj)} {σ : St} {H : Hp} {s : Shared} {a : Addr} {xs ys : List V}
theorem SqL.of {K : PySem.W.Frag} (h : H a = some (.lst xs)) : SqL K H a xs := .inl (.inl h)
theorem SqT.of {K : PySem.W.Frag} (h : H a = some (.tup xs)) : SqT K H a xs := .inl (.inl h)
theorem Inv.list (I : Inv X pins σ H s) (h : SqL X.K H a xs) : ∃ its : List Value, Vals xs its ∧ PlainL s.heap a its.toArray ∧ xs.length ≤ sizeLine := by
  rcases h with h | ⟨o, its, n, hk, hc, hd, hs, hz, r⟩
  · obtain ⟨z, its, n, r, e⟩ := h.ok I.hok
    exact ⟨its, r, ⟨_, n, e, rfl, rfl, rfl⟩, z⟩
  · refine ⟨its.toList, r, ⟨o, n, I.kIn a o hk, hc, hd, by simpa using hs⟩, ?_⟩
    have e := r.length
    simp only [Array.length_toList] at e
    omega
theorem Inv.tuple (I : Inv X pins σ H s) (h : SqT X.K H a xs) : ∃ its : List Value, Vals xs its ∧ IsTup s.heap a its.toArray ∧ xs.length ≤ sizeLine := by
  rcases h with h | ⟨o, its, n, hk, hc, hs, hz, r⟩
  · obtain ⟨z, its, r, p⟩ := h.ok I.hok
    exact ⟨its, r, p, z⟩
  · refine ⟨its.toList, r, ⟨o, I.kIn a o hk, hc, n, by simpa using hs⟩, ?_⟩
    have e := r.length
    simp only [Array.length_toList] at e
    omega
theorem Inv.list_inj (I : Inv X pins σ H s) (h : SqL X.K H a xs) (h' : SqL X.K H a ys) : xs = ys := by
  obtain ⟨its, r, ⟨o, n, e, _, _, d⟩, _⟩ := I.list h
  obtain ⟨its', r', ⟨o', n', e', _, _, d'⟩, _⟩ := I.list h'
  rw [e] at e'; cases e'
  rw [d] at d'
  injection d' with d1 _
  have : its = its' := by simpa using congrArg Array.toList d1
  subst this
  exact r.inj r'
end

abbrev Cx.wish (X : Cx) (E : Value → Shared → Prop) : Cx := { X with xe := E }
abbrev Cx.nox (X : Cx) : Cx := X.wish fun _ _ => False
theorem Cx.Ok.wish {X : Cx} (ok : X.Ok) (E : Value → Shared → Prop) : (X.wish E).Ok :=
  ⟨ok.mod, ok.kind, ok.glob, ok.blt, ok.above, ok.inj, ok.has, ok.cab, ok.hd, ok.frames, ok.stk, ok.exf, ok.bs, ok.bsz, ok.noex, ok.exfs, ok.funs, ok.frf⟩
theorem Cx.Ok.unwish {X : Cx} {E : Value → Shared → Prop} (ok : (X.wish E).Ok) : X.Ok :=
  ⟨ok.mod, ok.kind, ok.glob, ok.blt, ok.above, ok.inj, ok.has, ok.cab, ok.hd, ok.frames, ok.stk, ok.exf, ok.bs, ok.bsz, ok.noex, ok.exfs, ok.funs, ok.frf⟩
section
variable {X : Cx} {pins : List (Addr × Obj)} {σ : St} {H : Hp} {s : Shared} {E : Value → Shared → Prop}
theorem Inv.wish (I : Inv X pins σ H s) (E : Value → Shared → Prop) : Inv (X.wish E) pins σ H s := ⟨I.ok.wish E, I.os, I.bare, I.base, I.loc, I.cell, I.free, I.freeC, I.pin, I.hok, I.len⟩
theorem Inv.unwish (I : Inv (X.wish E) pins σ H s) : Inv X pins σ H s := ⟨I.ok.unwish, I.os, I.bare, I.base, I.loc, I.cell, I.free, I.freeC, I.pin, I.hok, I.len⟩
theorem SP.unwish {D : Ends} {f : Flow} {s' : Shared} (h : SP (X.wish E) pins D f s') : SP X pins D f s' := by
  cases f with
  | next => obtain ⟨σ', H', I, q⟩ := h; exact ⟨σ', H', I.unwish, q⟩
  | brk => obtain ⟨σ', H', I, q⟩ := h; exact ⟨σ', H', I.unwish, q⟩
  | cont => obtain ⟨σ', H', I, q⟩ := h; exact ⟨σ', H', I.unwish, q⟩
  | ret u => obtain ⟨v, σ', H', I, r, q⟩ := h; exact ⟨v, σ', H', I.unwish, r, q⟩
theorem PSs.nox {st : List Stmt} {t : TS} (h : PSs X.nox st t) : PSs X st t := fun pins s σ H D I hw =>
  wpAny_mono (h pins s σ H D (I.wish _) hw) (fun _ _ q => q.unwish) fun _ _ z => False.elim z
end

section
variable {X : Cx} {st : Stmt} {rest : List Stmt} {t u : TS} {e : Expr} {te : TE} {pos : Pos}
def tNext : TS := fun D σ H => D.nx σ H
def tSeq (t u : TS) : TS := fun D σ H => t { D with nx := u D } σ H
theorem pss_nil : PSs X [] tNext := fun _ _ σ H _ I h => wpAny_execs_nil ⟨σ, H, I, h⟩
theorem pss_cons (h1 : PS X st t) (h2 : PSs X rest u) : PSs X (st :: rest) (tSeq t u) := by
  intro pins s σ H D I h
  refine wpAny_execs_cons (thn (h1 pins s σ H { D with nx := u D } I h) fun f s1 q => ?_)
  cases f with
  | next =>
    obtain ⟨σ', H', I', q⟩ := q
    exact h2 pins s1 σ' H' D I' q
  | ret v => exact q
  | brk => exact q
  | cont => exact q
theorem pss_one (h1 : PS X st t) : PSs X [st] t := by
  intro pins s σ H D I h
  refine wpAny_execs_cons (thn (h1 pins s σ H D I h) fun f s1 q => ?_)
  cases f with
  | next => exact wpAny_execs_nil q
  | ret v => exact q
  | brk => exact q
  | cont => exact q
theorem Inv.quiet {pins : List (Addr × Obj)} {σ : St} {H : Hp} {s : Shared} (I : Inv X pins σ H s) : interactive X.env = false := by simp [interactive, I.ok.kind]
def tDrop (te : TE) : TS := fun D σ H => te σ H fun _ H1 => D.nx σ H1
theorem ps_expr (he : PE X e te) (hs : swapsWith e none pos.line X.env = pure false := by rfl) : PS X (.Expr e pos) (tDrop te) := by
  intro pins s σ H D I h
  exact wpAny_Expr_any (thn (he pins s σ H _ I h) fun v s1 ⟨x, H1, I1, r1, q1⟩ => ⟨σ, H1, I1, q1⟩) I.quiet hs
def tRet (te : TE) : TS := fun D σ H => te σ H D.rt
theorem ps_ret (he : PE X e te) : PS X (.Return (some e) pos) (tRet te) := by
  intro pins s σ H D I h
  exact wpAny_Return_some (thn (he pins s σ H _ I h) fun v s1 ⟨x, H1, I1, r1, q1⟩ => ⟨x, σ, H1, I1, r1, q1⟩)
def tIfS (c : TT) (t u : TS) : TS := fun D σ H => c σ H fun b H1 => if b = true then t D σ H1 else u D σ H1
theorem ps_if {c : Expr} {a b : List Stmt} {tc : TT} (hc : PT X c tc) (ha : PSs X a t) (hb : PSs X b u) : PS X (.If c a b pos) (tIfS tc t u) := by
  intro pins s σ H D I h
  refine wpAny_If (thn (hc pins s σ H _ I h) fun d s1 ⟨H1, I1, q1⟩ => ?_)
  cases d with
  | true => exact ha pins s1 σ H1 D I1 q1
  | false => exact hb pins s1 σ H1 D I1 q1
end

abbrev TG := V → St → Hp → (St → Hp → Prop) → Prop
abbrev TGs := List V → St → Hp → (St → Hp → Prop) → Prop
def PG (X : Cx) (target : Expr) (t : TG) : Prop :=
  ∀ (pins : List (Addr × Obj)) (s : Shared) (σ : St) (H : Hp) (v : V) (u : Value) (Q : St → Hp → Prop), Inv X pins σ H s → RelV v u → t v σ H Q →
    wpAny (model X.prog X.w) X.A (assign target X.env u) (fun _ s' => ∃ σ' H', Inv X pins σ' H' s' ∧ Q σ' H') X.xe s
def PGs (X : Cx) (ts : List Expr) (t : TGs) : Prop :=
  ∀ (pins : List (Addr × Obj)) (s : Shared) (σ : St) (H : Hp) (vs : List V) (us : List Value) (Q : St → Hp → Prop), Inv X pins σ H s → Vals vs us → t vs σ H Q →
    wpAny (model X.prog X.w) X.A (assignInOrder ((assignEach ts X.env).map (·.2)) us) (fun _ s' => ∃ σ' H', Inv X pins σ' H' s' ∧ Q σ' H') X.xe s
abbrev TSet := V → V → V → Hp → (Hp → Prop) → Prop
def PSet (X : Cx) (t : TSet) : Prop :=
  ∀ (pins : List (Addr × Obj)) (s : Shared) (σ : St) (H : Hp) (o i v : V) (ov iv u : Value) (Q : Hp → Prop), Inv X pins σ H s → RelV o ov → RelV i iv → RelV v u → t o i v H Q →
    wpAny (model X.prog X.w) X.A (setItem ov iv u) (fun _ s' => ∃ H', Inv X pins σ H' s' ∧ Q H') X.xe s
section
variable {X : Cx} {pos : Pos}
def gName (i : Nat) : TG := fun v σ H Q => Q (σ.set i (some v)) H
theorem pg_name {i : Nat} {x : Str} (hN : X.N.Nodup) (hi : X.N[i]? = some x) (hx : Loc X.env.scope x) (hf : X.fn x = true ∨ X.env.scope.names.lookup x = some .local := by first | exact .inl rfl | exact .inr rfl | assumption) : PG X (.Name x pos) (gName i) := by
  intro pins s σ H v u Q I r h
  exact wpAny_assign_Name (store_ok I hN hi hx r (fun s' I' => ⟨_, H, I', h⟩) hf)
def gNil : TGs := fun vs σ H Q => vs = [] ∧ Q σ H
def gCons (t : TG) (u : TGs) : TGs := fun vs σ H Q => ∃ v r, vs = v :: r ∧ t v σ H fun σ' H' => u r σ' H' Q
theorem pgs_nil : PGs X [] gNil := by
  intro pins s σ H vs us Q I r h
  obtain ⟨e, h⟩ := h
  subst e
  cases r
  exact assignInOrder_nil ⟨σ, H, I, h⟩
theorem pgs_cons {e : Expr} {es : List Expr} {t : TG} {u : TGs} (h1 : PG X e t) (h2 : PGs X es u)
    (hs : (assignEach (e :: es) X.env).map (·.2) = assign e X.env :: (assignEach es X.env).map (·.2) := by rfl) : PGs X (e :: es) (gCons t u) := by
  intro pins s σ H vs us Q I r h
  obtain ⟨v, vr, e1, h⟩ := h
  subst e1
  cases r with
  | cons r rr =>
    rw [hs]
    refine assignInOrder_cons (thn (h1 pins s σ H _ _ _ I r h) fun _ s1 ⟨σ1, H1, I1, q1⟩ => ?_)
    exact h2 pins s1 σ1 H1 _ _ Q I1 rr q1
def gTup (K : PySem.W.Frag) (n : Nat) (t : TGs) : TG := fun v σ H Q => ∃ a xs, v = .ref a ∧ SqT K H a xs ∧ xs.length = n ∧ t xs σ H Q
theorem pg_tup {es : List Expr} {k : Nat} {t : TGs} {n : Nat} (hc : X.calm = true) (h : PGs X es t)
    (hn : (assignEach es X.env).length = n := by rfl) (hst : (assignEach es X.env).findIdx? (·.1) = none := by rfl) : PG X (.Tuple es k pos) (gTup X.K n t) := by
  intro pins s σ H v u Q I r hw
  obtain ⟨a, xs, e1, hq, hl, hw⟩ := hw
  subst e1
  cases r
  obtain ⟨its, rv, ht, hz⟩ := I.tuple hq
  refine assign_Tuple_tuple (I.ok.hd hc) ht (by simp [hn, ← hl, rv.length]) hst fun h' hx => ?_
  have I1 : Inv X pins σ H { s with heap := h' } := I.kept (t' := s.toks) fun b o e => hx b o (Nat.ne_of_lt (Heap.lt_size e)) e
  exact h pins _ σ H xs _ Q I1 (by simpa using rv) hw
def gSub (to ti : TE) (t : TSet) : TG := fun v σ H Q => to σ H fun o H1 => ti σ H1 fun i H2 => t o i v H2 fun H3 => Q σ H3
theorem pg_sub {o i : Expr} {to ti : TE} {t : TSet} (ho : PE X o to) (hi : PE X i ti) (hs : PSet X t)
    (ha : ∀ v, assign (.Subscript o i pos) X.env v = (do
      let ov ← holding [v] (eval o X.env)
      let iv ← holding [v, ov] (eval i X.env)
      standAt pos
      holding [v, ov, iv] (setItem ov iv v)
      release [v, ov, iv] []) := by intro _; rfl) : PG X (.Subscript o i pos) (gSub to ti t) := by
  intro pins s σ H v u Q I r h
  rw [ha]
  refine wpAny_bind (wpAny_holding (thn (ho pins s σ H _ I h) fun ov s1 ⟨x, H1, I1, r1, q1⟩ => ?_))
  refine wpAny_bind (wpAny_holding (thn (hi pins s1 σ H1 _ I1 q1) fun iv s2 ⟨y, H2, I2, r2, q2⟩ => ?_))
  refine wpAny_bind (wpAny_standAt (wpAny_bind (wpAny_holding (thn (hs pins s2 σ H2 x y v ov iv u _ I2 r1 r2 r q2) fun _ s3 ⟨H3, I3, q3⟩ => ?_))))
  exact wpAny_release ⟨σ, H3, I3, q3⟩
def tAsg (te : TE) (g : TG) : TS := fun D σ H => te σ H fun x H1 => g x σ H1 D.nx
theorem ps_asg {tg e : Expr} {te : TE} {g : TG} (he : PE X e te) (hg : PG X tg g) (hs : swapsWithSole [tg] e pos.line X.env = pure false := by rfl) (hw : swappedStores [tg] e X.env = pure none := by rfl)
    (h1 : (assignEach [tg] X.env).map (·.2) = [assign tg X.env] := by rfl) : PS X (.Assign [tg] e pos) (tAsg te g) := by
  intro pins s σ H D I h
  refine wpAny_Assign_stores (thn (he pins s σ H _ I h) fun v s1 ⟨x, H1, I1, r1, q1⟩ => ?_) hs hw
  rw [h1]
  exact thn (hg pins s1 σ H1 x v _ I1 r1 q1) fun _ s2 q => q
theorem ps_set {i : Nat} {x : Str} {e : Expr} {te : TE} {pos' : Pos} (hN : X.N.Nodup) (hi : X.N[i]? = some x) (hx : Loc X.env.scope x) (he : PE X e te) (hs : swapsWith e (some (.Name x pos')) pos.line X.env = pure false := by rfl) (hf : X.fn x = true ∨ X.env.scope.names.lookup x = some .local := by first | exact .inl rfl | exact .inr rfl | assumption) :
    PS X (.Assign [.Name x pos'] e pos) (tAsg te (gName i)) := by
  intro pins s σ H D I h
  refine wpAny_Assign_Name (thn (he pins s σ H _ I h) fun v s1 ⟨y, H1, I1, r1, q1⟩ => ?_) hs
  exact store_ok I1 hN hi hx r1 (fun s2 I2 => ⟨_, H1, I2, q1⟩) hf
end

section
variable {X : Cx} {pos : Pos}
end

structure It where
  go : Nat → Hp → Prop
  yld : Nat → Hp → V → Hp → Prop
  stop : Nat → Hp → Prop
def FpOk (X : Cx) (pins : List (Addr × Obj)) (H : Hp) (b : Addr) : Prop :=
  H b = none ∧ b ≠ X.env.locals ∧ b ∉ X.fs ∧ (b ∈ X.ex ∨ X.s₀.heap.objs.size ≤ b) ∧ (∀ x c, X.env.cells.lookup x = some c → c ≠ b) ∧ ∀ p ∈ X.pn ++ pins, p.1 ≠ b
theorem Inv.fpOk {X : Cx} {pins : List (Addr × Obj)} {σ : St} {H H' : Hp} {s : Shared} {b : Addr} (I : Inv X pins σ H s) (hb : s.heap.objs.size ≤ b) (hn : H' b = none) : FpOk X pins H' b := by
  refine ⟨hn, Nat.ne_of_gt (Nat.lt_of_lt_of_le I.lt hb), I.nofs hb, .inr (Nat.le_trans I.sz hb), fun x c e z => ?_, fun p hp z => ?_⟩
  · obtain ⟨v, q⟩ := I.cell x c e
    exact absurd (Nat.lt_of_lt_of_le q.lt (by rw [z]; exact hb)) (Nat.lt_irrefl _)
  · exact absurd (Nat.lt_of_lt_of_le (Heap.lt_size (I.pin p hp).1) (by rw [z]; exact hb)) (Nat.lt_irrefl _)
structure Turn (P : Program) (w : World) (K : PySem.W.Frag) (tg : Expr) (J : It) (fp : List Addr) (it : Addr) (tn : Nat → Heap → Prop) : Prop where
  mem : it ∈ fp
  obj : ∀ i h, tn i h → ∀ b ∈ fp, ∃ o, h.get? b = some o ∧ ∀ v, o.data ≠ .cell v
  keep : ∀ i h h', tn i h → (∀ b ∈ fp, ∀ o, h.get? b = some o → h'.get? b = some o) → tn i h'
  item : ∀ (X : Cx), X.prog = P → X.w = w → X.K = K → X.calm = true → ∀ (i : Nat) (pins : List (Addr × Obj)) (s : Shared) (σ : St) (H : Hp) (E : Value → Shared → Prop), Inv X pins σ H s → (∀ b ∈ fp, FpOk X pins H b) → tn i s.heap → J.go i H →
    wpAny (model P w) X.A (pyNext (.ref it)) (fun r s1 => ∃ u, r = some u ∧
      wpAny (model P w) X.A (letOwnedTupleGo tg (.ref it) u) (fun _ s2 => ∃ x H', Inv X pins σ H' s2 ∧ RelV x u ∧ J.yld i H x H' ∧ tn (i + 1) s2.heap ∧ ∀ b ∈ fp, H' b = none) E s1) E s
  done : ∀ (X : Cx), X.prog = P → X.w = w → X.K = K → X.calm = true → ∀ (i : Nat) (pins : List (Addr × Obj)) (s : Shared) (σ : St) (H : Hp) (E : Value → Shared → Prop), Inv X pins σ H s → (∀ b ∈ fp, FpOk X pins H b) → tn i s.heap → J.stop i H →
    wpAny (model P w) X.A (pyNext (.ref it)) (fun r s1 => r = none ∧ Inv X pins σ H s1) E s
  self : ∀ (A : Around) (i : Nat) (s : Shared) (Q : Value → Shared → Prop) (E : Value → Shared → Prop), tn i s.heap → Q (.ref it) s → wpAny (model P w) A (pyIter (.ref it)) Q E s
abbrev TI := St → Hp → (It → Hp → Prop) → Prop
def PIE (X : Cx) (pins : List (Addr × Obj)) (σ : St) (tg : Expr) (R : It → Hp → Prop) (itv : Value) (s2 : Shared) : Prop :=
  ∃ (it : Addr) (fp : List Addr) (tn : Nat → Heap → Prop) (J : It) (H' : Hp), itv = .ref it ∧ Inv X pins σ H' s2 ∧ Turn X.prog X.w X.K tg J fp it tn ∧ tn 0 s2.heap ∧ (∀ b ∈ fp, FpOk X pins H' b) ∧ R J H'
def PI (X : Cx) (tg iter : Expr) (wi : TI) : Prop :=
  ∀ (pins : List (Addr × Obj)) (s : Shared) (σ : St) (H : Hp) (R : It → Hp → Prop), Inv X pins σ H s → wi σ H R →
    wpAny (model X.prog X.w) X.A (eval iter X.env) (fun v s1 => wpAny (model X.prog X.w) X.A (pyIter v) (PIE X pins σ tg R) X.xe s1) X.xe s

theorem go_of {M : Model} {A : Around} {E : Value → Shared → Prop} {s : Shared} {tg : Expr} {it : Addr} {u : Value} {o : Obj} {n : String} {vs : Array Value} {Q : Unit → Shared → Prop} (ho : s.heap.get? it = some o) (hc : o.cls = .type n) (hd : o.data = .fields vs)
    (hn : ["enumerate", "zip", "dict_itemiterator", "dict_reverseitemiterator", "odict_iterator", "itertools.zip_longest", "itertools.pairwise"].contains n = false) (hQ : Q () s) : wpAny M A (letOwnedTupleGo tg (.ref it) u) Q E s := by
  unfold letOwnedTupleGo
  cases tg <;> first
    | exact wpAny_pure hQ
    | (cases u <;> first
        | exact wpAny_pure hQ
        | (refine wpAny_bind (wpAny_load ho ?_)
           rw [hc, hd]
           show wpAny M A (if (["enumerate", "zip", "dict_itemiterator", "dict_reverseitemiterator", "odict_iterator", "itertools.zip_longest", "itertools.pairwise"].contains n && vs[0]? == some (rawInt _)) = true then _ else _) Q E s
           rw [if_neg (by intro h; rw [hn, Bool.false_and] at h; cases h)]
           exact wpAny_pure hQ))

def Itl (K : PySem.W.Frag) (a : Addr) : It :=
  ⟨fun i H => ∃ xs x, SqL K H a xs ∧ xs[i]? = some x, fun i H x H' => H' = H ∧ ∀ xs, SqL K H a xs → xs[i]? = some x, fun i H => ∃ xs, SqL K H a xs ∧ xs.length ≤ i⟩
def Itr (lo : Int) (n : Nat) : It := ⟨fun i _ => i < n, fun i H x H' => H' = H ∧ x = .int (lo + i), fun i _ => n ≤ i⟩
theorem turn_list {P : Program} {w : World} {K : PySem.W.Frag} {tg : Expr} (a it : Addr) : Turn P w K tg (Itl K a) [it] it (fun i h => h.IsListIter it a i) where
  mem := by simp
  obj := fun i h st b hb => by
    have e : b = it := by simpa using hb
    subst e
    obtain ⟨o, e, c, d⟩ := st
    exact ⟨o, e, fun v z => by rw [d] at z; cases z⟩
  keep := fun i h h' st k => st.at fun o e => k it (by simp) o e
  item := by
    intro X hP hw hK hc i pins s σ H E I hf st hg
    subst hP hw hK
    obtain ⟨xs, x, hq, hx⟩ := hg
    obtain ⟨its, rv, p, hz⟩ := I.list hq
    obtain ⟨u, hu, ru⟩ := rv.get hx
    obtain ⟨f0, f1, f2, f3, f4, f5⟩ := hf it (by simp)
    refine wpAny_pyNext_list_item st p.isList (x := u) (by simpa using hu) fun h' st' sb => ?_
    have I1 : Inv X pins σ H { s with heap := h' } := I.turned (t' := s.toks) (fun b o hb e => (sb.2 b hb).trans e) f0 f1 f3 f4 f5
    obtain ⟨o, e, c, d⟩ := id st'
    exact ⟨u, rfl, go_of (s := { s with heap := h' }) e c d (by decide) ⟨x, H, I1, ru, ⟨rfl, fun ys hy => by rw [I.list_inj hy hq]; exact hx⟩, st', fun b hb => (hf b hb).1⟩⟩
  done := by
    intro X hP hw hK hc i pins s σ H E I hf st hg
    subst hP hw hK
    obtain ⟨xs, hq, hx⟩ := hg
    obtain ⟨its, rv, p, hz⟩ := I.list hq
    obtain ⟨f0, f1, f2, f3, f4, f5⟩ := hf it (by simp)
    have hl := rv.length
    exact wpAny_pyNext_list_end (I.ok.hd hc) st p.isList (by simp; omega) fun h' eb => ⟨rfl, I.turned (t' := s.toks) (fun b o hb e => eb b o hb e) f0 f1 f3 f4 f5⟩
  self := fun _ _ _ _ _ st h => wpAny_pyIter_listiter st h
theorem turn_range {P : Program} {w : World} {K : PySem.W.Frag} {tg : Expr} (it : Addr) (lo : Int) (n : Nat) : Turn P w K tg (Itr lo n) [it] it (fun i h => IsRangeIter h it (lo + (i : Nat) * 1) ((n : Int) - (i : Nat)) 1) where
  mem := by simp
  obj := fun i h st b hb => by
    have e : b = it := by simpa using hb
    subst e
    exact ⟨_, st, fun v z => by
      have z' : Data.fields _ = Data.cell v := z
      cases z'⟩
  keep := fun i h h' st k => k it (by simp) _ st
  item := by
    intro X hP hw hK hc i pins s σ H E I hf st hg
    subst hP hw hK
    obtain ⟨f0, f1, f2, f3, f4, f5⟩ := hf it (by simp)
    have W := Walks.range (prog := X.prog) (w := X.w) (I.ok.hd hc) it lo 1 n
    refine W.item i s _ _ hg st fun v h' tk hv st' kk => ?_
    obtain ⟨t, rfl⟩ := hv
    have I1 : Inv X pins σ H { s with heap := h', toks := tk } := I.turned (fun b o hb e => kk b o (by simpa using hb) e) f0 f1 f3 f4 f5
    refine ⟨_, rfl, go_of (s := { s with heap := h', toks := tk }) (n := "range_iterator") st' rfl rfl (by decide) ⟨.int (lo + i), H, I1, ⟨t, ?_⟩, ⟨rfl, rfl⟩, st', fun b hb => (hf b hb).1⟩⟩
    rw [Int.mul_one]
  done := by
    intro X hP hw hK hc i pins s σ H E I hf st hg
    subst hP hw hK
    obtain ⟨f0, f1, f2, f3, f4, f5⟩ := hf it (by simp)
    exact wpAny_pyNext_range_end (I.ok.hd hc) st (by have : n ≤ i := hg; omega) fun h' eb => ⟨rfl, I.turned (t' := s.toks) (fun b o hb e => eb b o hb e) f0 f1 f3 f4 f5⟩
  self := fun _ _ _ _ _ st h => wpAny_pyIter_rangeiter st h
end L2

namespace L2
open PySem PySem.Spec PyProof.Rows
section
variable {X : Cx} {tg : Expr}
def iList (K : PySem.W.Frag) (tl : TE) : TI := fun σ H R => tl σ H fun x H1 => ∃ a, x = .ref a ∧ (∃ xs, SqL K H1 a xs) ∧ R (Itl K a) H1
theorem pi_list {l : Expr} {tl : TE} (hl : PE X l tl) : PI X tg l (iList X.K tl) := by
  intro pins s σ H R I h
  refine thn (hl pins s σ H _ I h) fun v s1 ⟨x, H1, I1, r1, q1⟩ => ?_
  obtain ⟨a, e, ⟨xs, hq⟩, q⟩ := q1
  subst e
  cases r1
  obtain ⟨its, rv, p, hz⟩ := I1.list hq
  refine wpAny_pyIter_list p.isList ?_
  refine ⟨s1.heap.objs.size, [s1.heap.objs.size], _, _, H1, rfl, I1.kept (t' := s1.toks) fun b o e => Heap.get?_push_of_some _ e, turn_list a _, ⟨_, Heap.get?_push_size _ rfl, rfl, rfl⟩, fun b hb => ?_, q⟩
  have e : b = s1.heap.objs.size := by simpa using hb
  subst e
  exact I1.fpOk (Nat.le_refl _) (I1.hok.fresh (Nat.le_refl _))
theorem range_it {pins : List (Addr × Obj)} {σ : St} {H : Hp} {s : Shared} {R : It → Hp → Prop} {E : Value → Shared → Prop} {lo hi : Int} {t u v : Tok} {tk : Nat} (I : Inv X pins σ H s) (h1 : -(2 ^ 62) ≤ lo) (h2 : lo < 2 ^ 62) (h3 : -(2 ^ 62) ≤ hi) (h4 : hi < 2 ^ 62)
    (q : R (Itr lo (hi - lo).toNat) H) : wpAny (model X.prog X.w) X.A (pyIter (.ref s.heap.objs.size)) (PIE X pins σ tg R) E { s with heap := s.heap.push { cls := .type "range", data := .fields #[.int lo t, .int hi u, .int 1 v] }, toks := tk } := by
  refine wpAny_pyIter_range (IsRange.new ..) (small_one h1 h2 h3 h4) ?_
  have I1 : Inv X pins σ H { s with heap := s.heap.push { cls := .type "range", data := .fields #[.int lo t, .int hi u, .int 1 v] }, toks := tk } := I.kept fun b o e => Heap.get?_push_of_some _ e
  refine ⟨(s.heap.push { cls := .type "range", data := .fields #[.int lo t, .int hi u, .int 1 v] }).objs.size, [(s.heap.push { cls := .type "range", data := .fields #[.int lo t, .int hi u, .int 1 v] }).objs.size], _, _, H, rfl,
    I1.kept (t' := tk) fun b o e => Heap.get?_push_of_some _ e, turn_range _ lo (hi - lo).toNat, ?_, fun b hb => ?_, q⟩
  · have e1 : lo + ((0 : Nat) : Int) * 1 = lo := by simp
    have e2 : (((hi - lo).toNat : Nat) : Int) - ((0 : Nat) : Int) = Builtin.Range.rangeSize lo hi 1 := by rw [rangeSize_one]; split <;> omega
    show IsRangeIter _ _ (lo + ((0 : Nat) : Int) * 1) ((((hi - lo).toNat : Nat) : Int) - ((0 : Nat) : Int)) 1
    rw [e1, e2]
    exact Heap.get?_push_size _ rfl
  · have e : b = (s.heap.push { cls := .type "range", data := .fields #[.int lo t, .int hi u, .int 1 v] }).objs.size := by simpa using hb
    subst e
    exact I1.fpOk (Nat.le_refl _) (I1.hok.fresh (Nat.le_refl _))
def iRng1 (ta : TA) : TI := fun σ H R => ta σ H fun vs H1 => ∃ j : Int, vs = [.int j] ∧ -(2 ^ 62) ≤ j ∧ j < 2 ^ 62 ∧ R (Itr 0 j.toNat) H1
theorem pi_range1 {a : Expr} {ta : TA} {p pos : Pos} (hg : Gl X "range") (hm : X.mg "range" = none) (ha : PA X [a] ta) (hs : starEach [a] X.env = [(false, eval a X.env)] := by rfl) : PI X tg (.Call (.Name "range" p) [a] [] pos) (iRng1 ta) := by
  intro pins s σ H R I h
  refine Call_ (ld_blt I hg hm boot_range (PyProof.Rows.callWith_type1 (thn (ha pos pins s σ H _ I h) fun us s1 ⟨vs, H1, I1, r1, q1⟩ => ?_) hs rfl))
  obtain ⟨j, e, q1, q2, q⟩ := q1
  subst e
  cases r1 with
  | cons r rr =>
    cases rr
    obtain ⟨t, rfl⟩ := r
    exact call_range_1 (range_it I1 (by omega) (by omega) q1 q2 (by simpa using q))
def tFor (wi : TI) (g : TG) (tb : TS) : TS := fun D σ H => wi σ H fun J H1 => ∃ W : Nat → Nat → St → Hp → Prop, (∃ m, W 0 m σ H1) ∧ ∀ i m σ H, W i m σ H →
  (J.stop i H ∧ D.nx σ H) ∨ (J.go i H ∧ ∃ N : St → Hp → Prop, (∀ σ' H', N σ' H' → ∃ m', m' < m ∧ W (i + 1) m' σ' H') ∧ ∀ x H', J.yld i H x H' → g x σ H' fun σ2 H2 => tb { D with nx := N, ct := N, bk := D.nx } σ2 H2)
def pinsAt (fp : List Addr) (h : Heap) : List (Addr × Obj) := fp.filterMap fun b => (h.get? b).map fun o => (b, o)
theorem mem_pinsAt {fp : List Addr} {h : Heap} {b : Addr} {o : Obj} (hb : b ∈ fp) (e : h.get? b = some o) : (b, o) ∈ pinsAt fp h := List.mem_filterMap.mpr ⟨b, hb, by rw [e]; rfl⟩
theorem of_pinsAt {fp : List Addr} {h : Heap} {p : Addr × Obj} (hp : p ∈ pinsAt fp h) : p.1 ∈ fp ∧ h.get? p.1 = some p.2 := by
  obtain ⟨b, hb, e⟩ := List.mem_filterMap.mp hp
  cases q : h.get? b with
  | none => rw [q] at e; cases e
  | some o =>
    rw [q] at e
    have e' : (b, o) = p := Option.some.inj e
    subst e'
    exact ⟨hb, q⟩
theorem Inv.pinned {pins : List (Addr × Obj)} {σ : St} {H : Hp} {s : Shared} {fp : List Addr} (I : Inv X pins σ H s) (hf : ∀ b ∈ fp, FpOk X pins H b) (ho : ∀ b ∈ fp, ∃ o, s.heap.get? b = some o ∧ ∀ v, o.data ≠ .cell v) : Inv X (pins ++ pinsAt fp s.heap) σ H s :=
  I.pins_of fun p hp => (List.mem_append.mp hp).elim (fun z => I.pin p (List.mem_append_right _ z)) fun z => by
    obtain ⟨hb, e⟩ := of_pinsAt z
    obtain ⟨f0, f1, f2, _⟩ := hf p.1 hb
    obtain ⟨o, e', d⟩ := ho p.1 hb
    rw [e] at e'; cases e'
    exact ⟨e, f0, f1, f2, d⟩
theorem Inv.unpinned {pins pl : List (Addr × Obj)} {σ : St} {H : Hp} {s : Shared} (I : Inv X (pins ++ pl) σ H s) : Inv X pins σ H s := I.pins_of fun p hp => I.pin p (List.mem_append_right _ (List.mem_append_left _ hp))
theorem ps_for {iter : Expr} {body : List Stmt} {wi : TI} {g : TG} {tb : TS} {pos : Pos} (hp : PassesOwn (model X.prog X.w) X.A X.env X.xe) (hc : X.calm = true) (hi : PI X tg iter wi) (hg : PG X tg g) (hb : PSs X body tb)
    (hs : ∀ x, foldedSetIterable iter X.env x = pure x := by intro _; rfl) : PS X (.For tg iter body [] pos) (tFor wi g tb) := by
  intro pins s σ H D I h
  refine wpAny_For (thn (hi pins s σ H _ I h) fun v s1 h1 => thn h1 fun itv s2 h2 => ?_) hs
  obtain ⟨it, fp, tn, J, H2, e, I2, T, st2, f2, W, ⟨m0, w0⟩, turn⟩ := h2
  subst e
  have stat : ∀ {H' : Hp}, (∀ b ∈ fp, H' b = none) → ∀ b ∈ fp, FpOk X pins H' b := fun hn b hb => ⟨hn b hb, (f2 b hb).2⟩
  refine codeAny_forLoop_any (fun n s' => ∃ i σ' H', Inv X pins σ' H' s' ∧ tn i s'.heap ∧ (∀ b ∈ fp, H' b = none) ∧ W i n σ' H') ?_ m0 ⟨0, σ, H2, I2, st2, fun b hb => (f2 b hb).1, w0⟩
  rintro n s3 ⟨i, σ3, H3, I3, st3, fr3, w3⟩
  rcases turn i n σ3 H3 w3 with ⟨stop, qn⟩ | ⟨go, N, hN, step⟩
  · refine wpAny_passesOwn hp (thn (T.done X rfl rfl rfl hc i pins s3 σ3 H3 X.xe I3 (stat fr3) st3 stop) fun r s4 ⟨hr, I4⟩ => ?_)
    subst hr
    exact wpAny_execs_nil ⟨σ3, H3, I4, qn⟩
  · refine wpAny_passesOwn hp (thn (T.item X rfl rfl rfl hc i pins s3 σ3 H3 X.xe I3 (stat fr3) st3 go) fun r s4 ⟨u, hr, h4⟩ => ?_)
    subst hr
    refine wpAny_passesOwn hp (thn h4 fun _ s5 ⟨x, H5, I5, r5, y5, st5, fr5⟩ => ?_)
    have I5' := I5.pinned (stat fr5) (T.obj _ _ st5)
    refine wpAny_passesOwn hp (thn (hg _ s5 σ3 H5 x u _ I5' r5 (step x H5 y5)) fun _ s6 ⟨σ6, H6, I6, q6⟩ => ?_)
    refine wpAny_passesOwn hp (thn (hb _ s6 σ6 H6 _ I6 q6) fun f s7 q7 => ?_)
    have again : ∀ {σ7 : St} {H7 : Hp}, Inv X (pins ++ pinsAt fp s5.heap) σ7 H7 s7 → N σ7 H7 → ∃ m, m < n ∧ ∃ i σ' H', Inv X pins σ' H' s7 ∧ tn i s7.heap ∧ (∀ b ∈ fp, H' b = none) ∧ W i m σ' H' := fun {σ7 H7} I7 n7 => by
      obtain ⟨m', hm, w7⟩ := hN σ7 H7 n7
      refine ⟨m', hm, i + 1, σ7, H7, I7.unpinned, T.keep _ _ _ st5 fun b hb o e => (I7.pin (b, o) (List.mem_append_right _ (List.mem_append_right _ (mem_pinsAt hb e)))).1, fun b hb => ?_, w7⟩
      obtain ⟨o, e, d⟩ := T.obj _ _ st5 b hb
      exact (I7.pin (b, o) (List.mem_append_right _ (List.mem_append_right _ (mem_pinsAt hb e)))).2.1
    cases f with
    | next => obtain ⟨σ7, H7, I7, n7⟩ := q7; exact again I7 n7
    | cont => obtain ⟨σ7, H7, I7, n7⟩ := q7; exact again I7 n7
    | brk => obtain ⟨σ7, H7, I7, q7⟩ := q7; exact ⟨σ7, H7, I7.unpinned, q7⟩
    | ret v => obtain ⟨x7, σ7, H7, I7, r7, q7⟩ := q7; exact ⟨x7, σ7, H7, I7.unpinned, r7, q7⟩
end

theorem for_list {K : PySem.W.Frag} {a : Addr} {xs : List V} {g : TG} {tb : TS} {D : Ends} {σ : St} {H : Hp} (Pv : Nat → St → Hp → Prop) (h0 : Pv 0 σ H) (hl : ∀ i σ H, i ≤ xs.length → Pv i σ H → SqL K H a xs)
    (hs : ∀ i x σ H, xs[i]? = some x → Pv i σ H → g x σ H fun σ2 H2 => tb { D with nx := Pv (i + 1), ct := Pv (i + 1), bk := D.nx } σ2 H2) (hd : ∀ σ H, Pv xs.length σ H → D.nx σ H) :
    ∃ W : Nat → Nat → St → Hp → Prop, (∃ m, W 0 m σ H) ∧ ∀ i m σ H, W i m σ H →
      ((Itl K a).stop i H ∧ D.nx σ H) ∨ ((Itl K a).go i H ∧ ∃ N : St → Hp → Prop, (∀ σ' H', N σ' H' → ∃ m', m' < m ∧ W (i + 1) m' σ' H') ∧ ∀ x H', (Itl K a).yld i H x H' → g x σ H' fun σ2 H2 => tb { D with nx := N, ct := N, bk := D.nx } σ2 H2) := by
  refine ⟨fun i m σ H => m = xs.length - i ∧ i ≤ xs.length ∧ Pv i σ H, ⟨xs.length, by simp, Nat.zero_le _, h0⟩, ?_⟩
  rintro i m σ H ⟨rfl, hi, p⟩
  have q := hl i σ H hi p
  by_cases hlt : i < xs.length
  · refine .inr ⟨⟨xs, xs[i], q, by simp [hlt]⟩, Pv (i + 1), fun σ' H' p' => ⟨xs.length - (i + 1), by omega, rfl, hlt, p'⟩, fun x H' y => ?_⟩
    obtain ⟨e, y⟩ := y
    subst e
    exact hs i x σ _ (y xs q) p
  · have e : i = xs.length := by omega
    subst e
    exact .inl ⟨⟨xs, q, Nat.le_refl _⟩, hd σ H p⟩
theorem for_range {lo : Int} {n : Nat} {g : TG} {tb : TS} {D : Ends} {σ : St} {H : Hp} (Pv : Nat → St → Hp → Prop) (h0 : Pv 0 σ H)
    (hs : ∀ i σ H, i < n → Pv i σ H → g (.int (lo + i)) σ H fun σ2 H2 => tb { D with nx := Pv (i + 1), ct := Pv (i + 1), bk := D.nx } σ2 H2) (hd : ∀ σ H, Pv n σ H → D.nx σ H) :
    ∃ W : Nat → Nat → St → Hp → Prop, (∃ m, W 0 m σ H) ∧ ∀ i m σ H, W i m σ H →
      ((Itr lo n).stop i H ∧ D.nx σ H) ∨ ((Itr lo n).go i H ∧ ∃ N : St → Hp → Prop, (∀ σ' H', N σ' H' → ∃ m', m' < m ∧ W (i + 1) m' σ' H') ∧ ∀ x H', (Itr lo n).yld i H x H' → g x σ H' fun σ2 H2 => tb { D with nx := N, ct := N, bk := D.nx } σ2 H2) := by
  refine ⟨fun i m σ H => m = n - i ∧ i ≤ n ∧ Pv i σ H, ⟨n, by simp, Nat.zero_le _, h0⟩, ?_⟩
  rintro i m σ H ⟨rfl, hi, p⟩
  by_cases hlt : i < n
  · refine .inr ⟨hlt, Pv (i + 1), fun σ' H' p' => ⟨n - (i + 1), by omega, rfl, hlt, p'⟩, fun x H' y => ?_⟩
    obtain ⟨e, y⟩ := y
    subst e y
    exact hs i σ _ hlt p
  · have e : i = n := by omega
    subst e
    exact .inl ⟨Nat.le_refl _, hd σ H p⟩
end L2

namespace L2
open PySem PySem.Spec PyProof.Rows

abbrev R2 := V → V → Hp → VK → Prop
def OpR (X : Cx) (f : Value → Value → Sem Value) (r : R2) : Prop :=
  ∀ (pins : List (Addr × Obj)) (s : Shared) (σ : St) (H : Hp) (x y : V) (v u : Value) (Q : VK), Inv X pins σ H s → RelV x v → RelV y u → r x y H Q →
    wpAny (model X.prog X.w) X.A (f v u) (EP X pins σ Q) X.xe s
def UnR (X : Cx) (f : Value → Sem Value) (r : V → Hp → VK → Prop) : Prop :=
  ∀ (pins : List (Addr × Obj)) (s : Shared) (σ : St) (H : Hp) (x : V) (v : Value) (Q : VK), Inv X pins σ H s → RelV x v → r x H Q →
    wpAny (model X.prog X.w) X.A (f v) (EP X pins σ Q) X.xe s
def CallR (X : Cx) (f : Value) (r : List V → Hp → VK → Prop) : Prop :=
  ∀ (pins : List (Addr × Obj)) (s : Shared) (σ : St) (H : Hp) (xs : List V) (us : List Value) (Q : VK), Inv X pins σ H s → Vals xs us → r xs H Q →
    wpAny (model X.prog X.w) X.A (call f us) (EP X pins σ Q) X.xe s
def tOp (r : R2) (ta tb : TE) : TE := fun σ H Q => ta σ H fun x H1 => tb σ H1 fun y H2 => r x y H2 Q
def tUn (r : V → Hp → VK → Prop) (ta : TE) : TE := fun σ H Q => ta σ H fun x H1 => r x H1 Q
def rI (C : Int → Int → Prop) (g : Int → Int → V) : R2 := fun x y H Q => ∃ i j, x = .int i ∧ y = .int j ∧ C i j ∧ Q (g i j) H
def rI0 (g : Int → Int → V) : R2 := fun x y H Q => ∃ i j, x = .int i ∧ y = .int j ∧ Q (g i j) H
def rU (g : Int → V) : V → Hp → VK → Prop := fun x H Q => ∃ i, x = .int i ∧ Q (g i) H

section
variable {X : Cx} {a b c : Expr} {ta tb tc : TE} {pos : Pos}

theorem binT (ha : PE X a ta) (hb : PE X b tb) {pins : List (Addr × Obj)} {s : Shared} {σ : St} {H : Hp} {R : V → V → Hp → Prop} (I : Inv X pins σ H s)
    (h : ta σ H fun x H1 => tb σ H1 fun y H2 => R x y H2) {Q : Value → Shared → Prop} {f : Value → Value → Sem Value}
    (hf : ∀ v u s2 x y H2, Inv X pins σ H2 s2 → RelV x v → RelV y u → R x y H2 → wpAny (model X.prog X.w) X.A (f v u) Q X.xe s2) :
    wpAny (model X.prog X.w) X.A (eval a X.env) (fun v s₁ => wpAny (model X.prog X.w) X.A (eval b X.env) (fun u s₂ => wpAny (model X.prog X.w) X.A (f v u) Q X.xe s₂) X.xe s₁) X.xe s := by
  refine thn (ha pins s σ H _ I h) fun v s1 ⟨x, H1, I1, r1, q1⟩ => ?_
  refine thn (hb pins s1 σ H1 _ I1 q1) fun u s2 ⟨y, H2, I2, r2, q2⟩ => ?_
  exact hf v u s2 x y H2 I2 r1 r2 q2

theorem pe_op {op : Operator} {r : R2} (ho : OpR X (binaryOp op) r) (ha : PE X a ta) (hb : PE X b tb) : PE X (.BinOp a op b pos) (tOp r ta tb) := by
  intro pins s σ H Q I h
  exact wpAny_BinOp (binT ha hb I h fun v u s2 x y H2 I2 rx ry q => ho pins s2 σ H2 x y v u Q I2 rx ry q)
theorem pe_un {op : UnaryOp} {r : V → Hp → VK → Prop} (ho : UnR X (unaryOp op) r) (ha : PE X a ta) : PE X (.UnaryOp op a pos) (tUn r ta) := by
  intro pins s σ H Q I h
  exact UnaryOp_ (thn (ha pins s σ H _ I h) fun v s1 ⟨x, H1, I1, r1, q1⟩ => ho pins s1 σ H1 x v Q I1 r1 q1)
theorem opI {f : Value → Value → Sem Value} {C : Int → Int → Prop} {g : Int → Int → Int}
    (rule : ∀ (i j : Int) (t u : Tok) (s : Shared) (Q : Value → Shared → Prop) (E : Value → Shared → Prop), C i j → Q (.int (g i j) s.toks) { s with toks := s.toks + 1 } → wpAny (model X.prog X.w) X.A (f (.int i t) (.int j u)) Q E s) :
    OpR X f (rI C fun i j => .int (g i j)) := by
  intro pins s σ H x y v u Q I rx ry h
  obtain ⟨i, j, rfl, rfl, hc, q⟩ := h
  obtain ⟨t, rfl⟩ := rx
  obtain ⟨t', rfl⟩ := ry
  exact rule i j t t' s _ _ hc ⟨.int (g i j), H, I.tok _, ⟨_, rfl⟩, q⟩
theorem opI0 {f : Value → Value → Sem Value} {g : Int → Int → Int}
    (rule : ∀ (i j : Int) (t u : Tok) (s : Shared) (Q : Value → Shared → Prop) (E : Value → Shared → Prop), Q (.int (g i j) s.toks) { s with toks := s.toks + 1 } → wpAny (model X.prog X.w) X.A (f (.int i t) (.int j u)) Q E s) :
    OpR X f (rI0 fun i j => .int (g i j)) := by
  intro pins s σ H x y v u Q I rx ry h
  obtain ⟨i, j, rfl, rfl, q⟩ := h
  obtain ⟨t, rfl⟩ := rx
  obtain ⟨t', rfl⟩ := ry
  exact rule i j t t' s _ _ ⟨.int (g i j), H, I.tok _, ⟨_, rfl⟩, q⟩
theorem opB0 {f : Value → Value → Sem Value} {g : Int → Int → Bool}
    (rule : ∀ (i j : Int) (t u : Tok) (s : Shared) (Q : Value → Shared → Prop) (E : Value → Shared → Prop), Q (.bool (g i j)) s → wpAny (model X.prog X.w) X.A (f (.int i t) (.int j u)) Q E s) :
    OpR X f (rI0 fun i j => .bl (g i j)) := by
  intro pins s σ H x y v u Q I rx ry h
  obtain ⟨i, j, rfl, rfl, q⟩ := h
  obtain ⟨t, rfl⟩ := rx
  obtain ⟨t', rfl⟩ := ry
  exact rule i j t t' s _ _ ⟨.bl (g i j), H, I, rfl, q⟩

def CDiv (i j : Int) : Prop := 0 < j ∧ j < 1073741824
def CPow (i j : Int) : Prop := 0 ≤ j ∧ j ≤ 1000000 ∧ i.natAbs < 2 ^ 64
def CMul (i j : Int) : Prop := (-(2 ^ 64) < i ∧ i < 2 ^ 64) ∨ (-(2 ^ 64) < j ∧ j < 2 ^ 64)
theorem CMul.ok {i j : Int} (h : CMul i j) : IntMulOk i j := by
  rcases h with ⟨h1, h2⟩ | ⟨h1, h2⟩
  · exact .of_left (intBits_le_64 h1 h2)
  · exact .of_right (intBits_le_64 h1 h2)
theorem op_add : OpR X (binaryOp .Add) (rI0 fun i j => .int (i + j)) := opI0 fun _ _ _ _ _ _ _ q => add_int q
theorem op_sub : OpR X (binaryOp .Sub) (rI0 fun i j => .int (i - j)) := opI0 fun _ _ _ _ _ _ _ q => sub_int q
theorem op_fdiv : OpR X (binaryOp .FloorDiv) (rI CDiv fun i j => .int (i / j)) := opI fun i j _ _ _ _ _ hc q => by
  have h1 : (0 : Int) < j := hc.1
  have h2 : j < 1073741824 := hc.2
  exact floordiv_int (by omega) (by rw [Int.fdiv_eq_ediv_of_nonneg i (by omega)]; exact q) (.inl (PyProof.noPylong_small (by omega)))
theorem op_mod : OpR X (binaryOp .Mod) (rI (fun _ j => 0 < j) fun i j => .int (i % j)) := opI fun i j _ _ _ _ _ hc q => by
  have h1 : (0 : Int) < j := hc
  exact mod_int' (by omega) (by rw [Int.fmod_eq_emod_of_nonneg i (by omega)]; exact q)
theorem op_pow : OpR X (binaryOp .Pow) (rI CPow fun i j => .int (i ^ j.toNat)) := opI fun _ _ _ _ _ _ _ hc q => pow_int_small hc.1 hc.2.1 hc.2.2 q
theorem unI {f : Value → Sem Value} {g : Int → Int}
    (rule : ∀ (i : Int) (t : Tok) (s : Shared) (Q : Value → Shared → Prop) (E : Value → Shared → Prop), Q (.int (g i) s.toks) { s with toks := s.toks + 1 } → wpAny (model X.prog X.w) X.A (f (.int i t)) Q E s) :
    UnR X f (rU fun i => .int (g i)) := by
  intro pins s σ H x v Q I rx h
  obtain ⟨i, rfl, q⟩ := h
  obtain ⟨t, rfl⟩ := rx
  exact rule i t s _ _ ⟨.int (g i), H, I.tok _, ⟨_, rfl⟩, q⟩
theorem un_neg : UnR X (unaryOp .USub) (rU fun i => .int (-i)) := unI fun _ _ _ _ _ q => neg_int q
end

def scal : V → V → Bool
  | .non, .non => true | .non, .int _ => true | .int _, .non => true | .non, .bl _ => true | .bl _, .non => true | .non, .str _ => true | .str _, .non => true
  | .int _, .int _ => true | .bl _, .bl _ => true | .str _, .str _ => true | .byt _, .byt _ => true
  | .int _, .str _ => true | .str _, .int _ => true | .bl _, .str _ => true | .str _, .bl _ => true
  | _, _ => false
def rEq : R2 := fun x y H Q => scal x y = true ∧ Q (.bl (decide (x = y))) H
def rNe : R2 := fun x y H Q => scal x y = true ∧ Q (.bl (!decide (x = y))) H

theorem dec_int {i j : Int} : decide (V.int i = V.int j) = (i == j) := by
  rw [Bool.eq_iff_iff]
  simp
theorem dec_bl {i j : Bool} : decide (V.bl i = V.bl j) = (i == j) := by
  rw [Bool.eq_iff_iff]
  simp
theorem dec_str {i j : Str} : decide (V.str i = V.str j) = (i == j) := by
  rw [Bool.eq_iff_iff]
  simp
theorem dec_byt {i j : Array UInt8} : decide (V.byt i = V.byt j) = (i.toList == j.toList) := by
  rw [Bool.eq_iff_iff]
  cases i
  cases j
  simp

section
variable {X : Cx} {a b c : Expr} {ta tb tc : TE} {pos : Pos}
theorem fin_bl {pins : List (Addr × Obj)} {σ : St} {H : Hp} {s : Shared} {Q : VK} {k k' : Bool} (I : Inv X pins σ H s) (q : Q (.bl k) H) (e : k = k') : EP X pins σ Q (.bool k') s := by
  subst e
  exact ⟨.bl k, H, I, rfl, q⟩
theorem op_eq : OpR X (compareOp .Eq) rEq := by
  intro pins s σ H x y v u Q I rx ry h
  obtain ⟨hs, q⟩ := h
  cases x with
  | non =>
    cases rx
    cases y with
    | non => cases ry; exact PySem.EqNone.eq_none_none (fin_bl I q (by simp))
    | bl j => cases ry; exact PySem.EqNone.eq_none_bool (fin_bl I q (by simp))
    | int j => obtain ⟨t', rfl⟩ := ry; exact PySem.EqNone.eq_none_int (fin_bl I q (by simp))
    | str j => obtain ⟨t', rfl⟩ := ry; exact PySem.EqNone.eq_none_str (fin_bl I q (by simp))
    | _ => exact absurd (show false = true from hs) Bool.false_ne_true
  | bl i =>
    cases rx
    cases y with
    | non => cases ry; exact PySem.EqNone.eq_bool_none (fin_bl I q (by simp))
    | bl j => cases ry; exact eq_bool (fin_bl I q dec_bl)
    | str j => obtain ⟨t', rfl⟩ := ry; exact PySem.EqMixed.eq_bool_str (fin_bl I q (by simp))
    | _ => exact absurd (show false = true from hs) Bool.false_ne_true
  | int i =>
    obtain ⟨t, rfl⟩ := rx
    cases y with
    | non => cases ry; exact PySem.EqNone.eq_int_none (fin_bl I q (by simp))
    | int j => obtain ⟨t', rfl⟩ := ry; exact eq_int (fin_bl I q dec_int)
    | str j => obtain ⟨t', rfl⟩ := ry; exact PySem.EqMixed.eq_int_str (fin_bl I q (by simp))
    | _ => exact absurd (show false = true from hs) Bool.false_ne_true
  | str i =>
    obtain ⟨t, rfl⟩ := rx
    cases y with
    | non => cases ry; exact PySem.EqNone.eq_str_none (fin_bl I q (by simp))
    | bl j => cases ry; exact PySem.EqMixed.eq_str_bool (fin_bl I q (by simp))
    | int j => obtain ⟨t', rfl⟩ := ry; exact PySem.EqMixed.eq_str_int (fin_bl I q (by simp))
    | str j => obtain ⟨t', rfl⟩ := ry; exact eq_str (fin_bl I q dec_str)
    | _ => exact absurd (show false = true from hs) Bool.false_ne_true
  | byt i =>
    obtain ⟨t, rfl⟩ := rx
    cases y with
    | byt j => obtain ⟨t', rfl⟩ := ry; exact PySem.W.eq_bytes (fin_bl I q dec_byt)
    | _ => exact absurd (show false = true from hs) Bool.false_ne_true
  | _ => cases y <;> exact absurd (show false = true from hs) Bool.false_ne_true
theorem op_ne : OpR X (compareOp .NotEq) rNe := by
  intro pins s σ H x y v u Q I rx ry h
  obtain ⟨hs, q⟩ := h
  cases x with
  | non =>
    cases rx
    cases y with
    | non => cases ry; exact PySem.EqNone.ne_none_none (fin_bl I q (by simp))
    | bl j => cases ry; exact PySem.EqNone.ne_none_bool (fin_bl I q (by simp))
    | int j => obtain ⟨t', rfl⟩ := ry; exact PySem.EqNone.ne_none_int (fin_bl I q (by simp))
    | str j => obtain ⟨t', rfl⟩ := ry; exact PySem.EqNone.ne_none_str (fin_bl I q (by simp))
    | _ => exact absurd (show false = true from hs) Bool.false_ne_true
  | bl i =>
    cases rx
    cases y with
    | non => cases ry; exact PySem.EqNone.ne_bool_none (fin_bl I q (by simp))
    | bl j => cases ry; exact ne_bool (fin_bl I q (congrArg not dec_bl))
    | str j => obtain ⟨t', rfl⟩ := ry; exact PySem.EqMixed.ne_bool_str (fin_bl I q (by simp))
    | _ => exact absurd (show false = true from hs) Bool.false_ne_true
  | int i =>
    obtain ⟨t, rfl⟩ := rx
    cases y with
    | non => cases ry; exact PySem.EqNone.ne_int_none (fin_bl I q (by simp))
    | int j => obtain ⟨t', rfl⟩ := ry; exact ne_int (fin_bl I q (congrArg not dec_int))
    | str j => obtain ⟨t', rfl⟩ := ry; exact PySem.EqMixed.ne_int_str (fin_bl I q (by simp))
    | _ => exact absurd (show false = true from hs) Bool.false_ne_true
  | str i =>
    obtain ⟨t, rfl⟩ := rx
    cases y with
    | non => cases ry; exact PySem.EqNone.ne_str_none (fin_bl I q (by simp))
    | bl j => cases ry; exact PySem.EqMixed.ne_str_bool (fin_bl I q (by simp))
    | int j => obtain ⟨t', rfl⟩ := ry; exact PySem.EqMixed.ne_str_int (fin_bl I q (by simp))
    | str j => obtain ⟨t', rfl⟩ := ry; exact ne_str (fin_bl I q (congrArg not dec_str))
    | _ => exact absurd (show false = true from hs) Bool.false_ne_true
  | byt i =>
    obtain ⟨t, rfl⟩ := rx
    cases y with
    | byt j => obtain ⟨t', rfl⟩ := ry; exact PySem.W.ne_bytes (fin_bl I q (congrArg not dec_byt))
    | _ => exact absurd (show false = true from hs) Bool.false_ne_true
  | _ => cases y <;> exact absurd (show false = true from hs) Bool.false_ne_true

theorem op_lt : OpR X (compareOp .Lt) (rI0 fun i j => .bl (decide (i < j))) := opB0 fun _ _ _ _ _ _ _ q => lt_int q
theorem op_le : OpR X (compareOp .LtE) (rI0 fun i j => .bl (decide (i ≤ j))) := opB0 fun _ _ _ _ _ _ _ q => le_int q
theorem op_gt : OpR X (compareOp .Gt) (rI0 fun i j => .bl (decide (j < i))) := opB0 fun _ _ _ _ _ _ _ q => gt_int q
theorem op_in_str : OpR X (compareOp .In) (fun x y H Q => ∃ i j, x = .str i ∧ y = .str j ∧ Q (.bl (!(Builtin.Str.occurrences j i 0 j.length 1).isEmpty)) H) := by
  intro pins s σ H x y v u Q I rx ry h
  obtain ⟨i, j, rfl, rfl, q⟩ := h
  obtain ⟨t, rfl⟩ := rx
  obtain ⟨t', rfl⟩ := ry
  exact in_str (fin_bl I q rfl)

theorem op_isN : OpR X (compareOp .Is) (fun x y H Q => y = .non ∧ Q (.bl (decide (x = .non))) H) := by
  intro pins s σ H x y v u Q I rx ry h
  obtain ⟨rfl, q⟩ := h
  cases ry
  refine is_none_gen (fin_bl I q ?_)
  cases x <;> first
    | (cases rx; rfl)
    | (obtain ⟨t, rfl⟩ := rx; rfl)
theorem op_notN : OpR X (compareOp .IsNot) (fun x y H Q => y = .non ∧ Q (.bl (!decide (x = .non))) H) := by
  intro pins s σ H x y v u Q I rx ry h
  obtain ⟨rfl, q⟩ := h
  cases ry
  refine isnot_none_gen (fin_bl I q ?_)
  cases x <;> first
    | (cases rx; rfl)
    | (obtain ⟨t, rfl⟩ := rx; rfl)

def isObj : HO → Bool
  | .lst _ => true
  | .ins _ _ _ => true
  | _ => false
theorem obj_there {pins : List (Addr × Obj)} {s : Shared} {σ : St} {H : Hp} {a : Addr} {o : HO} (I : Inv X pins σ H s) (h : H a = some o) (p : isObj o = true) : ∃ ob, s.heap.get? a = some ob ∧ ob.cls ≠ .type "tuple" := by
  cases o with
  | lst xs =>
    obtain ⟨_, its, n, _, e⟩ : xs.length ≤ sizeLine ∧ ∃ (its : List Value) (n : Nat), Vals xs its ∧ s.heap.get? a = some { cls := .type "list", data := .seq its.toArray n } := I.hok a _ h
    exact ⟨_, e, (by show Value.type "list" ≠ .type "tuple"; decide +kernel)⟩
  | ins C dx fs =>
    have x := I.hok a _ h
    obtain ⟨_, _, _, e, _⟩ := x
    exact ⟨_, e, (by show Value.ref C ≠ .type "tuple"; exact fun z => by cases z)⟩
  | _ => exact absurd (show false = true from p) Bool.false_ne_true
theorem nomark (b : Expr) {op : CmpOp} (h : op ≠ .In := by decide) (h2 : op ≠ .NotIn := by decide) : behindInMarks op b = false := by
  have e1 : (op == CmpOp.In) = false := by cases op <;> first | rfl | exact absurd rfl h
  have e2 : (op == CmpOp.NotIn) = false := by cases op <;> first | rfl | exact absurd rfl h2
  cases b <;> simp [behindInMarks, e1, e2]
theorem pe_cmpR {op : CmpOp} {r : R2} (ho : OpR X (compareOp op) r) (ha : PE X a ta) (hb : PE X b tb) (hm : behindInMarks op b = false) : PE X (.Compare a [op] [b] pos) (tOp r ta tb) := by
  intro pins s σ H Q I h
  exact wpAny_Compare1 (binT ha hb I h fun v u s2 x y H2 I2 rx ry q => ho pins s2 σ H2 x y v u Q I2 rx ry q) hm
def tTest (t : TE) : TT := fun σ H Q => t σ H fun x H' => ∃ k, x = .bl k ∧ Q k H'
theorem pt_cmpR {op : CmpOp} {r : R2} (ho : OpR X (compareOp op) r) (ha : PE X a ta) (hb : PE X b tb) (hm : behindInMarks op b = false) : PT X (.Compare a [op] [b] pos) (tTest (tOp r ta tb)) := by
  intro pins s σ H Q I h
  refine wpAny_isTrue_Compare1 (thn (ha pins s σ H _ I h) fun v s1 ⟨x, H1, I1, r1, q1⟩ => thn (hb pins s1 σ H1 _ I1 q1) fun u s2 ⟨y, H2, I2, r2, q2⟩ =>
    thn (ho pins s2 σ H2 x y v u _ I2 r1 r2 q2) fun c s3 ⟨z, H3, I3, r3, k, e, q3⟩ => ?_) hm
  subst e
  cases r3
  exact wpAny_truthy_bool ⟨H3, I3, q3⟩
def tChain (r r' : R2) (ta tb tc : TE) : TE := fun σ H Q => ta σ H fun x H1 => tb σ H1 fun y H2 => r x y H2 fun z H3 => ∃ k, z = .bl k ∧
  (if k = true then tc σ H3 fun w' H4 => r' y w' H4 Q else Q (.bl false) H3)
theorem pe_chain {op op' : CmpOp} {r r' : R2} (ho : OpR X (compareOp op) r) (ho' : OpR X (compareOp op') r') (ha : PE X a ta) (hb : PE X b tb) (hc : PE X c tc)
    (hm : lastMarks [op, op'] [b, c] = false := by with_unfolding_all rfl) : PE X (.Compare a [op, op'] [b, c] pos) (tChain r r' ta tb tc) := by
  intro pins s σ H Q I h
  refine Compare_chain (thn (ha pins s σ H _ I h) fun v s1 ⟨x, H1, I1, r1, q1⟩ => chain_link (thn (hb pins s1 σ H1 _ I1 q1) fun u s2 ⟨y, H2, I2, r2, q2⟩ =>
    thn (ho pins s2 σ H2 x y v u _ I2 r1 r2 q2) fun d s3 ⟨z, H3, I3, r3, k, e, q3⟩ => ?_)) hm
  subst e
  cases r3
  refine wpAny_truthy_bool ?_
  cases k with
  | false => exact ite_ff ⟨.bl false, H3, I3, rfl, q3⟩
  | true => exact ite_tt (chain_last (thn (hc pins s3 σ H3 _ I3 q3) fun w' s4 ⟨z', H4, I4, r4, q4⟩ => ho' pins s4 σ H4 y z' u w' Q I4 r2 r4 q4))
theorem line63 : (sizeLine : Nat) < 2 ^ 63 := by rw [sizeLine_eq]; decide
theorem op_add_str : OpR X (binaryOp .Add) (fun x y H Q => ∃ i j, x = .str i ∧ y = .str j ∧ i.length + j.length ≤ sizeLine ∧ Q (.str (i ++ j)) H) := by
  intro pins s σ H x y v u Q I rx ry h
  obtain ⟨i, j, rfl, rfl, hz, q⟩ := h
  obtain ⟨t, rfl⟩ := rx
  obtain ⟨t', rfl⟩ := ry
  exact add_str (fun t' tk => ⟨.str (i ++ j), H, I.tok _, ⟨_, rfl⟩, q⟩) hz
theorem vals1 {x : V} {us : List Value} (r : Vals [x] us) : ∃ u, us = [u] ∧ RelV x u := by
  cases r with
  | cons r1 r2 => cases r2; exact ⟨_, rfl, r1⟩
theorem vals2 {x y : V} {us : List Value} (r : Vals [x, y] us) : ∃ u w', us = [u, w'] ∧ RelV x u ∧ RelV y w' := by
  cases r with
  | cons r1 r2 =>
    cases r2 with
    | cons r3 r4 => cases r4; exact ⟨_, _, rfl, r1, r3⟩
theorem call_max2 (hc : X.calm = true) : CallR X (.builtin "max") (fun xs H Q => ∃ i j, xs = [.int i, .int j] ∧ Q (.int (if j > i then j else i)) H) := by
  intro pins s σ H xs us Q I r h
  obtain ⟨i, j, rfl, q⟩ := h
  obtain ⟨u, w', rfl, ⟨t, rfl⟩, ⟨t', rfl⟩⟩ := vals2 r
  refine max_two_ints (I.ok.hd hc) fun h' tk k => ⟨_, H, I.kept k, ?_, q⟩
  by_cases hj : j > i
  · rw [if_pos hj, if_pos hj]; exact ⟨_, rfl⟩
  · rw [if_neg hj, if_neg hj]; exact ⟨_, rfl⟩
theorem call_min2 (hc : X.calm = true) : CallR X (.builtin "min") (fun xs H Q => ∃ i j, xs = [.int i, .int j] ∧ Q (.int (if j < i then j else i)) H) := by
  intro pins s σ H xs us Q I r h
  obtain ⟨i, j, rfl, q⟩ := h
  obtain ⟨u, w', rfl, ⟨t, rfl⟩, ⟨t', rfl⟩⟩ := vals2 r
  refine min_two_ints (I.ok.hd hc) fun h' tk k => ⟨_, H, I.kept k, ?_, q⟩
  by_cases hj : j < i
  · rw [if_pos hj, if_pos hj]; exact ⟨_, rfl⟩
  · rw [if_neg hj, if_neg hj]; exact ⟨_, rfl⟩
theorem call_str_int : CallR X (.type "str") (fun xs H Q => ∃ i, xs = [.int i] ∧ i.natAbs.log2 < 1920 ∧ Q (.str (toString i)) H) := by
  intro pins s σ H xs us Q I r h
  obtain ⟨i, rfl, hz, q⟩ := h
  obtain ⟨u, rfl, t, rfl⟩ := vals1 r
  exact PySem.P.str_of_int hz ⟨.str _, H, I.tok _, ⟨_, rfl⟩, q⟩
end
end L2

namespace L2
open PySem PySem.Spec PyProof.Rows

structure ObjM (h : Heap) (x dx C : Addr) (mA : Str → Option Value) : Prop where
  obj : h.get? x = some (PySem.W.instObj C dx)
  ns : h.Ns1 dx mA
  ne : dx ≠ x

theorem lookIn_ns {h : Heap} {dx : Addr} {mA : Str → Option Value} (n : h.Ns1 dx mA) : ∃ od, h.get? dx = some od ∧ ∀ name, PySem.W.lookIn name od = some (mA name) := by
  obtain ⟨o, es, ep, ho, hd, hk, _, hm⟩ := n
  refine ⟨o, ho, fun name => ?_⟩
  have e := hm name
  unfold nsFind findBy at e
  rw [← Array.find?_toList] at e
  unfold PySem.W.lookIn
  rw [hd]
  dsimp only
  split
  · rename_i y q
    rw [q] at e
    exact congrArg some e
  · rename_i q
    rw [q] at e
    have a : es.toList.any (·.refKey) = false := by
      rw [List.any_eq_false]
      intro y hy
      obtain ⟨z, t, hkey⟩ := hk y (Array.mem_toList_iff.mp hy)
      simp [DictEntry.refKey, hkey]
    have a' : ¬ es.toList.any (·.refKey) = true := by rw [a]; exact Bool.false_ne_true
    rw [if_neg a']
    exact congrArg some e

theorem ObjM.look {h : Heap} {x dx C : Addr} {mA : Str → Option Value} (I : ObjM h x dx C mA) : ∃ od, PySem.W.InstAt h x (PySem.W.instObj C dx) C (some od) ∧ ∀ name, PySem.W.lookIn name od = some (mA name) :=
  let ⟨od, ho, hl⟩ := lookIn_ns I.ns
  ⟨od, ⟨I.obj, rfl, rfl, ho⟩, hl⟩

section
variable {prog : Program} {w : World} {A : Around} {E : Value → Shared → Prop} {s : Shared} {K : PySem.W.Frag} {x dx C f : Addr} {mA : Str → Option Value} {name : Str} {v : Value}

end

theorem handed_of {v : V} {u : Value} (r : RelV v u) : PySem.W.handedIn u = true := by
  cases v with
  | non => cases (show u = Value.none from r); rfl
  | bl b => cases (show u = Value.bool b from r); rfl
  | int i => obtain ⟨t, e⟩ := (show ∃ t, u = Value.int i t from r); cases e; rfl
  | str x => obtain ⟨t, e⟩ := (show ∃ t, u = Value.str x t from r); cases e; rfl
  | byt b => obtain ⟨t, e⟩ := (show ∃ t, u = Value.bytes b t from r); cases e; rfl
  | flt b => obtain ⟨t, e⟩ := (show ∃ t, u = Value.float b t from r); cases e; rfl
  | ref a => cases (show u = Value.ref a from r); rfl
  | ty n => cases (show u = Value.type n from r); rfl

section
variable {P : Program} {w : World} {H H' : Hp} {h h' : Heap} {a C dx : Addr} {fs fs' : List (Str × V)}
theorem ins_get (hok : HOk P w H h) (e : H a = some (.ins C dx fs)) : ∃ mA, ObjM h a dx C mA ∧ (∀ f, RelO (fs.lookup f) (mA f)) ∧ PySem.Within mA (fs.map (·.1)) ∧ fs.length ≤ 1000 ∧ H dx = some (.own a) := by
  obtain ⟨d, z, ne, ob, mA, n, r, q⟩ := (show ObjOk P w H h a (.ins C dx fs) from hok a _ e)
  exact ⟨mA, ⟨ob, n, ne⟩, r, q, z, d⟩
end

structure Cls (K : PySem.W.Frag) (C : Addr) : Prop where
  pg : PySem.W.plainGet K C Str.empty = true
  hd : PySem.W.hasDictIn K C = true
  po : PySem.W.plainOver K C = true
  sa : PySem.W.findIn K (.ref C) "__setattr__" = some (some (.builtin "object.__setattr__"))
theorem Cls.get {K : PySem.W.Frag} {C : Addr} (c : Cls K C) (f : Str) : PySem.W.plainGet K C f = true := c.pg
structure Con (K : PySem.W.Frag) (C : Addr) (f : Str) (v : V) (u : Value) : Prop where
  at_ : PySem.W.findIn K (.ref C) f = some (some u)
  rel : RelV v u
  get : PySem.W.specialIn K u "__get__" = some none
  cp : PySem.W.copiedNames.contains f = false
structure Meth (K : PySem.W.Frag) (C : Addr) (m : Str) (f : Addr) : Prop where
  at_ : PySem.W.findIn K (.ref C) m = some (some (.ref f))
  fn : PySem.W.isFn K (.ref f) = true
  kp : PySem.W.keepIn K (.ref f) = true

section
variable {X : Cx} {pins : List (Addr × Obj)} {σ : St} {H : Hp} {s : Shared} {a C dx : Addr} {fs : List (Str × V)} {f : Str} {v : V} {A : Around} {E : Value → Shared → Prop}

theorem attr_of {prog : Program} {w : World} {env : Env} {e : Expr} {f : Str} {pos : Pos} {s : Shared} {Q : Value → Shared → Prop} (hb : attributeBase e f env (eval e env) = eval e env)
    (h : wpAny (model prog w) A (eval e env) (fun o s₁ => wpAny (model prog w) A (getAttr o f true) Q E s₁) E s) : wpAny (model prog w) A (eval (.Attribute e f pos) env) Q E s :=
  Attribute_any_ h (by rw [arm_eval_Attribute, hb])
end

section
variable {X : Cx} {o e value : Expr} {f : Str} {pos pos' tpos : Pos} {ta tv : TE}
end

section
variable {X : Cx} {pins : List (Addr × Obj)} {σ : St} {H : Hp} {s : Shared} {A : Around} {E : Value → Shared → Prop} {Q : Value → Shared → Prop} {c : Value} {b : Bool}
inductive TyOf (K : PySem.W.Frag) (H : Hp) : V → Value → Prop where
  | non : TyOf K H .non (.type "NoneType")
  | bl (x : Bool) : TyOf K H (.bl x) (.type "bool")
  | int (i : Int) : TyOf K H (.int i) (.type "int")
  | str (x : Str) : TyOf K H (.str x) (.type "str")
  | flt (x : UInt64) : TyOf K H (.flt x) (.type "float")
  | lst {a : Addr} {xs : List V} (e : H a = some (.lst xs)) : TyOf K H (.ref a) (.type "list")
  | frz {a : Addr} {o : Obj} {xs : List V} (e : H a = some (.frz o (.lst xs))) : TyOf K H (.ref a) (.type "list")
  | tup {a : Addr} {xs : List V} (e : H a = some (.tup xs)) : TyOf K H (.ref a) (.type "tuple")
  | dK {a : Addr} {kvs : List (Key × V)} (e : H a = some (.dK kvs)) : TyOf K H (.ref a) (.type "dict")
  | dT {a : Addr} {kvs : List (List Key × V)} (e : H a = some (.dT kvs)) : TyOf K H (.ref a) (.type "dict")
  | ins {a C dx : Addr} {fs : List (Str × V)} (e : H a = some (.ins C dx fs)) (cl : Cls K C) (ha : PySem.W.findIn K (.ref C) "__class__" = some (some (.builtin "object.__class__")))
      (hn : PySem.W.specialIn K (.builtin "object.__class__") "__get__" = some (some (.builtin "getset_descriptor.__get__"))) (htk : PySem.W.takesIn K (.builtin "object.__class__") = some true)
      (hm : PySem.W.mroIn K C (.type "object") = some true) : TyOf K H (.ref a) (.ref C)
theorem isinst_ok {x : V} {u t : Value} (I : Inv X pins σ H s) (rx : RelV x u) (ty : TyOf X.K H x t) (e : PySem.W.kitOne X.K t c = some b) (h : ∀ tk, Q (.bool b) { s with toks := tk }) :
    wpAny (model X.prog X.w) A (call (.builtin "isinstance") [u, c]) Q E s := by
  cases ty with
  | non => cases (show u = Value.none from rx); exact PySem.W.kia_one PySem.W.kitx_none I.kIn True.intro e (fun z => nomatch z) h
  | bl y => cases (show u = Value.bool y from rx); exact PySem.W.kia_one PySem.W.kitx_bool I.kIn True.intro e (fun z => nomatch z) h
  | int i => obtain ⟨t, q⟩ := (show ∃ t, u = Value.int i t from rx); cases q; exact PySem.W.kia_one PySem.W.kitx_int I.kIn True.intro e (fun z => nomatch z) h
  | str y => obtain ⟨t, q⟩ := (show ∃ t, u = Value.str y t from rx); cases q; exact PySem.W.kia_one PySem.W.kitx_str I.kIn True.intro e (fun z => nomatch z) h
  | flt y => obtain ⟨t, q⟩ := (show ∃ t, u = Value.float y t from rx); cases q; exact PySem.W.kia_one PySem.W.kitx_float I.kIn True.intro e (fun z => nomatch z) h
  | @lst a xs ea =>
    cases (show u = Value.ref a from rx)
    obtain ⟨_, _, n, _, h1⟩ := (show ObjOk X.prog X.w H s.heap a (.lst xs) from I.hok a _ ea)
    exact PySem.W.kia_one PySem.W.kitx_list I.kIn ⟨_, h1, rfl⟩ e (fun z => nomatch z) h
  | @frz a ob xs ea =>
    cases (show u = Value.ref a from rx)
    obtain ⟨_, _, _, n, _, h1⟩ := (show ObjOk X.prog X.w H s.heap a (.frz ob (.lst xs)) from I.hok a _ ea)
    exact PySem.W.kia_one PySem.W.kitx_list I.kIn ⟨_, h1, rfl⟩ e (fun z => nomatch z) h
  | @tup a xs ea =>
    cases (show u = Value.ref a from rx)
    obtain ⟨_, _, _, p⟩ := (show ObjOk X.prog X.w H s.heap a (.tup xs) from I.hok a _ ea)
    obtain ⟨o, h1, h2, _⟩ := p
    exact PySem.W.kia_one PySem.W.kitx_tuple I.kIn ⟨o, h1, h2⟩ e (fun z => nomatch z) h
  | @dK a kvs ea =>
    cases (show u = Value.ref a from rx)
    obtain ⟨_, _, vs, _, p⟩ := (show ObjOk X.prog X.w H s.heap a (.dK kvs) from I.hok a _ ea)
    obtain ⟨o, es, ep, h1, h2, _⟩ := p
    exact PySem.W.kia_one PySem.W.kitx_dict I.kIn ⟨o, h1, h2.1⟩ e (fun z => nomatch z) h
  | @dT a kvs ea =>
    cases (show u = Value.ref a from rx)
    obtain ⟨_, _, xs, _, o, es, ep, h1, h2, _⟩ := (show ObjOk X.prog X.w H s.heap a (.dT kvs) from I.hok a _ ea)
    exact PySem.W.kia_one PySem.W.kitx_dict I.kIn ⟨o, h1, h2.1⟩ e (fun z => nomatch z) h
  | @ins a C dx fs ea cl ha hn htk hm =>
    cases (show u = Value.ref a from rx)
    obtain ⟨mA, O, _⟩ := ins_get I.hok ea
    obtain ⟨od, J, _⟩ := O.look
    exact PySem.W.kia_one (PySem.W.kitx_own (cl.get _) cl.hd ha hn htk hm) I.kIn J e (fun z => nomatch z) h
end
end L2

namespace L2
open PySem PySem.Spec PyProof.Rows

structure Room (k : Nat) (A : Around) : Prop where
  hd : A.handled = none
  dp : A.depth + 3 * k + 5 < recursionLimit
  un : A.units + 16 * k + 200 < cLine
theorem Room.mono {j k : Nat} {A : Around} (r : Room k A) (h : j ≤ k) : Room j A := ⟨r.hd, by have := r.dp; omega, by have := r.un; omega⟩
theorem Room.deeper {k : Nat} {A : Around} (r : Room (k + 1) A) (env : Env) : Room k (A.deeper env) :=
  ⟨r.hd, by have := r.dp; show A.depth + 1 + 3 * k + 5 < _; omega, by have := r.un; show A.units + 3 + 16 * k + 200 < _; omega⟩
theorem make_depth {A : Around} {C : Addr} {us : List Value} {kw : List (Str × Value)} : (A.under (.builtin "type.__call__" ⟨.ref C :: us, kw⟩)).depth = A.depth + 1 := by
  first | rfl | simp [Around.under, Code.weight, Code.isCreation, Code.isGuard, Code.isCaller, Code.frames, Code.isFrame, guardIds]
theorem make_units {A : Around} {C : Addr} {us : List Value} {kw : List (Str × Value)} : (A.under (.builtin "type.__call__" ⟨.ref C :: us, kw⟩)).units = A.units + 1 := by
  first | rfl | simp [Around.under, Code.cUnits, Code.frames, Code.isFrame]
theorem Room.make {k : Nat} {A : Around} (r : Room (k + 1) A) (C : Addr) (us : List Value) (kw : List (Str × Value)) : Room k (A.under (.builtin "type.__call__" ⟨.ref C :: us, kw⟩)) :=
  ⟨r.hd, by have := r.dp; rw [make_depth]; omega, by have := r.un; rw [make_units]; omega⟩
theorem Room.depth {k : Nat} {A : Around} (r : Room k A) : A.depth < recursionLimit := by have := r.dp; omega
theorem Room.units {k : Nat} {A : Around} (r : Room k A) : A.units + 64 < cLine := by have := r.un; omega
def tNil : TA := fun _ H Q => Q [] H
def tCons (ta : TE) (tr : TA) : TA := fun σ H Q => ta σ H fun x H1 => tr σ H1 fun xs H2 => Q (x :: xs) H2
section
variable {X : Cx} {e : Expr} {es : List Expr} {te : TE} {t : TA} {pos : Pos}
theorem pa_nil : PA X [] tNil := fun _ _ _ _ H Q I h => Calls.spliced_nil ⟨[], H, I, .nil, h⟩
theorem pa_cons (ha : PE X e te) (hr : PA X es t) (hs : starEach (e :: es) X.env = (false, eval e X.env) :: starEach es X.env := by rfl) : PA X (e :: es) (tCons te t) := by
  intro pos pins s σ H Q I h
  rw [hs]
  show wpAny _ _ (spliced ((false, eval e X.env) :: backTo pos (starEach es X.env))) _ _ s
  refine Calls.spliced_cons (thn (ha pins s σ H _ I h) fun u s1 ⟨x, H1, I1, r1, q1⟩ => ?_)
  exact thn (hr pos pins s1 σ H1 _ I1 q1) fun us s2 ⟨xs, H2, I2, r2, q2⟩ => ⟨x :: xs, H2, I2, .cons r1 r2, q2⟩

def tTup (t : TA) : TE := fun σ H Q => t σ H fun xs H1 => xs.length ≤ sizeLine ∧ ∀ p, H1 p = none → Q (.ref p) (upd H1 p (.tup xs))
def tLst (t : TA) : TE := fun σ H Q => t σ H fun xs H1 => xs.length ≤ sizeLine ∧ ∀ p, H1 p = none → Q (.ref p) (upd H1 p (.lst xs))
theorem pe_tup {x1} (h : PA X es t) : PE X (.Tuple es x1 pos) (tTup t) := by
  intro pins s σ H Q I hq
  refine wpAny_Tuple_spliced (thn (h pos pins s σ H _ I hq) fun us s1 ⟨xs, H1, I1, r, z, q⟩ => ⟨by rw [← r.length]; exact z, ?_⟩)
  have hf : H1 s1.heap.objs.size = none := I1.hok.fresh (Nat.le_refl _)
  refine ⟨.ref s1.heap.objs.size, upd H1 s1.heap.objs.size (.tup xs), I1.laid (t' := s1.toks) (fun b u e => Heap.get?_push_of_some _ e) (Nat.le_refl _) ?_, rfl, q _ hf⟩
  exact ⟨z, us, r, ⟨_, Heap.get?_push_size _ rfl, rfl, _, rfl⟩⟩
theorem pe_lst (h : PA X es t) : PE X (.List es pos) (tLst t) := by
  intro pins s σ H Q I hq
  refine wpAny_List_spliced (thn (h pos pins s σ H _ I hq) fun us s1 ⟨xs, H1, I1, r, z, q⟩ => ⟨by rw [← r.length]; exact z, ?_⟩)
  have hf : H1 s1.heap.objs.size = none := I1.hok.fresh (Nat.le_refl _)
  refine ⟨.ref s1.heap.objs.size, upd H1 s1.heap.objs.size (.lst xs), I1.laid (t' := s1.toks) (fun b u e => Heap.get?_push_of_some _ e) (Nat.le_refl _) ?_, rfl, q _ hf⟩
  exact ⟨z, us, 0, r, Heap.get?_push_size _ rfl⟩
end

abbrev Sp := List V → Hp → VK → XK → Prop
abbrev CXT := List Env → Hp → Shared → XK → Value → Shared → Prop

structure Env0 (P : Program) (w : World) (K : PySem.W.Frag) (mg : Str → Option Value) (base : Heap) (A : Around) (outer : List Env) (s : Shared) (H : Hp) : Prop where
  frames : A.frames = some outer
  mod : Mod K mg base
  bs : ∀ b o, base.get? b = some o → s.heap.get? b = some o ∧ H b = none
  bsz : base.objs.size ≤ s.heap.objs.size
  funs : s.heap.FunFrames base outer
  frf : ∀ b ∈ frs outer, H b = none
  hok : HOk P w H s.heap
  bare : AllBare s.gens
def CE (outer : List Env) (P : Program) (w : World) (H : Hp) (s : Shared) (Q : VK) (u : Value) (s' : Shared) : Prop :=
  ∃ v H', s'.os = s.os ∧ AllBare s'.gens ∧ Un (frs outer) [] H H' s.heap s'.heap ∧ HOk P w H' s'.heap ∧ RelV v u ∧ Q v H'
def CR (CX : CXT) (outer : List Env) (P : Program) (w : World) (H : Hp) (s : Shared) (Q : VK) (E : XK) (r : Result) (s' : Shared) : Prop :=
  match r with
  | .ok (.ret u) => CE outer P w H s Q u s'
  | .ok _ => False
  | .error e => CX outer H s E e s'
structure FnOk (P : Program) (w : World) (K : PySem.W.Frag) (mg : Str → Option Value) (base : Heap) (CX : CXT) (k : Nat) (f : Addr) (fd : FuncData) (ps : List Str) (sp : Sp) : Prop where
  len : ∀ vs H Q E, sp vs H Q E → vs.length = ps.length
  run : ∀ (A : Around) (outer : List Env) (s : Shared) (H : Hp) (args : Args) (us : List Value) (vs : List V) (Q : VK) (E : XK), Room k A → Env0 P w K mg base A outer s H → BindsTo s fd args (ps.zip us) → Vals vs us → sp vs H Q E →
    codeAny (model P w) A (.call (.ref f) args) (CR CX outer P w H s Q E) s
theorem Env0.make {P : Program} {w : World} {K : PySem.W.Frag} {mg : Str → Option Value} {base : Heap} {A : Around} {outer : List Env} {s : Shared} {H : Hp} (e : Env0 P w K mg base A outer s H) (C : Addr) (us : List Value) (kw : List (Str × Value)) :
    Env0 P w K mg base (A.under (.builtin "type.__call__" ⟨.ref C :: us, kw⟩)) outer s H := ⟨by first | exact e.frames | (simpa [Around.under, Code.envs, Code.isFrame, pushEnvs] using e.frames), e.mod, e.bs, e.bsz, e.funs, e.frf, e.hok, e.bare⟩
section
variable {X : Cx} {pins : List (Addr × Obj)} {σ : St} {H : Hp} {s s' : Shared}
theorem Inv.env0 (I : Inv X pins σ H s) : Env0 X.prog X.w X.K X.mg X.base X.A X.stack s H :=
  ⟨I.ok.frames, I.ok.mod, I.bs, Nat.le_trans I.ok.bsz I.sz, I.stack, I.stkFree, I.hok, I.bare⟩
theorem Inv.after {Q : VK} {u : Value} (I : Inv X pins σ H s) (h : CE X.stack X.prog X.w H s Q u s') : EP X pins σ Q u s' := by
  obtain ⟨v, H', os, bare, un, hok, r, q⟩ := h
  obtain ⟨hh, g, d, t, os'⟩ := s'
  obtain rfl : os' = s.os := os
  exact ⟨v, H', I.call (h' := hh) (g' := g) (d' := d) (t' := t) (ch := []) un hok bare (fun b z => absurd z (by simp)), r, q⟩
end

def tCall (sp : Sp) (dvs : List V) (E : XK) (t : TA) : TE := fun σ H Q => t σ H fun vs H1 => sp (vs ++ dvs) H1 Q E
def Binds (K : PySem.W.Frag) (fd : FuncData) (ps : List Str) (ds : List Value) : Prop :=
  ∀ (s : Shared) (us : List Value), K.In s.heap → (us ++ ds).length = ps.length → BindsTo s fd ⟨us, []⟩ (ps.zip (us ++ ds))
theorem Binds.all {K : PySem.W.Frag} {fd : FuncData} {ps : List Str} (h : ∀ us : List Value, us.length = ps.length → bindArgs fd ⟨us, []⟩ = pure (ps.zip us)) : Binds K fd ps [] := fun s us _ hl => by
  rw [List.append_nil] at hl ⊢
  exact .of_eq (h us hl)

def Passes (CX : CXT) (X : Cx) (E : XK) : Prop := ∀ (pins : List (Addr × Obj)) (σ : St) (H : Hp) (s : Shared) (e : Value) (s' : Shared), Inv X pins σ H s → CX X.stack H s E e s' → X.xe e s'

section
variable {X : Cx} {CX : CXT} {k : Nat} {f C : Addr} {fd : FuncData} {ps : List Str} {sp : Sp} {dvs : List V} {ds : List Value} {E : XK} {x m : Str} {p pos apos : Pos} {e o : Expr} {es : List Expr} {ta : TE} {t : TA}

theorem run_fn {pins : List (Addr × Obj)} {σ : St} {H : Hp} {s : Shared} {Q : VK} {us : List Value} {vs : List V} (F : FnOk X.prog X.w X.K X.mg X.base CX k f fd ps sp) (hr : Room k X.A) (hb : Binds X.K fd ps ds) (hd : Vals dvs ds) (hx : Passes CX X E)
    (I : Inv X pins σ H s) (r : Vals vs us) (h : sp (vs ++ dvs) H Q E) : wpAny (model X.prog X.w) X.A (call (.ref f) us) (EP X pins σ Q) X.xe s := by
  have r2 : Vals (vs ++ dvs) (us ++ ds) := r.append hd
  have hl : (us ++ ds).length = ps.length := by rw [← r2.length]; exact F.len _ _ _ _ h
  refine wpAny_call (codeAny_mono (F.run X.A X.stack s H ⟨us, []⟩ (us ++ ds) (vs ++ dvs) Q E hr I.env0 (hb s us I.kIn hl) r2 h) fun r s' hq => ?_)
  cases r with
  | error e => exact hx pins σ H s e s' I hq
  | ok fl =>
    cases fl with
    | ret u => exact I.after hq
    | next => exact False.elim hq
    | brk => exact False.elim hq
    | cont => exact False.elim hq

theorem pe_call (F : FnOk X.prog X.w X.K X.mg X.base CX k f fd ps sp) (hr : Room k X.A) (hg : Gl X x) (hm : X.mg x = some (.ref f)) (hk : PySem.W.keepIn X.K (.ref f) = true) (hb : Binds X.K fd ps ds) (hd : Vals dvs ds) (hx : Passes CX X E)
    (ha : PA X (e :: es) t) (hdb : (x == ("__debug__" : Str)) = false := by decide) (he : starEach (e :: es) X.env = (false, eval e X.env) :: starEach es X.env := by rfl) (hpl : (backTo pos (starEach es X.env)).any (·.1) = false := by rfl) :
    PE X (.Call (.Name x p) (e :: es) [] pos) (tCall sp dvs E t) := by
  intro pins s σ H Q I h
  refine wpAny_Call_Name_kw (ld_glob I hg hm ?_ hdb)
  refine PySem.W.callWith_K (h₀ := X.base) I.ok.mod.kin hk (thn (ha pos pins s σ H _ I h) fun us s1 ⟨vs, H1, I1, r, q⟩ => ⟨I1.kIn, ?_⟩) he hpl
  exact run_fn F hr hb hd hx I1 r q
theorem pe_call0 (F : FnOk X.prog X.w X.K X.mg X.base CX k f fd ps sp) (hr : Room k X.A) (hg : Gl X x) (hm : X.mg x = some (.ref f)) (hk : PySem.W.keepIn X.K (.ref f) = true) (hb : Binds X.K fd ps ds) (hd : Vals dvs ds) (hx : Passes CX X E)
    (hdb : (x == ("__debug__" : Str)) = false := by decide) : PE X (.Call (.Name x p) [] [] pos) (tCall sp dvs E tNil) := by
  intro pins s σ H Q I h
  refine wpAny_Call_Name_kw (ld_glob I hg hm ?_ hdb)
  exact PySem.W.callWith_K0 I.kIn hk (run_fn (us := []) F hr hb hd hx I .nil h)

structure Mk (K : PySem.W.Frag) (C f : Addr) : Prop where
  makes : PySem.W.makesIn K C = true
  init : PySem.W.findIn K (.ref C) "__init__" = some (some (.ref f))
  fn : PySem.W.isFn K (.ref f) = true
  kp : PySem.W.keepIn K (.ref C) = true

end

section
variable {X : Cx} {CX : CXT} {k : Nat} {f C : Addr} {fd : FuncData} {ps ks : List Str} {sp : Sp} {E : XK} {x m : Str} {p pos apos kpos : Pos} {e o : Expr} {es : List Expr} {kws : List Keyword} {te ta : TE} {t tk : TA} {nm : Option Str}
structure KBinds (K : PySem.W.Frag) (fd : FuncData) (ps ks : List Str) (g : List Value → List Value → List Value) (gV : List V → List V → List V) : Prop where
  to : ∀ (s : Shared) (us ws : List Value), K.In s.heap → (g us ws).length = ps.length → BindsTo s fd ⟨us, ks.zip ws⟩ (ps.zip (g us ws))
  rel : ∀ {vs : List V} {us : List Value} {zs : List V} {ws : List Value}, Vals vs us → Vals zs ws → Vals (gV vs zs) (g us ws)
variable {g : List Value → List Value → List Value} {gV : List V → List V → List V}
end

structure FnScope (N P : List Str) (sc : Scope) : Prop where
  kind : sc.kind = .function
  co : sc.isCoroutine = false
  gen : sc.isGenerator = false
  nd : N.Nodup
  pre : N.take P.length = P
  par : ∀ x ∈ P, sc.names.lookup x = some .local ∨ sc.names.lookup x = some .cell
  nofree : ∀ y ∈ sc.names, y.2 ≠ .free

theorem bindL_out {kindOf : Str → Option NameKind} {x : Str} : ∀ {binds : List (Str × Value)} {m : Str → Option Value}, (∀ v, (x, v) ∉ binds) → bindL kindOf binds m x = m x
  | [], _, _ => rfl
  | (n, v) :: r, m, h => by
    unfold bindL
    rw [bindL_out fun w hw => h w (List.mem_cons_of_mem _ hw)]
    split
    · have : x ≠ n := by rintro rfl; exact h v List.mem_cons_self
      simp [this]
    · rfl
theorem bindC_out {kindOf : Str → Option NameKind} {x : Str} : ∀ {binds : List (Str × Value)} {m : Str → Option Value}, (∀ v, (x, v) ∉ binds) → bindC kindOf binds m x = m x
  | [], _, _ => rfl
  | (n, v) :: r, m, h => by
    unfold bindC
    rw [bindC_out fun w hw => h w (List.mem_cons_of_mem _ hw)]
    split
    · rfl
    · have : x ≠ n := by rintro rfl; exact h v List.mem_cons_self
      simp [this]
theorem bindL_get {kindOf : Str → Option NameKind} {x : Str} {v : Value} : ∀ {P : List Str} {vs : List Value} {i : Nat} {m : Str → Option Value}, P.Nodup → P[i]? = some x → vs[i]? = some v → kindOf x = some .local →
    bindL kindOf (P.zip vs) m x = some v
  | [], _, _, _, _, h, _, _ => by simp at h
  | _ :: _, [], _, _, _, _, h, _ => by simp at h
  | p :: P, w :: vs, 0, m, nd, h1, h2, hk => by
    simp at h1 h2; subst h1; subst h2
    show bindL kindOf ((p, w) :: P.zip vs) m p = _
    unfold bindL
    rw [bindL_out fun v hv => (List.nodup_cons.mp nd).1 (List.of_mem_zip hv).1, if_pos hk]
    simp
  | p :: P, w :: vs, i + 1, m, nd, h1, h2, hk => by
    show bindL kindOf ((p, w) :: P.zip vs) m x = _
    unfold bindL
    exact bindL_get (i := i) (List.nodup_cons.mp nd).2 (by simpa using h1) (by simpa using h2) hk
theorem bindC_get {kindOf : Str → Option NameKind} {x : Str} {v : Value} : ∀ {P : List Str} {vs : List Value} {i : Nat} {m : Str → Option Value}, P.Nodup → P[i]? = some x → vs[i]? = some v → kindOf x ≠ some .local →
    bindC kindOf (P.zip vs) m x = some v
  | [], _, _, _, _, h, _, _ => by simp at h
  | _ :: _, [], _, _, _, _, h, _ => by simp at h
  | p :: P, w :: vs, 0, m, nd, h1, h2, hk => by
    simp at h1 h2; subst h1; subst h2
    show bindC kindOf ((p, w) :: P.zip vs) m p = _
    unfold bindC
    rw [bindC_out fun v hv => (List.nodup_cons.mp nd).1 (List.of_mem_zip hv).1, if_neg hk]
    simp
  | p :: P, w :: vs, i + 1, m, nd, h1, h2, hk => by
    show bindC kindOf ((p, w) :: P.zip vs) m x = _
    unfold bindC
    exact bindC_get (i := i) (List.nodup_cons.mp nd).2 (by simpa using h1) (by simpa using h2) hk

def start (N : List Str) (vs : List V) : St := vs.map some ++ List.replicate (N.length - vs.length) none

def cxOf (CX : CXT) (P : Program) (w : World) (K : PySem.W.Frag) (mg : Str → Option Value) (base : Heap) (N : List Str) (qual : Str) (scope : Scope) (f : Addr) (cd : Value) (A : Around) (outer : List Env) (s : Shared) (H : Hp) (E : XK) : Cx where
  prog := P
  w := w
  K := K
  mg := mg
  base := base
  A := A.deeper (envOfC qual scope s.heap.objs.size f cd)
  N := N
  s₀ := s
  H₀ := H
  env := envOfC qual scope s.heap.objs.size f cd
  outer := outer
  stack := envOfC qual scope s.heap.objs.size f cd :: outer
  ex := []
  calm := true
  fn := fun _ => true
  pn := []
  xe := fun e s' => wpAny (model P w) (A.deeper (envOfC qual scope s.heap.objs.size f cd)) (leaving (envOfC qual scope s.heap.objs.size f cd) e) (fun _ s'' => CX outer H s E e s'') (fun e' s'' => CX outer H s E e' s'') s'

theorem cell_has {sc : Scope} {n : Nat} {x : Str} (h : sc.names.lookup x = some .cell) : ∃ c, (cellsFrom n sc.names []).lookup x = some c := by
  have q := PySem.W.cellsFrom_some sc.names n [] (.inl h)
  exact Option.isSome_iff_exists.mp q

theorem inv_start {CX : CXT} {P : Program} {w : World} {K : PySem.W.Frag} {mg : Str → Option Value} {base : Heap} {N ps : List Str} {qual : Str} {scope : Scope} {f : Addr} {cd : Value} {A : Around} {outer : List Env} {s s1 : Shared} {H : Hp} {E : XK} {us : List Value} {vs : List V}
    (S : FnScope N ps scope) (hd : A.handled = none) (e0 : Env0 P w K mg base A outer s H) (hl : vs.length = ps.length) (r : Vals vs us)
    (x : InCallC s s.heap.objs.size (bindL (envOfC qual scope s.heap.objs.size f cd).kindOf (ps.zip us) fun _ => none) (cellsFrom (s.heap.objs.size + 1) scope.names []) (bindC (envOfC qual scope s.heap.objs.size f cd).kindOf (ps.zip us) fun _ => none) s1) :
    Inv (cxOf CX P w K mg base N qual scope f cd A outer s H E) [] (start N vs) H s1 := by
  have hpl : ps.length ≤ N.length := by have := congrArg List.length S.pre; rw [List.length_take] at this; omega
  obtain ⟨h1, tk, rfl, hk⟩ := x.done
  have noA : ∀ b : Addr, b ∉ (cxOf CX P w K mg base N qual scope f cd A outer s H E).ex := fun b z => absurd (show b ∈ ([] : List Addr) from z) (by simp)
  refine ⟨⟨e0.mod, S.kind, rfl, rfl, Nat.le_refl _, fun y z c h1 h2 => ?_, fun y hy => ?_, fun y c _ h => ?_, fun _ => hd, Around.frames_deeper e0.frames, .inr ⟨rfl, rfl⟩, fun b z => absurd z (noA b), e0.bs, e0.bsz, fun b _ _ => noA b, fun b z => absurd z (noA b), e0.funs, e0.frf⟩,
    rfl, e0.bare, Un.kept hk, ⟨_, x.toInCall.ns, fun i y v h1 h2 h3 => ?_⟩, fun y c h => ⟨_, x.cell y c h⟩, e0.hok.fresh (Nat.le_refl _), fun y c h => ?_, fun p hp => absurd (show p ∈ ([] : List (Addr × Obj)) from hp) (by simp), e0.hok.kept hk, ?_⟩
  · exact name_of_addr x.apart (PySem.mem_of_lookup h1) (PySem.mem_of_lookup h2)
  · have hy : scope.names.lookup y = some .cell ∨ scope.names.lookup y = some .free := hy
    rcases hy with hy | hy
    · exact cell_has hy
    · exact absurd rfl (S.nofree _ (PySem.mem_of_lookup hy))
  · exact Nat.le_of_lt (x.above y c (PySem.mem_of_lookup h))
  · have hi : i < vs.length := by
      unfold start at h2
      by_cases hi : i < vs.length
      · exact hi
      · rw [List.getElem?_append_right (by simpa using hi)] at h2
        rw [List.getElem?_replicate] at h2
        split at h2 <;> cases h2
    have ha : vs[i]? = some v := by
      unfold start at h2
      rw [List.getElem?_append_left (by simpa using hi), List.getElem?_map] at h2
      cases e : vs[i]? with
      | none => rw [e] at h2; cases h2
      | some a => rw [e] at h2; cases h2; rfl
    obtain ⟨u, hu, rv⟩ := r.get ha
    have hp : ps[i]? = some y := by
      rw [← S.pre, List.getElem?_take_of_lt (by omega)]; exact h1
    have ndP : ps.Nodup := by rw [← S.pre]; exact S.nd.sublist (List.take_sublist _ _)
    refine ⟨u, rv, ?_⟩
    rcases S.par y (List.mem_of_getElem? hp) with k | k
    · exact .inl ⟨k, bindL_get ndP hp hu k⟩
    · obtain ⟨c, e⟩ := cell_has (n := s.heap.objs.size + 1) k
      refine .inr ⟨.inl k, c, e, ?_⟩
      have q := x.cell y c e
      rw [bindC_get ndP hp hu (by show scope.names.lookup y ≠ _; rw [k]; decide)] at q
      exact q
  · exact e0.hok.fresh (Nat.le_of_lt (x.above y c (PySem.mem_of_lookup h)))
  · unfold start
    show _ = N.length
    rw [List.length_append, List.length_map, List.length_replicate]
    omega

theorem fn_of {CX : CXT} {P : Program} {w : World} {K : PySem.W.Frag} {mg : Str → Option Value} {base : Heap} {k : Nat} {f : Addr} {name qual : Str} {params : Arguments} {body : List Stmt} {scope : Scope} {dV kV doc pm cdv ct oc : Value} {an od : Option Addr}
    {osl : Array (Option Value)} {N ps : List Str} {sp : Sp} (lk : K.lookup f = some ⟨oc, od, .func (PySem.W.fnOf name qual params body scope dV kV doc pm an cdv ct), osl⟩) (hcd : PySem.W.codeIn K cdv qual = true) (S : FnScope N ps scope)
    (len : ∀ vs H Q E, sp vs H Q E → vs.length = ps.length)
    (hbody : ∀ (A : Around) (outer : List Env) (s : Shared) (H : Hp) (vs : List V) (Q : VK) (E : XK), Room k (A.deeper (envOfC qual scope s.heap.objs.size f cdv)) → sp vs H Q E →
      ∃ t, PSs (cxOf CX P w K mg base N qual scope f cdv A outer s H E) body t ∧ t { nx := fun _ H' => Q .non H', rt := Q } (start N vs) H) :
    FnOk P w K mg base CX (k + 1) f (PySem.W.fnOf name qual params body scope dV kV doc pm an cdv ct) ps sp := by
  refine ⟨len, fun A outer s H args us vs Q E hr e0 hb r hsp => ?_⟩
  have hl := len _ _ _ _ hsp
  have KX : K.In s.heap := e0.mod.kin.keeps fun b o e => (e0.bs b o e).1
  have lim : s.heap.NoLimit := e0.mod.nolimit.keeps fun b o e => (e0.bs b o e).1
  have hkind : ∀ y ∈ ps.zip us, scope.names.lookup y.1 = some .local ∨ (scope.names.lookup y.1 = some .cell ∧ ((cellsFrom (s.heap.objs.size + 1) scope.names []).lookup y.1).isSome = true) := fun ⟨n, v⟩ hy => by
    rcases S.par n (List.of_mem_zip hy).1 with q | q
    · exact .inl q
    · exact .inr ⟨q, PySem.W.cellsFrom_some _ _ _ (.inl q)⟩
  refine codeAny_call_function hr.depth (KX _ _ lk) rfl S.co S.gen rfl (PySem.W.codeRec_of KX hcd) (hb _ _ _ _ ?_)
  refine wpAny_newFunctionEnv_cells S.kind hkind fun env he s1 x => ?_
  subst he
  refine ⟨lim.keeps x.toInCall.keep, codeAny_func ?_⟩
  obtain ⟨t, ht, hq⟩ := hbody A outer s H vs Q E (hr.deeper _) hsp
  have I : Inv (cxOf CX P w K mg base N qual scope f cdv A outer s H E) [] (start N vs) H s1 := inv_start S hr.hd e0 hl r x
  refine wpAny_mono (ht [] s1 (start N vs) H _ I hq) (fun fl s' hs => ?_) fun e s' hs => hs
  have fin : ∀ {σ' : St} {H' : Hp} {v : V} {u : Value}, Inv (cxOf CX P w K mg base N qual scope f cdv A outer s H E) [] σ' H' s' → RelV v u → Q v H' → CE outer P w H s Q u s' :=
    fun {σ' H' v u} J rv q => ⟨v, H', J.os, J.bare, J.base, J.hok, rv, q⟩
  cases fl with
  | ret u =>
    obtain ⟨v, σ', H', J, rv, q⟩ := hs
    exact fin J rv q
  | next =>
    obtain ⟨σ', H', J, q⟩ := hs
    exact fin (v := V.non) (u := Value.none) J rfl q
  | brk =>
    obtain ⟨_, _, _, q⟩ := hs
    exact False.elim q
  | cont =>
    obtain ⟨_, _, _, q⟩ := hs
    exact False.elim q
end L2

namespace L2
open PySem PySem.Spec PyProof.Rows
section
variable {X : Cx} {x : Str} {p pos : Pos} {e : Expr} {es : List Expr} {t : TA} {id T : String} {r : List V → Hp → VK → Prop}

def tCB (r : List V → Hp → VK → Prop) (t : TA) : TE := fun σ H Q => t σ H fun vs H1 => r vs H1 Q
theorem pe_callB (hc : CallR X (.builtin id) r) (hg : Gl X x) (hm : X.mg x = none) (hv : bootBuiltins x = some (.builtin id)) (ha : PA X (e :: es) t) (hn : x ≠ "__name__" := by decide) (hdb : (x == ("__debug__" : Str)) = false := by decide)
    (he : starEach (e :: es) X.env = (false, eval e X.env) :: starEach es X.env := by rfl) (hpl : (backTo pos (starEach es X.env)).any (·.1) = false := by rfl) : PE X (.Call (.Name x p) (e :: es) [] pos) (tCB r t) := by
  intro pins s σ H Q I h
  refine wpAny_Call_Name_kw (ld_blt I hg hm hv ?_ hn hdb)
  exact PyProof.Rows.callWith_builtin1 (thn (ha pos pins s σ H _ I h) fun us s1 ⟨vs, H1, I1, r1, q1⟩ => hc pins s1 σ H1 vs us Q I1 r1 q1) he hpl
theorem pe_callTy (hc : CallR X (.type T) r) (hg : Gl X x) (hm : X.mg x = none) (hv : bootBuiltins x = some (.type T)) (ha : PA X (e :: es) t) (hn : x ≠ "__name__" := by decide) (hdb : (x == ("__debug__" : Str)) = false := by decide)
    (he : starEach (e :: es) X.env = (false, eval e X.env) :: starEach es X.env := by rfl) (hpl : (backTo pos (starEach es X.env)).any (·.1) = false := by rfl) : PE X (.Call (.Name x p) (e :: es) [] pos) (tCB r t) := by
  intro pins s σ H Q I h
  refine wpAny_Call_Name_kw (ld_blt I hg hm hv ?_ hn hdb)
  exact PyProof.Rows.callWith_type1 (thn (ha pos pins s σ H _ I h) fun us s1 ⟨vs, H1, I1, r1, q1⟩ => hc pins s1 σ H1 vs us Q I1 r1 q1) he hpl
end
end L2

namespace HT
open PySem PyProof.Rows

section
open PySem.SeqAt
open PySem.AutoSeq1 (wpAny_loadPart')
open PySem.MeetsSeq PySem.MeetsSeq2 PySem.MeetsSeq3

end

section
variable {prog : Program} {w : World} {A : Around} {E : Value → Shared → Prop} {s : Shared}

def sIx (n d : Nat) : Option Int → Nat
  | none => d
  | some v => if v < 0 then (v + (n : Int)).toNat else min v.toNat n
theorem sIx_le (n d : Nat) (hd : d ≤ n) (o : Option Int) : sIx n d o ≤ n := by
  cases o with
  | none => exact hd
  | some v =>
    show (if v < 0 then (v + (n : Int)).toNat else min v.toNat n) ≤ n
    by_cases hv : v < 0
    · rw [if_pos hv]; omega
    · rw [if_neg hv]; exact Nat.min_le_right _ _
end
end HT

namespace L2
open PySem PySem.Spec PyProof.Rows

abbrev TO := St → Hp → (Option Int → Hp → Prop) → Prop
def PO (X : Cx) (e : Option Expr) (t : TO) : Prop :=
  ∀ (pins : List (Addr × Obj)) (s : Shared) (σ : St) (H : Hp) (Q : Option Int → Hp → Prop), Inv X pins σ H s → t σ H Q →
    wpAny (model X.prog X.w) X.A (evalPart e X.env) (fun u s' => ∃ o H', Inv X pins σ H' s' ∧ IsPart u o ∧ Q o H') X.xe s
def tNoPart : TO := fun _ H Q => Q none H
def tPart (t : TE) : TO := fun σ H Q => t σ H fun x H1 => ∃ i, x = .int i ∧ Q (some i) H1

section
variable {X : Cx} {e : Expr} {te : TE} {lo hi : Option Expr} {tl th : TO} {pos p2 : Pos}

theorem po_none : PO X none tNoPart := by
  intro pins s σ H Q I h
  rw [evalPart_none]
  exact wpAny_pure ⟨none, H, I, .none, h⟩
theorem po_some (h : PE X e te) : PO X (some e) (tPart te) := by
  intro pins s σ H Q I hw
  rw [evalPart_some]
  refine thn (h pins s σ H _ I hw) fun u s1 ⟨x, H1, I1, r1, q1⟩ => ?_
  obtain ⟨i, rfl, q⟩ := q1
  obtain ⟨t, rfl⟩ := r1
  exact ⟨some i, H1, I1, .int i t, q⟩

def SlR (X : Cx) (r : V → Option Int → Option Int → Hp → VK → Prop) : Prop :=
  ∀ (pins : List (Addr × Obj)) (s : Shared) (σ : St) (H : Hp) (x : V) (v vl vu : Value) (lo hi : Option Int) (sl : Addr) (Q : VK), Inv X pins σ H s → RelV x v → s.heap.IsSliceOf sl vl vu .none → IsPart vl lo → IsPart vu hi → r x lo hi H Q →
    ∃ T id, typeLookup (.type T) "__getitem__" = pure (some (.builtin id)) ∧ s.TypeIs v T ∧ wpAny (model X.prog X.w) X.A (getItem v (.ref sl)) (EP X pins σ Q) X.xe s
def tSl (r : V → Option Int → Option Int → Hp → VK → Prop) (te : TE) (tl th : TO) : TE := fun σ H Q => te σ H fun x H1 => tl σ H1 fun l H2 => th σ H2 fun u H3 => r x l u H3 Q
theorem pe_slice {r : V → Option Int → Option Int → Hp → VK → Prop} (hr : SlR X r) (he : PE X e te) (hl : PO X lo tl) (hu : PO X hi th) : PE X (.Subscript e (.Slice lo hi none p2) pos) (tSl r te tl th) := by
  intro pins s σ H Q I h
  refine Subscript_ (thn (he pins s σ H _ I h) fun v s1 ⟨x, H1, I1, r1, q1⟩ => ?_)
  refine wpAny_Slice (thn (hl pins s1 σ H1 _ I1 q1) fun vl s2 ⟨l, H2, I2, pl, q2⟩ => thn (hu pins s2 σ H2 _ I2 q2) fun vu s3 ⟨u, H3, I3, pu, q3⟩ => ?_)
  rw [evalPart_none]
  refine wpAny_pure ?_
  have I4 : Inv X pins σ H3 { s3 with heap := s3.heap.push { cls := .type "slice", data := .fields #[vl, vu, .none] } } := I3.kept (t' := s3.toks) fun b ob q => Heap.get?_push_of_some _ q
  obtain ⟨T, id, hT, ht, hg⟩ := hr pins { s3 with heap := s3.heap.push { cls := .type "slice", data := .fields #[vl, vu, .none] } } σ H3 x v vl vu l u s3.heap.objs.size Q I4 r1 (Heap.IsSliceOf.new ..) pl pu q3
  show wpAny (model X.prog X.w) X.A (subscriptTail e (.Slice lo hi none p2) v (.ref s3.heap.objs.size)) (EP X pins σ Q) X.xe { s3 with heap := s3.heap.push { cls := .type "slice", data := .fields #[vl, vu, .none] } }
  exact tail_any (ops := [.ref s3.heap.objs.size, v]) ht hT hg (by with_unfolding_all rfl)

def cutV (xs : List V) (lo hi : Option Int) : List V := (xs.drop (HT.sIx xs.length 0 lo)).take (HT.sIx xs.length xs.length hi - HT.sIx xs.length 0 lo)
theorem cutV_length (xs : List V) (lo hi : Option Int) : (cutV xs lo hi).length ≤ xs.length := by
  unfold cutV
  rw [List.length_take, List.length_drop]
  omega
end
end L2

namespace L2
open PySem PySem.Spec PyProof.Rows

def ixN (n : Nat) (i : Int) : Option Nat := if 0 ≤ i then (if i < n then some i.toNat else none) else if -(n : Int) ≤ i then some (i + n).toNat else none
def atI {α : Type} (xs : List α) (i : Int) : Option α := (ixN xs.length i).bind fun j => xs[j]?
theorem ixN_seq {n : Nat} {i : Int} {j : Nat} (h : ixN n i = some j) : seqIndex? i n = some j ∧ j < n ∧ -(n : Int) ≤ i ∧ i < n := by
  unfold ixN at h
  by_cases h0 : 0 ≤ i
  · rw [if_pos h0] at h
    by_cases h1 : i < n
    · rw [if_pos h1] at h
      have e : i.toNat = j := Option.some.inj h
      exact ⟨by rw [seqIndex_of h0 h1, e], by omega, by omega, h1⟩
    · rw [if_neg h1] at h; cases h
  · rw [if_neg h0] at h
    by_cases h1 : -(n : Int) ≤ i
    · rw [if_pos h1] at h
      have e : (i + n).toNat = j := Option.some.inj h
      exact ⟨by rw [seqIndex_neg (by omega) h1, e], by omega, h1, by omega⟩
    · rw [if_neg h1] at h; cases h
theorem atI_get {α : Type} {xs : List α} {i : Int} {v : α} (h : atI xs i = some v) : ∃ j, seqIndex? i xs.length = some j ∧ xs[j]? = some v ∧ j < xs.length ∧ -(xs.length : Int) ≤ i ∧ i < xs.length := by
  unfold atI at h
  cases e : ixN xs.length i with
  | none => rw [e] at h; cases h
  | some j =>
    rw [e] at h
    obtain ⟨h1, h2, h3, h4⟩ := ixN_seq e
    exact ⟨j, h1, h, h2, h3, h4⟩
theorem atI_nat {α : Type} {xs : List α} {j : Nat} {v : α} (h : xs[j]? = some v) : atI xs (j : Int) = some v := by
  have hj : j < xs.length := (List.getElem?_eq_some_iff.mp h).1
  have e : ixN xs.length (j : Int) = some j := by
    unfold ixN
    rw [if_pos (by omega), if_pos (by omega)]; simp
  unfold atI; rw [e]; exact h
def PlainIx (b : Expr) : Prop := ∀ o i, subscripted b false o i = operate [o, i] (getItem o i)
def IxR (X : Cx) (r : R2) : Prop :=
  ∀ (value slice : Expr) (pins : List (Addr × Obj)) (s : Shared) (σ : St) (H : Hp) (x y : V) (v u : Value) (Q : VK), Inv X pins σ H s → RelV x v → RelV y u → r x y H Q →
    subscripted slice false v u = operate [v, u] (getItem v u) → wpAny (model X.prog X.w) X.A (subscriptTail value slice v u) (EP X pins σ Q) X.xe s
def MtR (X : Cx) (id : String) (r : V → List V → Hp → VK → Prop) : Prop :=
  ∀ (pins : List (Addr × Obj)) (s : Shared) (σ : St) (H : Hp) (x : V) (xs : List V) (v : Value) (us : List Value) (Q : VK), Inv X pins σ H s → RelV x v → Vals xs us → r x xs H Q →
    wpAny (model X.prog X.w) X.A (call (.builtin id) (v :: us)) (EP X pins σ Q) X.xe s
section
variable {X : Cx} {a b : Expr} {ta tb : TE} {pos : Pos}
theorem pe_ix {r : R2} (hr : IxR X r) (ha : PE X a ta) (hb : PE X b tb) (hs : PlainIx b) : PE X (.Subscript a b pos) (tOp r ta tb) := by
  intro pins s σ H Q I h
  exact Subscript_ (binT ha hb I h fun v u s2 x y H2 I2 rx ry q => hr a b pins s2 σ H2 x y v u Q I2 rx ry q (hs _ _))

def rIxL (K : PySem.W.Frag) : R2 := fun x y H Q => ∃ p xs i v, x = .ref p ∧ y = .int i ∧ SqL K H p xs ∧ atI xs i = some v ∧ Q v H
def rIxT (K : PySem.W.Frag) : R2 := fun x y H Q => ∃ p xs i v, x = .ref p ∧ y = .int i ∧ SqT K H p xs ∧ atI xs i = some v ∧ Q v H
theorem ix_list : IxR X (rIxL X.K) := by
  intro value slice pins s σ H x y v u Q I rx ry h hs
  obtain ⟨p, xs, i, z, rfl, rfl, hq, he, q⟩ := h
  cases rx
  obtain ⟨t, rfl⟩ := ry
  obtain ⟨its, r, pl, hz⟩ := I.list hq
  obtain ⟨j, h1, h2, h3, h4, h5⟩ := atI_get he
  obtain ⟨w, ew, rw'⟩ := r.get h2
  have hl := r.length
  have hn := line63
  have fin : EP X pins σ Q w s := ⟨z, H, I, rw', q⟩
  by_cases h0 : 0 ≤ i
  · have hj : i.toNat = j := by
      rw [seqIndex_of h0 h5] at h1
      exact Option.some.inj h1
    exact item_listR pl.isList h0 (by omega) (by rw [hj]; simpa using ew) fin hs
  · have hj : (i + (its.toArray.size : Int)).toNat = j := by
      rw [seqIndex_neg (by omega) h4] at h1
      rw [List.size_toArray, ← hl]
      exact Option.some.inj h1
    exact subscriptTail_builtinR (x := w) pl.isList.typeIs slot_list_getitem.lookup
      (wpAny_getItem_list_neg (Q := fun r s' => r = w ∧ EP X pins σ Q r s') pl.isList (by omega) (by rw [List.size_toArray] <;> omega) (by omega) (by rw [hj]; simpa using ew) ⟨rfl, fin⟩) hs
theorem ix_tup : IxR X (rIxT X.K) := by
  intro value slice pins s σ H x y v u Q I rx ry h hs
  obtain ⟨p, xs, i, z, rfl, rfl, hq, he, q⟩ := h
  cases rx
  obtain ⟨t, rfl⟩ := ry
  obtain ⟨its, r, pl, hz⟩ := I.tuple hq
  obtain ⟨j, h1, h2, h3, h4, h5⟩ := atI_get he
  obtain ⟨w, ew, rw'⟩ := r.get h2
  have hl := r.length
  have hn := line63
  have fin : EP X pins σ Q w s := ⟨z, H, I, rw', q⟩
  exact subscriptTail_builtinR (x := w) pl.typeIs slot_tuple_getitem.lookup
    (getItem_tuple (j := j) (Q := fun r s' => r = w ∧ EP X pins σ Q r s') pl (by omega) (by omega) (by rw [List.size_toArray, ← hl]; exact h1) (by simpa using ew) ⟨rfl, fin⟩) hs
theorem mapSeq_set (its : List Value) (n j : Nat) (u : Value) : Obj.mapSeq (·.setIfInBounds j u) { cls := .type "list", data := .seq its.toArray n } = { cls := .type "list", data := .seq (its.set j u).toArray n } := by
  simp [Obj.mapSeq]
theorem Inv.lst {pins : List (Addr × Obj)} {σ : St} {H : Hp} {s : Shared} {p : Addr} {xs : List V} (I : Inv X pins σ H s) (h : H p = some (.lst xs)) :
    ∃ (its : List Value) (n : Nat), Vals xs its ∧ s.heap.get? p = some { cls := .type "list", data := .seq its.toArray n } ∧ xs.length ≤ sizeLine := by
  obtain ⟨z, its, n, r, e⟩ := I.hok p _ h
  exact ⟨its, n, r, e, z⟩
theorem Inv.lstUpd {pins : List (Addr × Obj)} {σ : St} {H : Hp} {s : Shared} {p : Addr} {xs ys : List V} {its its' : List Value} {n n' : Nat} {f : Obj → Obj} (I : Inv X pins σ H s) (h : H p = some (.lst xs))
    (ho : s.heap.get? p = some { cls := .type "list", data := .seq its.toArray n }) (hf : f { cls := .type "list", data := .seq its.toArray n } = { cls := .type "list", data := .seq its'.toArray n' }) (r : Vals ys its') (hz : ys.length ≤ sizeLine) (t : Nat) :
    Inv X pins σ (upd H p (.lst ys)) { s with heap := s.heap.update p f, toks := t } := by
  have e : (s.heap.update p f).get? p = some { cls := .type "list", data := .seq its'.toArray n' } := by
    rw [Heap.get?_update_self f ho (by rw [hf] <;> rfl), hf]
  refine I.write (x := p) (e := p) (by rw [h]; trivial) (.inl rfl) (fun b u hb q => (Heap.get?_update_other _ _ (Ne.symm hb)).trans q) ⟨_, e⟩ ?_
  exact ⟨hz, its', n', r, e⟩
def rSetL : V → V → V → Hp → (Hp → Prop) → Prop := fun o i v H Q => ∃ p xs k j, o = .ref p ∧ i = .int k ∧ H p = some (.lst xs) ∧ ixN xs.length k = some j ∧ Q (upd H p (.lst (xs.set j v)))
theorem set_list : PSet X rSetL := by
  intro pins s σ H o i v ov iv u Q I ro ri rv h
  obtain ⟨p, xs, k, j, rfl, rfl, hp, hj, q⟩ := h
  cases ro
  obtain ⟨t, rfl⟩ := ri
  obtain ⟨its, n, r, ho, hz⟩ := I.lst hp
  obtain ⟨h1, h2, h3, h4⟩ := ixN_seq hj
  have hl := r.length
  have hn := line63
  have I' : Inv X pins σ (upd H p (.lst (xs.set j v))) { s with heap := s.heap.update p (Obj.mapSeq (·.setIfInBounds j u)) } :=
    I.lstUpd hp ho (mapSeq_set its n j u) (r.set rv j) (by rw [List.length_set]; exact hz) s.toks
  by_cases h0 : 0 ≤ k
  · have hk : k.toNat = j := by
      rw [seqIndex_of h0 h4] at h1
      exact Option.some.inj h1
    exact PySem.W.ki_setAt ho h0 (by omega) (by rw [List.size_toArray, ← hl]; exact h4) (by rw [hk]; exact ⟨_, I', q⟩)
  · have hk : (k + (its.toArray.size : Int)).toNat = j := by
      rw [seqIndex_neg (by omega) h3] at h1
      rw [List.size_toArray, ← hl]
      exact Option.some.inj h1
    exact PySem.W.ki_setBack ho (by omega) (by rw [List.size_toArray, ← hl]; exact h3) (by omega) (by rw [hk]; exact ⟨_, I', q⟩)

theorem slice_bounds (lo hi : Option Int) (n : Nat) : (sliceBounds lo hi none n).1 = ((HT.sIx n 0 lo : Nat) : Int) ∧ (sliceBounds lo hi none n).2.1 = ((HT.sIx n n hi : Nat) : Int) ∧ (sliceBounds lo hi none n).2.2 = 1 := by
  refine ⟨?_, ?_, rfl⟩
  · cases lo with
    | none => simp [sliceBounds, HT.sIx]
    | some i =>
      simp only [sliceBounds, HT.sIx, Option.getD_none, show (1 : Int) > 0 by decide, if_true]
      by_cases h : i < 0
      · simp only [h, if_true] <;> omega
      · simp only [h, if_false] <;> omega
  · cases hi with
    | none => simp [sliceBounds, HT.sIx]
    | some i =>
      simp only [sliceBounds, HT.sIx, Option.getD_none, show (1 : Int) > 0 by decide, if_true]
      by_cases h : i < 0
      · simp only [h, if_true] <;> omega
      · simp only [h, if_false] <;> omega
theorem slicePick_cut (its : List Value) (lo hi : Option Int) : slicePick its.toArray lo hi none = ((its.drop (HT.sIx its.length 0 lo)).take (HT.sIx its.length its.length hi - HT.sIx its.length 0 lo)).toArray := by
  obtain ⟨h1, h2, h3⟩ := slice_bounds lo hi its.toArray.size
  unfold slicePick
  rw [h1, h2, h3]
  simp only [sliceRange_one, pick_run, List.size_toArray] <;> rfl
def rSlL (K : PySem.W.Frag) : V → Option Int → Option Int → Hp → VK → Prop := fun x lo hi H Q => ∃ a xs, x = .ref a ∧ SqL K H a xs ∧ ∀ p, H p = none → Q (.ref p) (upd H p (.lst (cutV xs lo hi)))
theorem sl_list : SlR X (rSlL X.K) := by
  intro pins s σ H x v vl vu lo hi sl Q I rx hs pl pu h
  obtain ⟨a, xs, rfl, hx, q⟩ := h
  cases rx
  obtain ⟨its, r, ht, hz⟩ := I.list hx
  have hlen := r.length
  refine ⟨"list", _, slot_list_getitem.lookup, ht.isList.typeIs, ?_⟩
  refine wpAny_getItem_list_slice ht.isList hs pl pu .none (by simp) ?_ (by rw [List.size_toArray] <;> omega)
  rw [slicePick_cut, ← hlen]
  refine ⟨.ref s.heap.objs.size, _, I.laid (t' := s.toks) (o := .lst (cutV xs lo hi)) (fun b ob q => Heap.get?_push_of_some _ q) (Nat.le_refl _) ?_, rfl, q _ (I.hok.fresh (Nat.le_refl _))⟩
  exact ⟨Nat.le_trans (cutV_length xs lo hi) hz, _, 0, (r.drop (HT.sIx xs.length 0 lo)).take (HT.sIx xs.length xs.length hi - HT.sIx xs.length 0 lo), Heap.get?_push_size _ rfl⟩

def flatV : V → Bool
  | .non => true
  | .bl _ => true
  | .int _ => true
  | .str _ => true
  | _ => false
def eqV : V → V → Bool
  | .non, .non => true
  | .bl a, .bl b => a == b
  | .bl a, .int b => (if a then 1 else 0) == b
  | .int a, .bl b => a == (if b then 1 else 0)
  | .int a, .int b => a == b
  | .str a, .str b => a == b
  | _, _ => false
theorem eqAt_V {A : Around} {s : Shared} {y x : V} {u v : Value} (ry : RelV y u) (rx : RelV x v) (fy : flatV y = true) (fx : flatV x = true) : SeqAt.EqAt A s u v (eqV y x) := by
  cases y with
  | non =>
    cases ry
    cases x with
    | non => cases rx; exact SeqAt.EqAt.same _
    | bl b => cases rx; exact SeqAt.EqAt.none_bool b
    | int b => obtain ⟨t, rfl⟩ := rx; exact SeqAt.EqAt.none_int b t
    | str b => obtain ⟨t, rfl⟩ := rx; exact SeqAt.EqAt.none_str b t
    | _ => exact absurd (show false = true from fx) Bool.false_ne_true
  | bl a =>
    cases ry
    cases x with
    | non => cases rx; exact SeqAt.EqAt.bool_none a
    | bl b => cases rx; exact SeqAt.EqAt.bool_bool a b
    | int b => obtain ⟨t, rfl⟩ := rx; exact SeqAt.EqAt.bool_int a b t
    | str b => obtain ⟨t, rfl⟩ := rx; exact SeqAt.EqAt.bool_str a b t
    | _ => exact absurd (show false = true from fx) Bool.false_ne_true
  | int a =>
    obtain ⟨t', rfl⟩ := ry
    cases x with
    | non => cases rx; exact SeqAt.EqAt.int_none a t'
    | bl b => cases rx; exact SeqAt.EqAt.int_bool a t' b
    | int b => obtain ⟨t, rfl⟩ := rx; exact SeqAt.EqAt.int_int a t' b t
    | str b => obtain ⟨t, rfl⟩ := rx; exact SeqAt.EqAt.int_str a t' b t
    | _ => exact absurd (show false = true from fx) Bool.false_ne_true
  | str a =>
    obtain ⟨t', rfl⟩ := ry
    cases x with
    | non => cases rx; exact SeqAt.EqAt.str_none a t'
    | bl b => cases rx; exact SeqAt.EqAt.str_bool a t' b
    | int b => obtain ⟨t, rfl⟩ := rx; exact SeqAt.EqAt.str_int a t' b t
    | str b => obtain ⟨t, rfl⟩ := rx; exact SeqAt.EqAt.str_str a t' b t
    | _ => exact absurd (show false = true from fx) Bool.false_ne_true
  | _ => exact absurd (show false = true from fy) Bool.false_ne_true
def eqU (x : V) (u : Value) : Bool := match u with
  | .none => eqV .non x
  | .bool b => eqV (.bl b) x
  | .int i _ => eqV (.int i) x
  | .str z _ => eqV (.str z) x
  | _ => false
theorem eqU_of {x y : V} {u : Value} (r : RelV y u) (f : flatV y = true) : eqU x u = eqV y x := by
  cases y with
  | non => cases r; rfl
  | bl b => cases r; rfl
  | int i => obtain ⟨t, rfl⟩ := r; rfl
  | str z => obtain ⟨t, rfl⟩ := r; rfl
  | _ => exact absurd (show false = true from f) Bool.false_ne_true
theorem any_eqU {x : V} : ∀ {xs : List V} {us : List Value}, Vals xs us → xs.all flatV = true → us.any (eqU x) = xs.any fun y => eqV y x
  | _, _, .nil, _ => rfl
  | y :: xs, u :: us, .cons r t, f => by
    rw [List.all_cons, Bool.and_eq_true] at f
    rw [List.any_cons, List.any_cons, eqU_of r f.1, any_eqU t f.2]
theorem mem_eqAt {A : Around} {s : Shared} {x : V} {v : Value} (rx : RelV x v) (fx : flatV x = true) : ∀ {xs : List V} {us : List Value}, Vals xs us → xs.all flatV = true → ∀ u ∈ us, SeqAt.EqAt A s u v (eqU x u)
  | _, _, .nil, _ => fun u hu => by cases hu
  | y :: xs, u :: us, .cons r t, f => fun u' hu => by
    rw [List.all_cons, Bool.and_eq_true] at f
    rcases List.mem_cons.mp hu with rfl | hu
    · rw [eqU_of r f.1]; exact eqAt_V r rx f.1 fx
    · exact mem_eqAt rx fx t f.2 u' hu
def inV (x : V) (xs : List V) : Bool := xs.any fun y => eqV y x
def rIn (K : PySem.W.Frag) (neg : Bool) : R2 := fun x y H Q => ∃ p xs, y = .ref p ∧ (SqL K H p xs ∨ SqT K H p xs) ∧ flatV x = true ∧ xs.all flatV = true ∧ Q (.bl (if neg then !inV x xs else inV x xs)) H
theorem op_in_seq : OpR X (compareOp .In) (rIn X.K false) := by
  intro pins s σ H x y v u Q I rx ry h
  obtain ⟨p, xs, rfl, hq, fx, fs, q⟩ := h
  cases ry
  rcases hq with hq | hq
  · obtain ⟨its, r, pl, hz⟩ := I.list hq
    refine SeqAt.in_listAt (eqU x) pl.isList (fun w hw => mem_eqAt rx fx r fs w (by simpa using hw)) ⟨.bl _, H, I, rfl, ?_⟩
    rw [show its.toArray.any (eqU x) = its.any (eqU x) by simp, any_eqU r fs]
    exact q
  · obtain ⟨its, r, pl, hz⟩ := I.tuple hq
    refine SeqAt.in_tupleAt (eqU x) pl (fun w hw => mem_eqAt rx fx r fs w (by simpa using hw)) ⟨.bl _, H, I, rfl, ?_⟩
    rw [show its.toArray.any (eqU x) = its.any (eqU x) by simp, any_eqU r fs]
    exact q
theorem call_len_seq : CallR X (.builtin "len") (fun xs H Q => ∃ p ys, xs = [.ref p] ∧ (SqL X.K H p ys ∨ SqT X.K H p ys) ∧ Q (.int ys.length) H) := by
  intro pins s σ H xs us Q I r h
  obtain ⟨p, ys, rfl, hq, q⟩ := h
  obtain ⟨u, rfl, rx⟩ := vals1 r
  cases rx
  have hn := line63
  rcases hq with hq | hq
  · obtain ⟨its, r', pl, hz⟩ := I.list hq
    have hlen := r'.length
    exact Calls.call_len_list pl.isList (by simp only [List.size_toArray] <;> omega) ⟨.int ys.length, H, I.tok _, ⟨s.toks + 1, by rw [List.size_toArray, hlen]⟩, q⟩
  · obtain ⟨its, r', pl, hz⟩ := I.tuple hq
    have hlen := r'.length
    exact len_tuple pl (by simp only [List.size_toArray] <;> omega) ⟨.int ys.length, H, I.tok _, ⟨s.toks + 1, by rw [List.size_toArray, hlen]⟩, q⟩
theorem call_len_str : CallR X (.builtin "len") (fun xs H Q => ∃ z, xs = [.str z] ∧ z.length ≤ sizeLine ∧ Q (.int z.length) H) := by
  intro pins s σ H xs us Q I r h
  obtain ⟨z, rfl, hz, q⟩ := h
  obtain ⟨u, rfl, t, rfl⟩ := vals1 r
  have hn := line63
  exact len_str (by omega) ⟨.int z.length, H, I.tok _, ⟨_, rfl⟩, q⟩
theorem call_list_of : CallR X (.type "list") (fun xs H Q => ∃ p ys, xs = [.ref p] ∧ (SqL X.K H p ys ∨ SqT X.K H p ys) ∧ ∀ l, H l = none → Q (.ref l) (upd H l (.lst ys))) := by
  intro pins s σ H xs us Q I r h
  obtain ⟨p, ys, rfl, hq, q⟩ := h
  obtain ⟨u, rfl, rx⟩ := vals1 r
  cases rx
  have fin : ∀ (its : List Value), Vals ys its → ys.length ≤ sizeLine → ∀ (h' : Heap) (c' : Nat), (∀ b o', s.heap.get? b = some o' → h'.get? b = some o') →
      h'.get? s.heap.objs.size = some { cls := .type "list", dict := none, data := .seq its.toArray c', slots := #[] } → EP X pins σ Q (.ref s.heap.objs.size) { s with heap := h' } := fun its r' hz h' c' kp e =>
    ⟨.ref s.heap.objs.size, _, I.laid (t' := s.toks) kp (Nat.le_refl _) (show ObjOk X.prog X.w _ h' _ (.lst ys) from ⟨hz, its, c', r', e⟩), rfl, q _ (I.hok.fresh (Nat.le_refl _))⟩
  rcases hq with hq | hq
  · obtain ⟨its, r', pl, hz⟩ := I.list hq
    have hlen := r'.length
    obtain ⟨o, ho, hc, n, hd⟩ := pl.isList
    exact call_list_seq p (.inl rfl) ho hc hd (fun h' c' kp e => fin its r' hz h' c' kp e) (by simp only [List.size_toArray] <;> omega)
  · obtain ⟨its, r', pl, hz⟩ := I.tuple hq
    have hlen := r'.length
    obtain ⟨o, ho, hc, n, hd⟩ := pl
    exact call_list_seq p (.inr rfl) ho hc hd (fun h' c' kp e => fin its r' hz h' c' kp e) (by simp only [List.size_toArray] <;> omega)
def tyV (K : PySem.W.Frag) (T : String) (x : V) (H : Hp) : Prop := match x with
  | .str _ => T = "str"
  | .int _ => T = "int"
  | .ref p => (T = "list" ∧ ∃ xs, SqL K H p xs) ∨ (T = "tuple" ∧ ∃ o, K.lookup p = some o ∧ o.cls = .type "tuple" ∧ o.dict = none) ∨
      (T = "dict" ∧ ((∃ kvs, H p = some (.dK kvs)) ∨ ∃ kvs, H p = some (.dT kvs))) ∨ (T = "set" ∧ ∃ S n, H p = some (.set S n))
  | _ => False
theorem tyV_is {pins : List (Addr × Obj)} {σ : St} {H : Hp} {s : Shared} {T : String} {x : V} {v : Value} (I : Inv X pins σ H s) (r : RelV x v) (ty : tyV X.K T x H) :
    s.TypeIs v T ∧ ∀ a, v = .ref a → ∃ ob, s.heap.get? a = some ob ∧ ob.dict = none := by
  cases x with
  | str z =>
    obtain ⟨t, rfl⟩ := r
    cases (show T = "str" from ty)
    exact ⟨typeIs_str s z t, fun _ e => nomatch e⟩
  | int i =>
    obtain ⟨t, rfl⟩ := r
    cases (show T = "int" from ty)
    exact ⟨typeIs_int s i t, fun _ e => nomatch e⟩
  | ref p =>
    cases r
    rcases ty with ⟨rfl, xs, hq⟩ | ⟨rfl, o, hk, hc, hd⟩ | ⟨rfl, hk⟩ | ⟨rfl, S, n, hk⟩
    · obtain ⟨its, _, pl, _⟩ := I.list hq
      refine ⟨pl.isList.typeIs, fun a e => ?_⟩
      cases e
      obtain ⟨o, n, e, c, hd, _⟩ := pl
      exact ⟨o, e, hd⟩
    · refine ⟨⟨o, I.kIn p o hk, hc⟩, fun a e => ?_⟩
      cases e
      exact ⟨o, I.kIn _ o hk, hd⟩
    · have z : ∃ o, s.heap.get? p = some o ∧ o.ExactDict := by
        rcases hk with ⟨kvs, hk⟩ | ⟨kvs, hk⟩
        · obtain ⟨_, _, _, _, o, _, _, e, ex, _⟩ := I.hok p _ hk
          exact ⟨o, e, ex⟩
        · obtain ⟨_, _, _, _, o, _, _, e, ex, _⟩ := I.hok p _ hk
          exact ⟨o, e, ex⟩
      obtain ⟨o, e, ex⟩ := z
      refine ⟨⟨o, e, ex.1⟩, fun a e2 => ?_⟩
      cases e2
      exact ⟨o, e, ex.2.1⟩
    · obtain ⟨o, _, _, _, e, ex, _⟩ := I.hok p _ hk
      refine ⟨⟨o, e, ex.1⟩, fun a e2 => ?_⟩
      cases e2
      exact ⟨o, e, ex.2.1⟩
  | _ => exact False.elim ty
def tBM (K : PySem.W.Frag) (T : String) (r : V → List V → Hp → VK → Prop) (to : TE) (t : TA) : TE := fun σ H Q => to σ H fun x H1 => tyV K T x H1 ∧ t σ H1 fun xs H2 => r x xs H2 Q
variable {o e : Expr} {es : List Expr} {to : TE} {t : TA} {name : Str} {apos cpos : Pos} {T id : String} {r : V → List V → Hp → VK → Prop}
theorem pe_bm (pa : PlainAttrs T) (slot : Slot T name id) (hty : typeOf (.builtin id) = pure (.type "method_descriptor")) (hm : MtR X id r) (ho : PE X o to) (ha : PA X (e :: es) t)
    (hbase : attributeBase o name X.env (eval o X.env) = eval o X.env := by rfl)
    (hfew : ((backTo cpos (starEach (e :: es) X.env)).all (fun x => !x.1) && (backToKw cpos (keywordEach [] X.env)).all (fun x => x.1.isSome)
      && decide ((e :: es).length + ([] : List Keyword).length + (if ([] : List Keyword).isEmpty then 0 else 1) < 30)) = true := by rfl)
    (hline : (apos.endLine == cpos.line) = true := by rfl) (hs : starEach (e :: es) X.env = (false, eval e X.env) :: starEach es X.env := by rfl) (hplain : (backTo cpos (starEach es X.env)).any (·.1) = false := by rfl) :
    PE X (.Call (.Attribute o name apos) (e :: es) [] cpos) (tBM X.K T r to t) := by
  intro pins s σ H Q I h
  refine wpAny_Call_method_late hbase hfew hline rfl (thn (ho pins s σ H _ I h) fun v s1 ⟨x, H1, I1, r1, ty, q1⟩ => ?_)
  obtain ⟨h1, h2⟩ := tyV_is I1 r1 ty
  refine ⟨T, id, pa, slot, hty, h1, h2, ?_⟩
  have hA := ha cpos pins s1 σ H1 _ I1 q1
  rw [hs] at hA ⊢
  refine Calls.callWith_builtin (by show (false || (backTo cpos (starEach es X.env)).any (·.1)) = false; rw [hplain] <;> rfl) (Calls.evalArgs_plain ?_)
  exact thn hA fun us s2 ⟨vs, H2, I2, r2, q2⟩ => hm pins s2 σ H2 x vs v us Q I2 r1 r2 q2
end
end L2

namespace L2
open PySem PySem.Spec PyProof.Rows

def MtM (X : Cx) (id : String) (r : V → List V → Hp → VK → Prop) : Prop :=
  ∀ (pins : List (Addr × Obj)) (s : Shared) (σ : St) (H : Hp) (x : V) (xs : List V) (v : Value) (us : List Value) (Q : VK), Inv X pins σ H s → RelV x v → Vals xs us → r x xs H Q →
    wpAny (model X.prog X.w) X.A (call (.builtin id) (v :: us)) (EP X pins σ Q) X.xe s

theorem Vals.one : ∀ {x : V} {us : List Value}, Vals [x] us → ∃ u, us = [u] ∧ RelV x u
  | _, _, .cons r .nil => ⟨_, rfl, r⟩
section
variable {X : Cx} {pins : List (Addr × Obj)} {σ : St} {H : Hp} {s : Shared} {l b : Addr} {xs ys zs : List V}

theorem Inv.lset {its its' : List Value} {n : Nat} {f : Array Value → Array Value} {t' : Nat} (I : Inv X pins σ H s) (hH : H l = some (.lst xs))
    (e : s.heap.get? l = some { cls := .type "list", data := .seq its.toArray n }) (hf : f its.toArray = its'.toArray) (hv : Vals ys its') (hz : ys.length ≤ sizeLine) :
    Inv X pins σ (upd H l (.lst ys)) { s with heap := s.heap.update l (Obj.mapSeq f), toks := t' } := by
  have q := PySem.IsL.update e f
  rw [hf] at q
  refine I.write (x := l) (e := l) (by rw [hH]; exact trivial) (.inl rfl) (fun b' u hb hu => (Heap.get?_update_other s.heap (Obj.mapSeq f) (Ne.symm hb)).trans hu) ⟨_, q⟩ ?_
  exact ⟨hz, its', _, hv, q⟩
theorem Inv.lnew {its : List Value} {t' : Nat} (I : Inv X pins σ H s) (hv : Vals ys its) (hz : ys.length ≤ sizeLine) :
    Inv X pins σ (upd H s.heap.objs.size (.lst ys)) { s with heap := s.heap.push { cls := .type "list", data := .seq its.toArray }, toks := t' } :=
  I.laid (fun _ _ q => Heap.get?_push_of_some _ q) (Nat.le_refl _) ⟨hz, its, 0, hv, Heap.get?_push_size _ rfl⟩
theorem Inv.fresh (I : Inv X pins σ H s) : H s.heap.objs.size = none := I.hok.fresh (Nat.le_refl _)
theorem Inv.lstM (I : Inv X pins σ H s) (hH : H l = some (.lst xs)) : xs.length ≤ sizeLine ∧ ∃ (its : List Value) (n : Nat), Vals xs its ∧ xs.length = its.length ∧ s.heap.get? l = some { cls := .type "list", data := .seq its.toArray n } := by
  obtain ⟨z, its, n, r, e⟩ := I.hok l _ hH
  exact ⟨z, its, n, r, r.length, e⟩

theorem notLongL {n : Nat} (h : n ≤ sizeLine) : Builtin.List.listTooLong n = false := by
  unfold Builtin.List.listTooLong
  exact decide_eq_false (by omega)
end

section
variable {X : Cx}

def rAppend : V → List V → Hp → VK → Prop := fun x vs H Q => ∃ l xs y, x = .ref l ∧ vs = [y] ∧ H l = some (.lst xs) ∧ xs.length < sizeLine ∧ Q .non (upd H l (.lst (xs ++ [y])))
theorem mt_append : MtM X "list.append" rAppend := by
  intro pins s σ H x vs v us Q I rx rv h
  obtain ⟨l, xs, y, rfl, rfl, hH, hz, q⟩ := h
  cases rx
  obtain ⟨u, rfl, ru⟩ := rv.one
  obtain ⟨z, its, n, r, hl, e⟩ := I.lstM hH
  refine call_meets F.slot_list_append ⟨_, e, rfl⟩ F.entry_list_append (F.args_list_append_2 _ _) (PySem.list_append l its.toArray n u (by rw [List.size_toArray]; omega)) ⟨e, ?_⟩
  refine ⟨.non, _, I.lset (its' := its ++ [u]) hH e (by simp) (r.append (.cons ru .nil)) ?_, rfl, q⟩
  rw [List.length_append, List.length_singleton]
  omega

def rExtend : V → List V → Hp → VK → Prop := fun x vs H Q => ∃ l b xs zs, x = .ref l ∧ vs = [.ref b] ∧ H l = some (.lst xs) ∧ H b = some (.lst zs) ∧ xs.length + zs.length ≤ sizeLine ∧ Q .non (upd H l (.lst (xs ++ zs)))
theorem mt_extend : MtM X "list.extend" rExtend := by
  intro pins s σ H x vs v us Q I rx rv h
  obtain ⟨l, b, xs, zs, rfl, rfl, hH, hB, hz, q⟩ := h
  cases rx
  obtain ⟨u, rfl, ru⟩ := rv.one
  cases ru
  obtain ⟨z, its, n, r, hl, e⟩ := I.lstM hH
  obtain ⟨z2, its2, n2, r2, hl2, e2⟩ := I.lstM hB
  have hsz : its.toArray.size + its2.toArray.size ≤ sizeLine := by rw [List.size_toArray, List.size_toArray]; omega
  have hlong : ¬ (!its.toArray.isEmpty && Builtin.List.listTooLong (its.toArray.size + its2.toArray.size)) = true := by
    rw [notLongL hsz, Bool.and_false]
    exact Bool.false_ne_true
  refine call_meets F.slot_list_extend ⟨_, e, rfl⟩ F.entry_list_extend (F.args_list_extend_2 _ _)
    (AutoSeq1.list_extend_list_list_0 l its.toArray n b its2.toArray n2 hlong (by rw [List.size_toArray]; omega) (by omega)) ⟨e, e2, ?_⟩
  refine ⟨.non, _, I.lset (its' := its ++ its2) hH e (by simp) (r.append r2) ?_, rfl, q⟩
  rw [List.length_append]
  omega

def rCat : R2 := fun x y H Q => ∃ l b xs zs, x = .ref l ∧ y = .ref b ∧ H l = some (.lst xs) ∧ H b = some (.lst zs) ∧ xs.length + zs.length ≤ sizeLine ∧ ∀ p, H p = none → Q (.ref p) (upd H p (.lst (xs ++ zs)))
theorem op_cat : OpR X (binaryOp .Add) rCat := by
  intro pins s σ H x y v u Q I rx ry h
  obtain ⟨l, b, xs, zs, rfl, rfl, hH, hB, hz, q⟩ := h
  cases rx
  cases ry
  obtain ⟨z, its, n, r, hl, e⟩ := I.lstM hH
  obtain ⟨z2, its2, n2, r2, hl2, e2⟩ := I.lstM hB
  refine PySem.P.add_list e e2 ?_ (by rw [List.size_toArray, List.size_toArray]; omega)
  have ea : its.toArray ++ its2.toArray = (its ++ its2).toArray := by simp
  rw [ea]
  exact ⟨.ref _, _, I.lnew (t' := s.toks) (r.append r2) (by rw [List.length_append]; omega), rfl, q _ I.fresh⟩
end

section
variable {prog : Program} {w : World} {A : Around} {E : Value → Shared → Prop} {s : Shared}
end

section
variable {X : Cx}
end
end L2

namespace Att
open PySem PySem.W PySem.Calls PyProof.Rows

theorem ints_of_wellAll {P : Params} {h : Heap} : ∀ (ns : List Int) (vs : List Value), WellAll P h vs (ns.map WData.int) → IntsAre vs ns := by
  intro ns
  induction ns with
  | nil =>
    intro vs w
    rw [List.map_nil] at w
    cases w
    exact .nil
  | cons n ns ih =>
    intro vs w
    rw [List.map_cons] at w
    cases w with
    | cons a b =>
      cases a
      exact .cons _ _ (ih _ b)

theorem script_of {l : OpenLaw} {n : Nat} (hn : l.most = some n) {P : Params} {h : Heap} {args : List WData} {vals : List Value}
    (hpre : l.row.toRowW.claim.pre args = true) (hwl : WellAll P h vals args) :
    ∃ a vs ns, vals = [Value.ref a] ∧ args = [WData.list (ns.map WData.int)] ∧ h.get? a = some { cls := .type "list", data := .seq vs.toArray } ∧ IntsAre vs ns ∧ ns.length ≤ n := by
  have hsh : WShape.hasAll [] args [.list .int] = true := (pre_splitW hpre).1
  have hc : l.pre.holds [] { args := args } = true := (pre_splitW hpre).2
  obtain ⟨d, r, rfl, h1, h2⟩ := hasAllW_cons hsh
  obtain rfl := hasAllW_nil h2
  obtain ⟨xs, rfl, h3⟩ := hasW_list h1
  obtain ⟨ns, rfl⟩ := items_int h3
  have hlen : ns.length ≤ n := by
    unfold OpenLaw.pre at hc
    have h4 : (WTm.not (.lt (.lit (.int (n : Int))) (.len (.arg 0)))).holds [] { args := [.list (ns.map .int)] } = true := by
      have h4 := (holds_andW hc).1
      rw [hn] at h4
      exact h4
    have h5 := condW_of h4 (w_not (w_lt w_lit (w_len_list (w_arg rfl))))
    rw [List.length_map] at h5
    refine Nat.le_of_not_lt fun q => ?_
    have q' : (n : Int) < ((ns.length : Nat) : Int) := by omega
    first
      | (rw [decide_eq_true q'] at h5; exact absurd h5 (by decide))
      | (simp at h5; omega)
  cases hwl with
  | cons w1 w2 =>
    cases w2
    cases w1 with
    | list ho hall => exact ⟨_, _, ns, rfl, rfl, ho, ints_of_wellAll ns _ hall, hlen⟩

theorem post_true (l : OpenLaw) (args : List WData) : l.row.toRowW.claim.post args (.bool true) args = true :=
  postW_of (r := l.row.toRowW) (X := (true == true))
    (show WShape.has [] (.bool true) .bool = true by first | rfl | decide | simp [WShape.has, WShape.arms, WShape.armsAll])
    (show (WTm.eq .res (.lit (.bool true))).value [] { args := args, res := some (.bool true), after := args } = some (.bool (true == true)) from w_eq_bool (w_res rfl) w_lit) rfl

section
variable {prog : Program} {w : World} {A : Around} {E : Value → Shared → Prop} {s : Shared} {K : Frag}

end
end Att

namespace L2
open PySem PySem.Spec PyProof.Rows

theorem vals_ints : ∀ {vs : List Value} {ns : List Int}, IntsAre vs ns → Vals (ns.map V.int) vs
  | _, _, .nil => .nil
  | _, _, .cons n t h => .cons ⟨t, rfl⟩ (vals_ints h)

def Only (H : Hp) : Prop := ∀ b, H b = none ∨ ∃ o xs, H b = some (.frz o (.lst xs))

theorem law_call {P : Program} {w : World} {K : PySem.W.Frag} {mg mb : Str → Option Value} {CX : CXT} {k : Nat} {fa a : Addr} {fd : FuncData} {x : Str} {sp : Sp} {s₁ : Shared} {vs : List Value} {ns : List Int}
    (KX : K.In s₁.heap) (hns : s₁.heap.Ns mainGlobals mg) (hb : s₁.heap.Ns builtinsNs mb) (hbb : ∀ x : Str, x ≠ "__name__" → mb x = bootBuiltins x) (hlim : s₁.heap.NoLimit) (hg : s₁.gens = #[])
    (ha : s₁.heap.get? a = some { cls := .type "list", data := .seq vs.toArray }) (hi : IntsAre vs ns) (hl : ns.length ≤ sizeLine) (hr : Room k callerA)
    (F : ∀ base : Heap, K.In base → base.Ns mainGlobals mg → FnOk P w K mg base CX k fa fd [x] sp) (hbind : ∀ (s : Shared) (u : Value), BindsTo s fd ⟨[u], []⟩ [(x, u)])
    (hsp : ∀ H : Hp, Only H → SqL K H a (ns.map V.int) → sp [.ref a] H (fun v _ => v = .bl true) fun _ _ _ => False)
    (hCX : ∀ H e s', CX [] H s₁ (fun _ _ _ => False) e s' → False) :
    codeAny (model P w) callerA (.call (.ref fa) ⟨[.ref a], []⟩) (fun r s' => r = .ok (.ret (.bool true)) ∧ OldK s₁.heap s'.heap ∧ s'.os = s₁.os ∧ AllBare s'.gens) s₁ := by
  have rv := vals_ints hi
  have lenV := hi.length
  have core : ∀ H : Hp, Only H → SqL K H a (ns.map V.int) → HOk P w H s₁.heap → (∀ b, H b ≠ none → b = a) → (H a ≠ none → K.lookup a = none) →
      codeAny (model P w) callerA (.call (.ref fa) ⟨[.ref a], []⟩) (fun r s' => r = .ok (.ret (.bool true)) ∧ OldK s₁.heap s'.heap ∧ s'.os = s₁.os ∧ AllBare s'.gens) s₁ := by
    intro H hO hS hok hA hK
    have base_of : ∀ {b : Addr} {o : Obj}, s₁.heap.get? b = some o → H b = none → (hidT s₁.heap H).get? b = some o := fun e n => hidT_get e n
    have noA : ∀ {b : Addr} {o : Obj} {es : Array DictEntry} {ep : Nat}, s₁.heap.get? b = some o → o.data = .dict es ep → H b = none := fun {b o es ep} e d => by
      cases q : H b with
      | none => rfl
      | some u =>
        have e' : b = a := hA b (by rw [q]; simp)
        subst e'
        rw [ha] at e; cases e
        have d' : Data.seq vs.toArray _ = Data.dict es ep := d
        cases d'
    have nsK : ∀ {b : Addr} {m : Str → Option Value}, s₁.heap.Ns b m → (hidT s₁.heap H).Ns b m := fun {b m} ⟨o, es, ep, e, d, r⟩ => ⟨o, es, ep, base_of e (noA e d), d, r⟩
    have hKb : K.In (hidT s₁.heap H) := fun b o e => base_of (KX b o e) (by
      cases q : H b with
      | none => rfl
      | some u =>
        have e' : b = a := hA b (by rw [q]; simp)
        subst e'
        rw [hK (by rw [q]; simp)] at e; cases e)
    have hM : Mod K mg (hidT s₁.heap H) := ⟨hKb, nsK hns, ⟨mb, nsK hb, hbb⟩, let ⟨mc, h1, h2⟩ := hlim; ⟨mc, nsK h1, h2⟩⟩
    have e0 : Env0 P w K mg (hidT s₁.heap H) callerA [] s₁ H := ⟨rfl, hM, fun b o e => of_hidT e, Nat.le_of_eq (hidT_size _ _), trivial, fun b hb => absurd (show b ∈ ([] : List Addr) from hb) (by simp), hok, .of_eq hg⟩
    refine codeAny_mono ((F _ hKb (nsK hns)).run callerA [] s₁ H ⟨[.ref a], []⟩ [.ref a] [.ref a] _ _ hr e0 (hbind s₁ (.ref a)) (.cons rfl .nil) (hsp H hO hS)) fun r s' h => ?_
    cases r with
    | error e => exact (hCX H e s' h).elim
    | ok fl =>
      cases fl with
      | next => exact False.elim h
      | brk => exact False.elim h
      | cont => exact False.elim h
      | ret u =>
        obtain ⟨v, H', os, bare, un, hok', r', q⟩ := h
        have q' : v = .bl true := q
        subst q'
        obtain rfl : u = Value.bool true := r'
        refine ⟨rfl, OldK.of_keep fun b o e => ?_, os, bare⟩
        cases q : H b with
        | none => exact un.keep b o e q (by intro z; exact absurd (show b ∈ ([] : List Addr) from z) (by simp)) (by simp)
        | some u =>
          rcases hO b with z | ⟨ob, xs, z⟩
          · rw [q] at z; cases z
          · have z2 := un.frzs b ob _ z
            obtain ⟨e1, _⟩ := hok b _ z
            obtain ⟨e2, _⟩ := hok' b _ z2
            rw [e] at e1; cases e1
            exact e2
  cases hk : K.lookup a with
  | some o =>
    have e := KX a o hk
    rw [ha] at e
    cases e
    refine core (fun _ => none) (fun _ => .inl rfl) (.inr ⟨_, vs.toArray, _, hk, rfl, rfl, rfl, by rw [List.size_toArray, lenV]; exact hl, by simpa using rv⟩) (fun b u z => by have z' : (none : Option HO) = some u := z; cases z') (fun b z => absurd rfl z) fun z => absurd rfl z
  | none =>
    refine core (fun b => if b = a then some (.frz { cls := .type "list", data := .seq vs.toArray } (.lst (ns.map V.int))) else none) (fun b => ?_) (.inl (.inr ⟨{ cls := .type "list", data := .seq vs.toArray }, if_pos rfl⟩)) (fun b u z => ?_) (fun b z => ?_) fun _ => hk
    · by_cases hb : b = a
      · exact .inr ⟨_, _, if_pos hb⟩
      · exact .inl (if_neg hb)
    · by_cases hb : b = a
      · have z' := (if_pos hb).symm.trans z
        cases z'
        subst hb
        exact ⟨ha, by rw [List.length_map]; exact hl, vs, _, rv, ha⟩
      · have z' := (if_neg hb).symm.trans z
        cases z'
    · by_cases hb : b = a
      · exact hb
      · exact absurd (if_neg hb) z
end L2

namespace L2
open PySem PySem.Spec PyProof.Rows

end L2


namespace L2
open PySem PySem.Spec PyProof.Rows

def inClass (s : Stmt) (j : Nat) : Stmt := match s with
  | .ClassDef _ _ _ body _ _ _ _ _ _ _ => body.getD j (.Pass ⟨0, 0, 0, 0⟩)
  | _ => .Pass ⟨0, 0, 0, 0⟩
def defArgs (s : Stmt) : Arguments := match s with
  | .FunctionDef _ a _ _ _ _ _ _ _ _ => a
  | _ => { posonlyargs := [], args := [], vararg := none, kwonlyargs := [], kw_defaults := [], kwarg := none, defaults := [] }
def defBody (s : Stmt) : List Stmt := match s with
  | .FunctionDef _ _ b _ _ _ _ _ _ _ => b
  | _ => []
def defScope (s : Stmt) : Scope := match s with
  | .FunctionDef _ _ _ _ _ _ sc _ _ _ => sc
  | _ => { kind := .function, names := [], isGenerator := false, isCoroutine := false }

abbrev E0 : XK := fun _ _ _ => False
structure Fun (K : PySem.W.Frag) (x qual : Str) (st : Stmt) (f : Addr) (fd : FuncData) : Prop where
  ex : ∃ (oc : Value) (od : Option Addr) (kV doc pm : Value) (an : Option Addr) (cdv ct : Value) (osl : Array (Option Value)),
    fd = PySem.W.fnOf x qual (defArgs st) (defBody st) (defScope st) .none kV doc pm an cdv ct ∧ K.lookup f = some ⟨oc, od, .func fd, osl⟩ ∧ PySem.W.codeIn K cdv qual = true
  kp : PySem.W.keepIn K (.ref f) = true
section
variable {P : Program} {w : World} {K : PySem.W.Frag} {mg : Str → Option Value} {base : Heap}
theorem Fun.binds {x qual : Str} {st : Stmt} {f : Addr} {fd : FuncData} {ps : List Str} (F : Fun K x qual st f fd)
    (h : ∀ (kV doc pm : Value) (an : Option Addr) (cdv ct : Value) (us : List Value), us.length = ps.length → bindArgs (PySem.W.fnOf x qual (defArgs st) (defBody st) (defScope st) .none kV doc pm an cdv ct) ⟨us, []⟩ = pure (ps.zip us)) : Binds K fd ps [] := by
  obtain ⟨oc, od, kV, doc, pm, an, cdv, ct, osl, rfl, lk, hcd⟩ := F.ex
  exact .all (h kV doc pm an cdv ct)
theorem fun_mk {x qual : Str} {st : Stmt} {f : Addr} {oc : Value} {od an : Option Addr} {osl : Array (Option Value)} {kV doc pm cdv ct : Value} (l : K.lookup f = some ⟨oc, od, .func (PySem.W.fnOf x qual (defArgs st) (defBody st) (defScope st) .none kV doc pm an cdv ct), osl⟩)
    (c : PySem.W.codeIn K cdv qual = true) (k : PySem.W.keepIn K (.ref f) = true) : Fun K x qual st f (PySem.W.fnOf x qual (defArgs st) (defBody st) (defScope st) .none kV doc pm an cdv ct) := ⟨⟨oc, od, kV, doc, pm, an, cdv, ct, osl, rfl, l, c⟩, k⟩
end
theorem hu_of {A : Around} {k : Nat} (hr : Room k A) : A.units + 1 < cLine := Nat.lt_of_le_of_lt (Nat.add_le_add_left (by decide : 1 ≤ 64) _) hr.units
section
variable {X : Cx}
theorem pv (i : Nat) {x : Str} {pos : Pos} (hN : X.N[i]? = some x := by rfl) (hv : Vis X.env.scope x := by first | exact Or.inl rfl | exact Or.inr (Or.inl rfl) | exact Or.inr (Or.inr rfl)) (hd : (x == ("__debug__" : Str)) = false := by decide)
    (hcd : (x == ("__classdict__" : Str)) = false := by decide) : PE X (.Name x pos) (tVar i) := pe_var hN hv hd hcd
end

theorem iteF {A B : Prop} (h : B) : if false = true then A else B := by
  rw [if_neg Bool.false_ne_true]
  exact h
theorem iteT {A B : Prop} (h : A) : if true = true then A else B := by
  rw [if_pos rfl]
  exact h
theorem ite2 {c A B : Prop} [Decidable c] (h1 : c → A) (h2 : ¬ c → B) : if c then A else B := by
  by_cases h : c
  · rw [if_pos h]
    exact h1 h
  · rw [if_neg h]
    exact h2 h
def Same (H H' : Hp) : Prop := ∀ b o, H b = some o → H' b = some o
theorem Same.refl (H : Hp) : Same H H := fun _ _ h => h
theorem Same.trans {H H1 H2 : Hp} (a : Same H H1) (b : Same H1 H2) : Same H H2 := fun c o h => b c o (a c o h)
theorem Same.seq {K : PySem.W.Frag} {H H' : Hp} {a : Addr} {xs : List V} (e : Same H H') (h : SqL K H a xs) : SqL K H' a xs := by
  rcases h with (h | ⟨o, h⟩) | h
  · exact .inl (.inl (e _ _ h))
  · exact .inl (.inr ⟨o, e _ _ h⟩)
  · exact .inr h

end L2

namespace L2
open PySem PySem.Spec PyProof.Rows

end L2

namespace L2
open PySem PySem.Spec PyProof.Rows





end L2

namespace L2
open PySem PySem.Spec PyProof.Rows

section
variable {X : Cx} {pins : List (Addr × Obj)} {σ : List (Option V)} {H H' : Hp} {s : Shared} {h' : Heap}

end

end L2

namespace L2
open PySem PySem.Spec PyProof.Rows
section
variable {X : Cx}

variable {a b : Expr} {ta tb : TE} {pos : Pos}
variable {tA tB' : TT} {rest : List Expr}
end
end L2

namespace L2
open PySem PySem.Spec PyProof.Rows






end L2

namespace L2
open PySem PySem.Spec PyProof.Rows

end L2

namespace L2
open PySem PySem.Spec PyProof.Rows

section
variable {X : Cx} {a b c : Expr} {ta tb tc : TE} {pos : Pos}

end

end L2

namespace L2
open PySem PySem.Spec PyProof.Rows

section
variable {prog : Program} {w : World} {A : Around} {E : Value → Shared → Prop} {s : Shared} {K : PySem.W.Frag} {x dx C f : Addr} {mA : Str → Option Value} {name : Str} {v : Value}

end


section
variable {X : Cx} {pins : List (Addr × Obj)} {σ : St} {H : Hp} {s : Shared} {a C dx : Addr} {fs : List (Str × V)} {f : Str} {v : V} {A : Around} {E : Value → Shared → Prop}

end


end L2

namespace L2
open PySem PySem.Spec PyProof.Rows



section
variable {X : Cx} {CX : CXT} {k : Nat} {f C : Addr} {fd : FuncData} {ps : List Str} {sp : Sp} {dvs : List V} {ds : List Value} {E : XK} {x m : Str} {p pos apos : Pos} {e o : Expr} {es : List Expr} {ta : TE} {t : TA}

end


end L2

namespace L2
open PySem PySem.Spec PyProof.Rows
section
variable {X : Cx} {x : Str} {p pos : Pos} {e : Expr} {es : List Expr} {t : TA} {id T : String} {r : List V → Hp → VK → Prop}

end
end L2

namespace L2
open PySem PySem.Spec PyProof.Rows

section
variable {κ : Type} [DecidableEq κ]
end


section
variable {P : Program} {w : World} {H : Hp} {h : Heap} {a : Addr}
end

section
variable {X : Cx} {pins : List (Addr × Obj)} {σ : St} {H : Hp} {s : Shared} {a : Addr} {y v : V} {u r : Value} {o : Option V} {A : Around} {E : Value → Shared → Prop}

end

section
variable {X : Cx} {pins : List (Addr × Obj)} {σ : St} {H : Hp} {s : Shared} {a : Addr} {kvs : List (Key × V)} {k : Key} {u : Value} {A : Around} {E : Value → Shared → Prop}
end


section
variable {X : Cx} {o i e value : Expr} {pos pos' tpos : Pos} {td ty tv : TE}
end


section
variable {X : Cx} {pos : Pos}
end

structure M1 (X : Cx) (o : Expr) (m : Str) (apos : Pos) (e : Expr) (cpos : Pos) : Prop where
  base : attributeBase o m X.env (eval o X.env) = eval o X.env
  few : ((backTo cpos (starEach [e] X.env)).all (fun x => !x.1) && (backToKw cpos (keywordEach [] X.env)).all (fun x => x.1.isSome)
    && decide (([e] : List Expr).length + ([] : List Keyword).length + (if ([] : List Keyword).isEmpty then 0 else 1) < 30)) = true
  line : (apos.endLine == cpos.line) = true
  trees : backTo cpos (starEach [e] X.env) = [(false, eval e X.env)]
structure M2 (X : Cx) (o : Expr) (m : Str) (apos : Pos) (e f : Expr) (cpos : Pos) : Prop where
  base : attributeBase o m X.env (eval o X.env) = eval o X.env
  few : ((backTo cpos (starEach [e, f] X.env)).all (fun x => !x.1) && (backToKw cpos (keywordEach [] X.env)).all (fun x => x.1.isSome)
    && decide (([e, f] : List Expr).length + ([] : List Keyword).length + (if ([] : List Keyword).isEmpty then 0 else 1) < 30)) = true
  line : (apos.endLine == cpos.line) = true
  trees : backTo cpos (starEach [e, f] X.env) = [(false, eval e X.env), (false, eval f X.env)]

section
variable {X : Cx} {pins : List (Addr × Obj)} {σ : St} {H : Hp} {s : Shared} {a : Addr} {y d : V} {u r : Value} {o : Option V} {A : Around} {E : Value → Shared → Prop}
end

section
variable {X : Cx} {o e f : Expr} {apos cpos : Pos} {td ty tx : TE}
end

section
variable {X : Cx} {pins : List (Addr × Obj)} {σ : St} {H : Hp} {s : Shared} {a : Addr} {kvs : List (Key × V)} {A : Around} {E : Value → Shared → Prop}
end


section
variable {X : Cx} {pins : List (Addr × Obj)} {σ : St} {H : Hp} {s : Shared} {a : Addr} {y : V} {u : Value} {A : Around} {E : Value → Shared → Prop}
end
end L2

namespace Att
open PySem PySem.W PySem.Calls PyProof.Rows

section
variable {prog : Program} {w : World} {A : Around} {E : Value → Shared → Prop} {s : Shared} {K : Frag}

end
end Att

namespace L2
open PySem PySem.Spec PyProof.Rows

end L2

namespace L2
open PySem PySem.Spec PyProof.Rows

end L2

namespace L2
open PySem PySem.Spec PyProof.Rows

section
variable {X : Cx}
end

section
variable {κ : Type} [DecidableEq κ]
end
end L2


set_option maxHeartbeats 40000000
namespace G
open PySem L2
section
variable {D : Ends} {σ : St} {H H1 : Hp} {Q : VK} {t u : TS} {ta tb tc te : TE} {n : St → Hp → Prop} {r : VK} {b c : St → Hp → Prop}
theorem i_seq (h : t ⟨u ⟨n, r, b, c⟩, r, b, c⟩ σ H) : tSeq t u ⟨n, r, b, c⟩ σ H := h
theorem i_next (h : n σ H) : tNext ⟨n, r, b, c⟩ σ H := h
theorem i_drop (h : te σ H fun _ H1 => n σ H1) : tDrop te ⟨n, r, b, c⟩ σ H := h
theorem i_ret (h : te σ H r) : tRet te ⟨n, r, b, c⟩ σ H := h
theorem i_if {c' : TT} (h : c' σ H fun k H1 => if k = true then t ⟨n, r, b, c⟩ σ H1 else u ⟨n, r, b, c⟩ σ H1) : tIfS c' t u ⟨n, r, b, c⟩ σ H := h
theorem i_asg {g : TG} (h : te σ H fun x H1 => g x σ H1 n) : tAsg te g ⟨n, r, b, c⟩ σ H := h
theorem i_C {v : V} (h : Q v H) : tC v σ H Q := h
theorem i_op {f : R2} (h : ta σ H fun x H1 => tb σ H1 fun y H2 => f x y H2 Q) : tOp f ta tb σ H Q := h
theorem i_un {f : V → Hp → VK → Prop} (h : ta σ H fun x H1 => f x H1 Q) : tUn f ta σ H Q := h
def kB (q : Bool → Hp → Prop) : VK := fun x H' => ∃ k, x = .bl k ∧ q k H'
theorem i_B {k : Bool} {q : Bool → Hp → Prop} (h : q k H) : kB q (.bl k) H := ⟨k, rfl, h⟩
theorem i_test {q : Bool → Hp → Prop} (h : te σ H (kB q)) : tTest te σ H q := h
theorem i_tB {q : Bool → Hp → Prop} (h : te σ H (kB q)) : tB te σ H q := h
theorem i_and {t u : TT} {q : Bool → Hp → Prop} (h : t σ H fun k H1 => if k = true then u σ H1 q else q false H1) : tAnd t u σ H q := h
theorem i_or {t u : TT} {q : Bool → Hp → Prop} (h : t σ H fun k H1 => if k = true then q true H1 else u σ H1 q) : tOr t u σ H q := h
theorem i_not {t : TT} {q : Bool → Hp → Prop} (h : t σ H fun k H1 => q (!k) H1) : tNot t σ H q := h
theorem i_andV (h : ta σ H (kB fun k H1 => if k = true then tb σ H1 Q else Q (.bl false) H1)) : tAndV ta tb σ H Q := h
theorem i_orV (h : ta σ H (kB fun k H1 => if k = true then Q (.bl true) H1 else tb σ H1 Q)) : tOrV ta tb σ H Q := h
theorem i_notV (h : ta σ H (kB fun k H1 => Q (.bl (!k)) H1)) : tNotV ta σ H Q := h
theorem i_ifx {t : TT} (h : t σ H fun k H1 => if k = true then ta σ H1 Q else tb σ H1 Q) : tIf t ta tb σ H Q := h
theorem i_I0 {g : Int → Int → V} {i j : Int} (h : Q (g i j) H) : rI0 g (.int i) (.int j) H Q := ⟨i, j, rfl, rfl, h⟩
theorem i_I {C : Int → Int → Prop} {g : Int → Int → V} {i j : Int} (hc : C i j) (h : Q (g i j) H) : rI C g (.int i) (.int j) H Q := ⟨i, j, rfl, rfl, hc, h⟩
theorem i_U {g : Int → V} {i : Int} (h : Q (g i) H) : rU g (.int i) H Q := ⟨i, rfl, h⟩
theorem i_eqI {i j : Int} (h : Q (.bl (decide (i = j))) H) : rEq (.int i) (.int j) H Q := ⟨rfl, by rw [show decide (V.int i = V.int j) = decide (i = j) from decide_eq_decide.mpr ⟨fun e => V.int.inj e, fun e => by rw [e]⟩]; exact h⟩
theorem i_eqS {i j : Str} (h : Q (.bl (decide (i = j))) H) : rEq (.str i) (.str j) H Q := ⟨rfl, by rw [show decide (V.str i = V.str j) = decide (i = j) from decide_eq_decide.mpr ⟨fun e => V.str.inj e, fun e => by rw [e]⟩]; exact h⟩
theorem i_eqNI {j : Int} (h : Q (.bl false) H) : rEq .non (.int j) H Q := ⟨rfl, h⟩
theorem i_neI {i j : Int} (h : Q (.bl (!decide (i = j))) H) : rNe (.int i) (.int j) H Q := ⟨rfl, by rw [show decide (V.int i = V.int j) = decide (i = j) from decide_eq_decide.mpr ⟨fun e => V.int.inj e, fun e => by rw [e]⟩]; exact h⟩
theorem i_neS {i j : Str} (h : Q (.bl (!decide (i = j))) H) : rNe (.str i) (.str j) H Q := ⟨rfl, by rw [show decide (V.str i = V.str j) = decide (i = j) from decide_eq_decide.mpr ⟨fun e => V.str.inj e, fun e => by rw [e]⟩]; exact h⟩
def rIsN : R2 := fun x y H Q => y = .non ∧ Q (.bl (decide (x = .non))) H
def rNotN : R2 := fun x y H Q => y = .non ∧ Q (.bl (!decide (x = .non))) H
theorem i_isN0 (h : Q (.bl true) H) : rIsN .non .non H Q := ⟨rfl, h⟩
theorem i_isN1 {i : Int} (h : Q (.bl false) H) : rIsN (.int i) .non H Q := ⟨rfl, h⟩
theorem i_isN2 {i : Str} (h : Q (.bl false) H) : rIsN (.str i) .non H Q := ⟨rfl, h⟩
theorem i_isN3 {i : Addr} (h : Q (.bl false) H) : rIsN (.ref i) .non H Q := ⟨rfl, h⟩
theorem i_notN0 (h : Q (.bl false) H) : rNotN .non .non H Q := ⟨rfl, h⟩
theorem i_notN1 {i : Int} (h : Q (.bl true) H) : rNotN (.int i) .non H Q := ⟨rfl, h⟩
theorem i_notN2 {i : Str} (h : Q (.bl true) H) : rNotN (.str i) .non H Q := ⟨rfl, h⟩
theorem i_iteT {A B : Prop} (h : A) : if true = true then A else B := iteT h
theorem i_iteF {A B : Prop} (h : B) : if false = true then A else B := iteF h
theorem i_iteNT {A B : Prop} (h : B) : if (!true) = true then A else B := iteF h
theorem i_iteNF {A B : Prop} (h : A) : if (!false) = true then A else B := iteT h
theorem ifd {p A B : Prop} [Decidable p] (h1 : p → A) (h2 : ¬ p → B) : if decide p = true then A else B := ite2 (fun e => h1 (of_decide_eq_true e)) (fun e => h2 (fun q => e (decide_eq_true q)))
theorem ifnd {p A B : Prop} [Decidable p] (h1 : ¬ p → A) (h2 : p → B) : if (!decide p) = true then A else B := ite2 (fun e => h1 (by simpa using e)) (fun e => h2 (by simpa using e))
theorem i_nil {q : List V → Hp → Prop} (h : q [] H) : tNil σ H q := h
theorem i_cons {q : List V → Hp → Prop} {t : TA} (h : ta σ H fun x H1 => t σ H1 fun xs H2 => q (x :: xs) H2) : tCons ta t σ H q := h
theorem i_lst {t : TA} (h : t σ H fun xs H1 => xs.length ≤ sizeLine ∧ ∀ p, H1 p = none → Q (.ref p) (upd H1 p (.lst xs))) : tLst t σ H Q := h
theorem i_tup {t : TA} (h : t σ H fun xs H1 => xs.length ≤ sizeLine ∧ ∀ p, H1 p = none → Q (.ref p) (upd H1 p (.tup xs))) : tTup t σ H Q := h
theorem i_call {t : TA} {sp : Sp} {dvs : List V} {E : XK} (h : t σ H fun vs H1 => sp (vs ++ dvs) H1 Q E) : tCall sp dvs E t σ H Q := h
theorem i_CB {t : TA} {f : List V → Hp → VK → Prop} (h : t σ H fun vs H1 => f vs H1 Q) : tCB f t σ H Q := h
theorem i_noPart {q : Option Int → Hp → Prop} (h : q none H) : tNoPart σ H q := h
def kI (q : Int → Hp → Prop) : VK := fun x H1 => ∃ i, x = .int i ∧ q i H1
theorem i_part {q : Option Int → Hp → Prop} (h : te σ H (kI fun i => q (some i))) : tPart te σ H q := h
theorem i_kI {i : Int} {q : Int → Hp → Prop} (h : q i H) : kI q (.int i) H := ⟨i, rfl, h⟩
theorem i_sl {f : V → Option Int → Option Int → Hp → VK → Prop} {tl th : TO} (h : te σ H fun x H1 => tl σ H1 fun l H2 => th σ H2 fun u H3 => f x l u H3 Q) : tSl f te tl th σ H Q := h
theorem i_bm {K : PySem.W.Frag} {T : String} {f : V → List V → Hp → VK → Prop} {to : TE} {t : TA} (h : to σ H fun x H1 => tyV K T x H1 ∧ t σ H1 fun xs H2 => f x xs H2 Q) : tBM K T f to t σ H Q := h
theorem i_for {wi : TI} {g : TG} {tb : TS} (h : wi σ H fun J H1 => ∃ W : Nat → Nat → St → Hp → Prop, (∃ m, W 0 m σ H1) ∧ ∀ i m σ H, W i m σ H →
  (J.stop i H ∧ n σ H) ∨ (J.go i H ∧ ∃ N : St → Hp → Prop, (∀ σ' H', N σ' H' → ∃ m', m' < m ∧ W (i + 1) m' σ' H') ∧ ∀ x H', J.yld i H x H' → g x σ H' fun σ2 H2 => tb ⟨N, r, n, N⟩ σ2 H2)) : tFor wi g tb ⟨n, r, b, c⟩ σ H := h
theorem i_iL {K : PySem.W.Frag} {R : It → Hp → Prop} (h : te σ H fun x H1 => ∃ a, x = .ref a ∧ (∃ xs, SqL K H1 a xs) ∧ R (Itl K a) H1) : iList K te σ H R := h
theorem i_iR {ta : TA} {R : It → Hp → Prop} (h : ta σ H fun vs H1 => ∃ j : Int, vs = [.int j] ∧ -(2 ^ 62) ≤ j ∧ j < 2 ^ 62 ∧ R (Itr 0 j.toNat) H1) : iRng1 ta σ H R := h
end
theorem i_v0 {v : V} {l : St} {H : Hp} {Q : VK} (h : Q v H) : tVar 0 (some v :: l) H Q := ⟨v, rfl, h⟩
theorem i_g0 {y : Option V} {v : V} {l : St} {H : Hp} {Q : St → Hp → Prop} (h : Q (some v :: l) H) : gName 0 v (y :: l) H Q := h
theorem i_v1 {x0 : Option V} {v : V} {l : St} {H : Hp} {Q : VK} (h : Q v H) : tVar 1 (x0 :: some v :: l) H Q := ⟨v, rfl, h⟩
theorem i_g1 {x0 : Option V} {y : Option V} {v : V} {l : St} {H : Hp} {Q : St → Hp → Prop} (h : Q (x0 :: some v :: l) H) : gName 1 v (x0 :: y :: l) H Q := h
theorem i_v2 {x0 x1 : Option V} {v : V} {l : St} {H : Hp} {Q : VK} (h : Q v H) : tVar 2 (x0 :: x1 :: some v :: l) H Q := ⟨v, rfl, h⟩
theorem i_g2 {x0 x1 : Option V} {y : Option V} {v : V} {l : St} {H : Hp} {Q : St → Hp → Prop} (h : Q (x0 :: x1 :: some v :: l) H) : gName 2 v (x0 :: x1 :: y :: l) H Q := h
theorem i_v3 {x0 x1 x2 : Option V} {v : V} {l : St} {H : Hp} {Q : VK} (h : Q v H) : tVar 3 (x0 :: x1 :: x2 :: some v :: l) H Q := ⟨v, rfl, h⟩
theorem i_g3 {x0 x1 x2 : Option V} {y : Option V} {v : V} {l : St} {H : Hp} {Q : St → Hp → Prop} (h : Q (x0 :: x1 :: x2 :: some v :: l) H) : gName 3 v (x0 :: x1 :: x2 :: y :: l) H Q := h
theorem i_v4 {x0 x1 x2 x3 : Option V} {v : V} {l : St} {H : Hp} {Q : VK} (h : Q v H) : tVar 4 (x0 :: x1 :: x2 :: x3 :: some v :: l) H Q := ⟨v, rfl, h⟩
theorem i_g4 {x0 x1 x2 x3 : Option V} {y : Option V} {v : V} {l : St} {H : Hp} {Q : St → Hp → Prop} (h : Q (x0 :: x1 :: x2 :: x3 :: some v :: l) H) : gName 4 v (x0 :: x1 :: x2 :: x3 :: y :: l) H Q := h
theorem i_v5 {x0 x1 x2 x3 x4 : Option V} {v : V} {l : St} {H : Hp} {Q : VK} (h : Q v H) : tVar 5 (x0 :: x1 :: x2 :: x3 :: x4 :: some v :: l) H Q := ⟨v, rfl, h⟩
theorem i_g5 {x0 x1 x2 x3 x4 : Option V} {y : Option V} {v : V} {l : St} {H : Hp} {Q : St → Hp → Prop} (h : Q (x0 :: x1 :: x2 :: x3 :: x4 :: some v :: l) H) : gName 5 v (x0 :: x1 :: x2 :: x3 :: x4 :: y :: l) H Q := h
theorem i_v6 {x0 x1 x2 x3 x4 x5 : Option V} {v : V} {l : St} {H : Hp} {Q : VK} (h : Q v H) : tVar 6 (x0 :: x1 :: x2 :: x3 :: x4 :: x5 :: some v :: l) H Q := ⟨v, rfl, h⟩
theorem i_g6 {x0 x1 x2 x3 x4 x5 : Option V} {y : Option V} {v : V} {l : St} {H : Hp} {Q : St → Hp → Prop} (h : Q (x0 :: x1 :: x2 :: x3 :: x4 :: x5 :: some v :: l) H) : gName 6 v (x0 :: x1 :: x2 :: x3 :: x4 :: x5 :: y :: l) H Q := h
theorem i_v7 {x0 x1 x2 x3 x4 x5 x6 : Option V} {v : V} {l : St} {H : Hp} {Q : VK} (h : Q v H) : tVar 7 (x0 :: x1 :: x2 :: x3 :: x4 :: x5 :: x6 :: some v :: l) H Q := ⟨v, rfl, h⟩
theorem i_g7 {x0 x1 x2 x3 x4 x5 x6 : Option V} {y : Option V} {v : V} {l : St} {H : Hp} {Q : St → Hp → Prop} (h : Q (x0 :: x1 :: x2 :: x3 :: x4 :: x5 :: x6 :: some v :: l) H) : gName 7 v (x0 :: x1 :: x2 :: x3 :: x4 :: x5 :: x6 :: y :: l) H Q := h
theorem i_v8 {x0 x1 x2 x3 x4 x5 x6 x7 : Option V} {v : V} {l : St} {H : Hp} {Q : VK} (h : Q v H) : tVar 8 (x0 :: x1 :: x2 :: x3 :: x4 :: x5 :: x6 :: x7 :: some v :: l) H Q := ⟨v, rfl, h⟩
theorem i_g8 {x0 x1 x2 x3 x4 x5 x6 x7 : Option V} {y : Option V} {v : V} {l : St} {H : Hp} {Q : St → Hp → Prop} (h : Q (x0 :: x1 :: x2 :: x3 :: x4 :: x5 :: x6 :: x7 :: some v :: l) H) : gName 8 v (x0 :: x1 :: x2 :: x3 :: x4 :: x5 :: x6 :: x7 :: y :: l) H Q := h
theorem i_v9 {x0 x1 x2 x3 x4 x5 x6 x7 x8 : Option V} {v : V} {l : St} {H : Hp} {Q : VK} (h : Q v H) : tVar 9 (x0 :: x1 :: x2 :: x3 :: x4 :: x5 :: x6 :: x7 :: x8 :: some v :: l) H Q := ⟨v, rfl, h⟩
theorem i_g9 {x0 x1 x2 x3 x4 x5 x6 x7 x8 : Option V} {y : Option V} {v : V} {l : St} {H : Hp} {Q : St → Hp → Prop} (h : Q (x0 :: x1 :: x2 :: x3 :: x4 :: x5 :: x6 :: x7 :: x8 :: some v :: l) H) : gName 9 v (x0 :: x1 :: x2 :: x3 :: x4 :: x5 :: x6 :: x7 :: x8 :: y :: l) H Q := h
theorem i_v10 {x0 x1 x2 x3 x4 x5 x6 x7 x8 x9 : Option V} {v : V} {l : St} {H : Hp} {Q : VK} (h : Q v H) : tVar 10 (x0 :: x1 :: x2 :: x3 :: x4 :: x5 :: x6 :: x7 :: x8 :: x9 :: some v :: l) H Q := ⟨v, rfl, h⟩
theorem i_g10 {x0 x1 x2 x3 x4 x5 x6 x7 x8 x9 : Option V} {y : Option V} {v : V} {l : St} {H : Hp} {Q : St → Hp → Prop} (h : Q (x0 :: x1 :: x2 :: x3 :: x4 :: x5 :: x6 :: x7 :: x8 :: x9 :: some v :: l) H) : gName 10 v (x0 :: x1 :: x2 :: x3 :: x4 :: x5 :: x6 :: x7 :: x8 :: x9 :: y :: l) H Q := h
theorem i_v11 {x0 x1 x2 x3 x4 x5 x6 x7 x8 x9 x10 : Option V} {v : V} {l : St} {H : Hp} {Q : VK} (h : Q v H) : tVar 11 (x0 :: x1 :: x2 :: x3 :: x4 :: x5 :: x6 :: x7 :: x8 :: x9 :: x10 :: some v :: l) H Q := ⟨v, rfl, h⟩
theorem i_g11 {x0 x1 x2 x3 x4 x5 x6 x7 x8 x9 x10 : Option V} {y : Option V} {v : V} {l : St} {H : Hp} {Q : St → Hp → Prop} (h : Q (x0 :: x1 :: x2 :: x3 :: x4 :: x5 :: x6 :: x7 :: x8 :: x9 :: x10 :: some v :: l) H) : gName 11 v (x0 :: x1 :: x2 :: x3 :: x4 :: x5 :: x6 :: x7 :: x8 :: x9 :: x10 :: y :: l) H Q := h
theorem i_v12 {x0 x1 x2 x3 x4 x5 x6 x7 x8 x9 x10 x11 : Option V} {v : V} {l : St} {H : Hp} {Q : VK} (h : Q v H) : tVar 12 (x0 :: x1 :: x2 :: x3 :: x4 :: x5 :: x6 :: x7 :: x8 :: x9 :: x10 :: x11 :: some v :: l) H Q := ⟨v, rfl, h⟩
theorem i_g12 {x0 x1 x2 x3 x4 x5 x6 x7 x8 x9 x10 x11 : Option V} {y : Option V} {v : V} {l : St} {H : Hp} {Q : St → Hp → Prop} (h : Q (x0 :: x1 :: x2 :: x3 :: x4 :: x5 :: x6 :: x7 :: x8 :: x9 :: x10 :: x11 :: some v :: l) H) : gName 12 v (x0 :: x1 :: x2 :: x3 :: x4 :: x5 :: x6 :: x7 :: x8 :: x9 :: x10 :: x11 :: y :: l) H Q := h
theorem i_v13 {x0 x1 x2 x3 x4 x5 x6 x7 x8 x9 x10 x11 x12 : Option V} {v : V} {l : St} {H : Hp} {Q : VK} (h : Q v H) : tVar 13 (x0 :: x1 :: x2 :: x3 :: x4 :: x5 :: x6 :: x7 :: x8 :: x9 :: x10 :: x11 :: x12 :: some v :: l) H Q := ⟨v, rfl, h⟩
theorem i_g13 {x0 x1 x2 x3 x4 x5 x6 x7 x8 x9 x10 x11 x12 : Option V} {y : Option V} {v : V} {l : St} {H : Hp} {Q : St → Hp → Prop} (h : Q (x0 :: x1 :: x2 :: x3 :: x4 :: x5 :: x6 :: x7 :: x8 :: x9 :: x10 :: x11 :: x12 :: some v :: l) H) : gName 13 v (x0 :: x1 :: x2 :: x3 :: x4 :: x5 :: x6 :: x7 :: x8 :: x9 :: x10 :: x11 :: x12 :: y :: l) H Q := h
theorem i_v14 {x0 x1 x2 x3 x4 x5 x6 x7 x8 x9 x10 x11 x12 x13 : Option V} {v : V} {l : St} {H : Hp} {Q : VK} (h : Q v H) : tVar 14 (x0 :: x1 :: x2 :: x3 :: x4 :: x5 :: x6 :: x7 :: x8 :: x9 :: x10 :: x11 :: x12 :: x13 :: some v :: l) H Q := ⟨v, rfl, h⟩
theorem i_g14 {x0 x1 x2 x3 x4 x5 x6 x7 x8 x9 x10 x11 x12 x13 : Option V} {y : Option V} {v : V} {l : St} {H : Hp} {Q : St → Hp → Prop} (h : Q (x0 :: x1 :: x2 :: x3 :: x4 :: x5 :: x6 :: x7 :: x8 :: x9 :: x10 :: x11 :: x12 :: x13 :: some v :: l) H) : gName 14 v (x0 :: x1 :: x2 :: x3 :: x4 :: x5 :: x6 :: x7 :: x8 :: x9 :: x10 :: x11 :: x12 :: x13 :: y :: l) H Q := h
theorem i_v15 {x0 x1 x2 x3 x4 x5 x6 x7 x8 x9 x10 x11 x12 x13 x14 : Option V} {v : V} {l : St} {H : Hp} {Q : VK} (h : Q v H) : tVar 15 (x0 :: x1 :: x2 :: x3 :: x4 :: x5 :: x6 :: x7 :: x8 :: x9 :: x10 :: x11 :: x12 :: x13 :: x14 :: some v :: l) H Q := ⟨v, rfl, h⟩
theorem i_g15 {x0 x1 x2 x3 x4 x5 x6 x7 x8 x9 x10 x11 x12 x13 x14 : Option V} {y : Option V} {v : V} {l : St} {H : Hp} {Q : St → Hp → Prop} (h : Q (x0 :: x1 :: x2 :: x3 :: x4 :: x5 :: x6 :: x7 :: x8 :: x9 :: x10 :: x11 :: x12 :: x13 :: x14 :: some v :: l) H) : gName 15 v (x0 :: x1 :: x2 :: x3 :: x4 :: x5 :: x6 :: x7 :: x8 :: x9 :: x10 :: x11 :: x12 :: x13 :: x14 :: y :: l) H Q := h
end G
namespace G
open PySem L2
theorem same_new {H : Hp} {p : Addr} (h : H p = none) (o : HO) : Same H (upd H p o) := fun b u q => by rw [upd_ne (ne_of_none q h)]; exact q
def tyN (H : Hp) : V → Option String
  | .non => some "NoneType"
  | .bl _ => some "bool"
  | .int _ => some "int"
  | .str _ => some "str"
  | .ref a => match H a with
    | some (.lst _) => some "list"
    | some (.frz _ (.lst _)) => some "list"
    | some (.tup _) => some "tuple"
    | some (.dK _) => some "dict"
    | some (.dT _) => some "dict"
    | _ => none
  | _ => none
def isK (t n : String) : Option Bool := if ["int", "bool", "str", "list", "tuple", "dict"].contains n then some (t == n || (t == "bool" && n == "int")) else none
def cIsi : List V → Hp → VK → Prop := fun xs H Q => ∃ x n t k, xs = [x, .ty n] ∧ tyN H x = some t ∧ isK t n = some k ∧ Q (.bl k) H
theorem isK_int_int : isK "int" "int" = some true := by decide +kernel
theorem isK_int_bool : isK "int" "bool" = some false := by decide +kernel
theorem isK_int_str : isK "int" "str" = some false := by decide +kernel
theorem isK_int_list : isK "int" "list" = some false := by decide +kernel
theorem isK_int_tuple : isK "int" "tuple" = some false := by decide +kernel
theorem isK_int_dict : isK "int" "dict" = some false := by decide +kernel
theorem isK_bool_int : isK "bool" "int" = some true := by decide +kernel
theorem isK_bool_bool : isK "bool" "bool" = some true := by decide +kernel
theorem isK_bool_str : isK "bool" "str" = some false := by decide +kernel
theorem isK_bool_list : isK "bool" "list" = some false := by decide +kernel
theorem isK_bool_tuple : isK "bool" "tuple" = some false := by decide +kernel
theorem isK_bool_dict : isK "bool" "dict" = some false := by decide +kernel
theorem isK_str_int : isK "str" "int" = some false := by decide +kernel
theorem isK_str_bool : isK "str" "bool" = some false := by decide +kernel
theorem isK_str_str : isK "str" "str" = some true := by decide +kernel
theorem isK_str_list : isK "str" "list" = some false := by decide +kernel
theorem isK_str_tuple : isK "str" "tuple" = some false := by decide +kernel
theorem isK_str_dict : isK "str" "dict" = some false := by decide +kernel
theorem isK_NoneType_int : isK "NoneType" "int" = some false := by decide +kernel
theorem isK_NoneType_bool : isK "NoneType" "bool" = some false := by decide +kernel
theorem isK_NoneType_str : isK "NoneType" "str" = some false := by decide +kernel
theorem isK_NoneType_list : isK "NoneType" "list" = some false := by decide +kernel
theorem isK_NoneType_tuple : isK "NoneType" "tuple" = some false := by decide +kernel
theorem isK_NoneType_dict : isK "NoneType" "dict" = some false := by decide +kernel
theorem isK_list_int : isK "list" "int" = some false := by decide +kernel
theorem isK_list_bool : isK "list" "bool" = some false := by decide +kernel
theorem isK_list_str : isK "list" "str" = some false := by decide +kernel
theorem isK_list_list : isK "list" "list" = some true := by decide +kernel
theorem isK_list_tuple : isK "list" "tuple" = some false := by decide +kernel
theorem isK_list_dict : isK "list" "dict" = some false := by decide +kernel
theorem isK_tuple_int : isK "tuple" "int" = some false := by decide +kernel
theorem isK_tuple_bool : isK "tuple" "bool" = some false := by decide +kernel
theorem isK_tuple_str : isK "tuple" "str" = some false := by decide +kernel
theorem isK_tuple_list : isK "tuple" "list" = some false := by decide +kernel
theorem isK_tuple_tuple : isK "tuple" "tuple" = some true := by decide +kernel
theorem isK_tuple_dict : isK "tuple" "dict" = some false := by decide +kernel
theorem isK_dict_int : isK "dict" "int" = some false := by decide +kernel
theorem isK_dict_bool : isK "dict" "bool" = some false := by decide +kernel
theorem isK_dict_str : isK "dict" "str" = some false := by decide +kernel
theorem isK_dict_list : isK "dict" "list" = some false := by decide +kernel
theorem isK_dict_tuple : isK "dict" "tuple" = some false := by decide +kernel
theorem isK_dict_dict : isK "dict" "dict" = some true := by decide +kernel
theorem i_isiI_int {i : Int} {H : Hp} {Q : VK} (h : Q (.bl true) H) : cIsi [.int i, .ty "int"] H Q := ⟨_, _, _, _, rfl, rfl, isK_int_int, h⟩
theorem i_isiI_bool {i : Int} {H : Hp} {Q : VK} (h : Q (.bl false) H) : cIsi [.int i, .ty "bool"] H Q := ⟨_, _, _, _, rfl, rfl, isK_int_bool, h⟩
theorem i_isiI_str {i : Int} {H : Hp} {Q : VK} (h : Q (.bl false) H) : cIsi [.int i, .ty "str"] H Q := ⟨_, _, _, _, rfl, rfl, isK_int_str, h⟩
theorem i_isiS_str {i : Str} {H : Hp} {Q : VK} (h : Q (.bl true) H) : cIsi [.str i, .ty "str"] H Q := ⟨_, _, _, _, rfl, rfl, isK_str_str, h⟩
theorem i_isiN_str  {H : Hp} {Q : VK} (h : Q (.bl false) H) : cIsi [.non, .ty "str"] H Q := ⟨_, _, _, _, rfl, rfl, isK_NoneType_str, h⟩
theorem i_isiL_list {a : Addr} {H : Hp} {Q : VK} {xs : List V} (hp : H a = some (.lst xs)) (h : Q (.bl true) H) : cIsi [.ref a, .ty "list"] H Q := ⟨_, _, _, _, rfl, (by show (match H a with | some (.lst _) => some "list" | some (.frz _ (.lst _)) => some "list" | some (.tup _) => some "tuple" | some (.dK _) => some "dict" | some (.dT _) => some "dict" | _ => none) = some "list"; rw [hp]), isK_list_list, h⟩
theorem i_isiT_tuple {a : Addr} {H : Hp} {Q : VK} {xs : List V} (hp : H a = some (.tup xs)) (h : Q (.bl true) H) : cIsi [.ref a, .ty "tuple"] H Q := ⟨_, _, _, _, rfl, (by show (match H a with | some (.lst _) => some "list" | some (.frz _ (.lst _)) => some "list" | some (.tup _) => some "tuple" | some (.dK _) => some "dict" | some (.dT _) => some "dict" | _ => none) = some "tuple"; rw [hp]), isK_tuple_tuple, h⟩
def cLenL (K : PySem.W.Frag) : List V → Hp → VK → Prop := fun xs H Q => ∃ p ys, xs = [.ref p] ∧ (SqL K H p ys ∨ SqT K H p ys) ∧ Q (.int ys.length) H
theorem i_lenL {K : PySem.W.Frag} {a : Addr} {H : Hp} {Q : VK} {xs : List V} (hp : SqL K H a xs) (h : Q (.int xs.length) H) : cLenL K [.ref a] H Q := ⟨a, xs, rfl, .inl hp, h⟩
def cLenS : List V → Hp → VK → Prop := fun xs H Q => ∃ z, xs = [.str z] ∧ z.length ≤ sizeLine ∧ Q (.int z.length) H
theorem i_lenS {z : Str} {H : Hp} {Q : VK} (hp : z.length ≤ sizeLine) (h : Q (.int z.length) H) : cLenS [.str z] H Q := ⟨z, rfl, hp, h⟩
theorem i_ixL {K : PySem.W.Frag} {a : Addr} {H : Hp} {Q : VK} {xs : List V} {i : Int} {v : V} (hp : SqL K H a xs) (hi : atI xs i = some v) (h : Q v H) : rIxL K (.ref a) (.int i) H Q := ⟨a, xs, i, v, rfl, rfl, hp, hi, h⟩
section
variable {K : PySem.W.Frag} {a : Addr} {xs : List V} {g : TG} {tb : TS} {σ : St} {H : Hp} {n : St → Hp → Prop} {r : VK}
theorem forL (xs : List V) (Pv : Nat → St → Hp → Prop) (h0 : Pv 0 σ H) (hl : ∀ i σ H, i ≤ xs.length → Pv i σ H → SqL K H a xs)
    (hs : ∀ i x σ H, xs[i]? = some x → Pv i σ H → g x σ H fun σ2 H2 => tb ⟨Pv (i + 1), r, n, Pv (i + 1)⟩ σ2 H2) (hd : ∀ σ H, Pv xs.length σ H → n σ H) :
    ∃ W : Nat → Nat → St → Hp → Prop, (∃ m, W 0 m σ H) ∧ ∀ i m σ H, W i m σ H →
      ((Itl K a).stop i H ∧ n σ H) ∨ ((Itl K a).go i H ∧ ∃ N : St → Hp → Prop, (∀ σ' H', N σ' H' → ∃ m', m' < m ∧ W (i + 1) m' σ' H') ∧ ∀ x H', (Itl K a).yld i H x H' → g x σ H' fun σ2 H2 => tb ⟨N, r, n, N⟩ σ2 H2) :=
  for_list (D := ⟨n, r, fun _ _ => False, fun _ _ => False⟩) Pv h0 hl hs hd
theorem forR {lo : Int} {k : Nat} (Pv : Nat → St → Hp → Prop) (h0 : Pv 0 σ H)
    (hs : ∀ i σ H, i < k → Pv i σ H → g (.int (lo + i)) σ H fun σ2 H2 => tb ⟨Pv (i + 1), r, n, Pv (i + 1)⟩ σ2 H2) (hd : ∀ σ H, Pv k σ H → n σ H) :
    ∃ W : Nat → Nat → St → Hp → Prop, (∃ m, W 0 m σ H) ∧ ∀ i m σ H, W i m σ H →
      ((Itr lo k).stop i H ∧ n σ H) ∨ ((Itr lo k).go i H ∧ ∃ N : St → Hp → Prop, (∀ σ' H', N σ' H' → ∃ m', m' < m ∧ W (i + 1) m' σ' H') ∧ ∀ x H', (Itr lo k).yld i H x H' → g x σ H' fun σ2 H2 => tb ⟨N, r, n, N⟩ σ2 H2) :=
  for_range (D := ⟨n, r, fun _ _ => False, fun _ _ => False⟩) Pv h0 hs hd
end
theorem len_ok {n : Nat} (h : n ≤ 1000000) : n ≤ sizeLine := Nat.le_trans h (by decide)
end G
namespace G
open PySem L2
def rCatS : R2 := fun x y H Q => ∃ i j, x = .str i ∧ y = .str j ∧ i.length + j.length ≤ sizeLine ∧ Q (.str (i ++ j)) H
theorem i_catS {i j : Str} {H : Hp} {Q : VK} (hz : i.length + j.length ≤ sizeLine) (h : Q (.str (i ++ j)) H) : rCatS (.str i) (.str j) H Q := ⟨i, j, rfl, rfl, hz, h⟩
def cutS (z : Str) (lo hi : Option Int) : Str := ⟨((z.cps.toList.drop (HT.sIx z.length 0 lo)).take (HT.sIx z.length z.length hi - HT.sIx z.length 0 lo)).toArray⟩
theorem cutS_length (z : Str) (lo hi : Option Int) : (cutS z lo hi).length ≤ z.length := by
  show (List.toArray _).size ≤ z.cps.size
  rw [List.size_toArray, List.length_take, List.length_drop, Array.length_toList]
  omega
def rSlS : V → Option Int → Option Int → Hp → VK → Prop := fun x lo hi H Q => ∃ z, x = .str z ∧ z.length ≤ sizeLine ∧ Q (.str (cutS z lo hi)) H
theorem i_slS {z : Str} {lo hi : Option Int} {H : Hp} {Q : VK} (hz : z.length ≤ sizeLine) (h : Q (.str (cutS z lo hi)) H) : rSlS (.str z) lo hi H Q := ⟨z, rfl, hz, h⟩
def rInS : R2 := fun x y H Q => ∃ c j, x = .str ⟨#[c]⟩ ∧ y = .str j ∧ Q (.bl (decide (c ∈ j.cps.toList))) H
theorem i_inS {c : Nat} {j : Str} {H : Hp} {Q : VK} (h : Q (.bl (decide (c ∈ j.cps.toList))) H) : rInS (.str ⟨#[c]⟩) (.str j) H Q := ⟨c, j, rfl, rfl, h⟩
theorem i_tyS {K : PySem.W.Frag} {z : Str} {H : Hp} {A : Prop} (h : A) : tyV K "str" (.str z) H ∧ A := ⟨rfl, h⟩
def Its (z : Str) : It := ⟨fun i _ => i < z.length, fun i H x H' => H' = H ∧ ∃ c, z.cps.toList[i]? = some c ∧ x = .str ⟨#[c]⟩, fun i _ => z.length ≤ i⟩
def iStr (te : TE) : TI := fun σ H R => te σ H fun x H1 => ∃ z, x = .str z ∧ R (Its z) H1
theorem str_len (z : Str) : z.cps.toList.length = z.length := Array.length_toList
def pick (σ : St) (j : Nat) : Option V := match σ[j]? with
  | some v => v
  | none => none
def tLC (wi : TI) (caps : List Nat) (tc : TT) (te : TE) : TE := fun σ H Q => wi σ H fun J H1 => ∃ W : Nat → Nat → List V → Hp → Prop, (∃ m, W 0 m [] H1) ∧ ∀ i m ys H, W i m ys H →
  (J.stop i H ∧ ∀ p, H p = none → Q (.ref p) (upd H p (.lst ys))) ∨
  (J.go i H ∧ ys.length < sizeLine ∧ ∀ x H', J.yld i H x H' → tc (some x :: caps.map (pick σ)) H' fun k H2 => if k = true then te (some x :: caps.map (pick σ)) H2 (fun y H3 => ∃ m', m' < m ∧ W (i + 1) m' (ys ++ [y]) H3) else ∃ m', m' < m ∧ W (i + 1) m' ys H2)
def tTrue : TT := fun _ H Q => Q true H
theorem i_true {σ : St} {H : Hp} {Q : Bool → Hp → Prop} (h : Q true H) : tTrue σ H Q := h
theorem lcS {z : Str} {caps : List Nat} {te : TE} {σ : St} {H : Hp} {Q : VK} (f : Nat → V) (hz : z.length < sizeLine)
    (hel : ∀ (c : Nat) (k : VK), k (f c) H → te (some (.str ⟨#[c]⟩) :: caps.map (pick σ)) H k) (q : ∀ p, H p = none → Q (.ref p) (upd H p (.lst (z.cps.toList.map f)))) :
    ∃ W : Nat → Nat → List V → Hp → Prop, (∃ m, W 0 m [] H) ∧ ∀ i m ys H, W i m ys H →
  ((Its z).stop i H ∧ ∀ p, H p = none → Q (.ref p) (upd H p (.lst ys))) ∨
  ((Its z).go i H ∧ ys.length < sizeLine ∧ ∀ x H', (Its z).yld i H x H' → tTrue (some x :: caps.map (pick σ)) H' fun k H2 => if k = true then te (some x :: caps.map (pick σ)) H2 (fun y H3 => ∃ m', m' < m ∧ W (i + 1) m' (ys ++ [y]) H3) else ∃ m', m' < m ∧ W (i + 1) m' ys H2) := by
  refine ⟨fun i m ys H1 => m = z.length - i ∧ i ≤ z.length ∧ ys = (z.cps.toList.take i).map f ∧ H1 = H, ⟨z.length, by simp, Nat.zero_le _, rfl, rfl⟩, ?_⟩
  rintro i m ys H1 ⟨rfl, hi, rfl, rfl⟩
  by_cases hlt : i < z.length
  · refine .inr ⟨hlt, ?_, fun x H' y => ?_⟩
    · rw [List.length_map, List.length_take, str_len]; omega
    · obtain ⟨e, c, hc, rfl⟩ := y
      subst e
      refine i_true ?_
      refine i_iteT ?_
      refine hel c _ ⟨z.length - (i + 1), by omega, rfl, hlt, ?_, rfl⟩
      rw [List.take_add_one, hc, List.map_append]
      rfl
  · have e : i = z.length := by omega
    subst e
    refine .inl ⟨Nat.le_refl _, fun p hp => ?_⟩
    rw [← str_len, List.take_length]
    exact q p hp
theorem i_lcS {ti : TE} {z : Str} {caps : List Nat} {te : TE} {σ : St} {H : Hp} {Q : VK} (f : Nat → V) (hti : ∀ k : VK, k (.str z) H → ti σ H k) (hz : z.length < sizeLine)
    (hel : ∀ (c : Nat) (k : VK), k (f c) H → te (some (.str ⟨#[c]⟩) :: caps.map (pick σ)) H k) (q : ∀ p, H p = none → Q (.ref p) (upd H p (.lst (z.cps.toList.map f)))) : tLC (iStr ti) caps tTrue te σ H Q :=
  hti _ ⟨z, rfl, lcS f hz hel q⟩
def cAll (K : PySem.W.Frag) : List V → Hp → VK → Prop := fun xs H Q => ∃ (p : Addr) (bs : List Bool), xs = [.ref p] ∧ SqL K H p (bs.map V.bl) ∧ Q (.bl (bs.all id)) H
theorem i_all {K : PySem.W.Frag} {p : Addr} {bs : List Bool} {H : Hp} {Q : VK} (hp : SqL K H p (bs.map V.bl)) (h : Q (.bl (bs.all id)) H) : cAll K [.ref p] H Q := ⟨p, bs, rfl, hp, h⟩
theorem i_chain {r r' : R2} {ta tb tc : TE} {σ : St} {H : Hp} {Q : VK} (h : ta σ H fun x H1 => tb σ H1 fun y H2 => r x y H2 (kB fun k H3 => if k = true then tc σ H3 (fun w H4 => r' y w H4 Q) else Q (.bl false) H3)) : tChain r r' ta tb tc σ H Q := h
end G
namespace G
open PySem L2
def CMulB (i j : Int) : Prop := CMul i j ∨ (i.natAbs < 2 ^ 256 ∧ j.natAbs < 2 ^ 256)
def cStrI : List V → Hp → VK → Prop := fun xs H Q => ∃ i : Int, xs = [.int i] ∧ i.natAbs.log2 < 1920 ∧ Q (.str (Str.ofString (toString i))) H
def dval (l : List Nat) : Int := l.foldl (fun (v : Int) (c : Nat) => v * 10 + ((c : Int) - 48)) 0
def cIntS : List V → Hp → VK → Prop := fun xs H Q => ∃ z : Str, xs = [.str z] ∧ 1 ≤ z.length ∧ z.length ≤ 640 ∧ (∀ c ∈ z.cps.toList, 48 ≤ c ∧ c ≤ 57) ∧ Q (.int (dval z.cps.toList)) H
theorem i_intS {z : Str} {H : Hp} {Q : VK} (h1 : 1 ≤ z.length) (h2 : z.length ≤ 640) (h3 : ∀ c ∈ z.cps.toList, 48 ≤ c ∧ c ≤ 57) (h : Q (.int (dval z.cps.toList)) H) : cIntS [.str z] H Q := ⟨z, rfl, h1, h2, h3, h⟩
def r_startswith : V → List V → Hp → VK → Prop := fun x xs H Q => ∃ z c, x = .str z ∧ xs = [.str ⟨#[c]⟩] ∧ Q (.bl (decide (z.cps.toList[0]? = some c))) H
theorem i_starts {z : Str} {c : Nat} {H : Hp} {Q : VK} (h : Q (.bl (decide (z.cps.toList[0]? = some c))) H) : r_startswith (.str z) [.str ⟨#[c]⟩] H Q := ⟨z, c, rfl, rfl, h⟩
def cMax : List V → Hp → VK → Prop := fun xs H Q => ∃ i j, xs = [.int i, .int j] ∧ Q (.int (if j > i then j else i)) H
def cMin : List V → Hp → VK → Prop := fun xs H Q => ∃ i j, xs = [.int i, .int j] ∧ Q (.int (if j < i then j else i)) H
theorem i_max {i j : Int} {H : Hp} {Q : VK} (h : Q (.int (if j > i then j else i)) H) : cMax [.int i, .int j] H Q := ⟨i, j, rfl, h⟩
theorem i_min {i j : Int} {H : Hp} {Q : VK} (h : Q (.int (if j < i then j else i)) H) : cMin [.int i, .int j] H Q := ⟨i, j, rfl, h⟩
theorem log2_ok {i : Int} (h0 : 0 ≤ i) (h1 : i < 10 ^ 61) : i.natAbs.log2 < 1920 := by
  have e : i.natAbs < 10 ^ 61 := by
    have : (i.natAbs : Int) < 10 ^ 61 := by omega
    exact_mod_cast this
  by_cases h : i.natAbs = 0
  · rw [h]; decide
  · have e1 : (10 : Nat) ^ 61 ≤ 2 ^ 256 := by decide
    have e2 : (2 : Nat) ^ 256 ≤ 2 ^ 1920 := Nat.pow_le_pow_right (by decide) (by decide)
    exact (Nat.log2_lt h).mpr (Nat.lt_of_lt_of_le e (Nat.le_trans e1 e2))
theorem s_zero : ("0" : Str) = ⟨#[48]⟩ := by decide +kernel
theorem s_dash : ("-" : Str) = ⟨#[45]⟩ := by decide +kernel
theorem s_digits : (("0123456789" : Str)).cps.toList = [48, 49, 50, 51, 52, 53, 54, 55, 56, 57] := by decide +kernel
theorem in_digits {c : Nat} : c ∈ (("0123456789" : Str)).cps.toList ↔ 48 ≤ c ∧ c ≤ 57 := by
  rw [s_digits]
  simp only [List.mem_cons, List.not_mem_nil, or_false]
  omega
end G
namespace G
open PySem L2
structure EqD (K : PySem.W.Frag) (C : Addr) : Prop where
  eq : PySem.W.findIn K (.ref C) "__eq__" = some (some (.builtin "object.__eq__"))
  ob : PySem.W.mroIn K C (.type "object") = some true
end G
namespace G
open PySem L2
def xobj (a : Addr) (cls : Value) (d : Option Addr) : HO := .ext fun h => ∃ o vs, h.get? a = some o ∧ o.cls = cls ∧ o.data = .fields vs ∧ o.dict = d
def tCallX (sp : Sp) (dvs : List V) (E : St → XK) (t : TA) : TE := fun σ H Q => t σ H fun vs H1 => sp (vs ++ dvs) H1 Q (E σ)
def tTryAs (Mt : Value → Prop) (i : Nat) (tb : (St → XK) → TS) (th : TS) : TS := fun D σ H =>
  tb (fun σ' cls dx H' => Mt cls ∧ ∀ ea, H' ea = none → th ⟨fun σ2 H2 => D.nx (σ2.set i none) H2, D.rt, fun σ2 H2 => D.bk (σ2.set i none) H2, fun σ2 H2 => D.ct (σ2.set i none) H2⟩ (σ'.set i (some (.ref ea))) (upd H' ea (xobj ea cls dx))) D σ H
section
variable {σ : St} {H : Hp} {Q : VK} {n : St → Hp → Prop} {r : VK} {b c : St → Hp → Prop} {te : TE} {t : TA}
theorem i_callX {sp : Sp} {dvs : List V} {E : St → XK} (h : t σ H fun vs H1 => sp (vs ++ dvs) H1 Q (E σ)) : tCallX sp dvs E t σ H Q := h
theorem i_tryAs {Mt : Value → Prop} {i : Nat} {tb : (St → XK) → TS} {th : TS} (h : tb (fun σ' cls dx H' => Mt cls ∧ ∀ ea, H' ea = none → th ⟨fun σ2 H2 => n (σ2.set i none) H2, r, fun σ2 H2 => b (σ2.set i none) H2, fun σ2 H2 => c (σ2.set i none) H2⟩ (σ'.set i (some (.ref ea))) (upd H' ea (xobj ea cls dx))) ⟨n, r, b, c⟩ σ H) :
    tTryAs Mt i tb th ⟨n, r, b, c⟩ σ H := h
end
theorem i_gsub {to ti : TE} {ts : TSet} {x : V} {σ : St} {H : Hp} {Q : St → Hp → Prop} (h : to σ H fun o H1 => ti σ H1 fun i H2 => ts o i x H2 fun H3 => Q σ H3) : gSub to ti ts x σ H Q := h
def cIsiX (Cs : List Addr) (isk : Value → Value → Option Bool) : List V → Hp → VK → Prop := fun xs H Q => ∃ a c C k, (∃ v, xs = [.ref a, v] ∧ RelV v c) ∧ C ∈ Cs ∧ (∃ d, H a = some (xobj a (.ref C) d)) ∧ isk (.ref C) c = some k ∧ Q (.bl k) H
def cListL (K : PySem.W.Frag) : List V → Hp → VK → Prop := fun xs H Q => ∃ (p : Addr) (ys : List V), xs = [.ref p] ∧ SqL K H p ys ∧ ∀ l, H l = none → Q (.ref l) (upd H l (.lst ys))
def eqL (xs ys : List V) : Bool := xs.length == ys.length && (xs.zip ys).all fun p => eqV p.1 p.2
def rEqL (K : PySem.W.Frag) (neg : Bool) : R2 := fun x y H Q => ∃ p q xs ys, x = .ref p ∧ y = .ref q ∧ SqL K H p xs ∧ SqL K H q ys ∧ (xs.length = ys.length → xs.all flatV = true ∧ ys.all flatV = true) ∧ Q (.bl (if neg then !eqL xs ys else eqL xs ys)) H
def LCg (J : It) (caps : List Nat) (tc : TT) (te : TE) (σ : St) (H : Hp) (Q : VK) : Prop := ∃ W : Nat → Nat → List V → Hp → Prop, (∃ m, W 0 m [] H) ∧ ∀ i m ys H, W i m ys H →
  (J.stop i H ∧ ∀ p, H p = none → Q (.ref p) (upd H p (.lst ys))) ∨
  (J.go i H ∧ ys.length < sizeLine ∧ ∀ x H', J.yld i H x H' → tc (some x :: caps.map (pick σ)) H' fun k H2 => if k = true then te (some x :: caps.map (pick σ)) H2 (fun y H3 => ∃ m', m' < m ∧ W (i + 1) m' (ys ++ [y]) H3) else ∃ m', m' < m ∧ W (i + 1) m' ys H2)
theorem i_lcg {wi : TI} {caps : List Nat} {tc : TT} {te : TE} {σ : St} {H : Hp} {Q : VK} (h : wi σ H fun J H1 => LCg J caps tc te σ H1 Q) : tLC wi caps tc te σ H Q := h
theorem lc_src {J : It} {caps : List Nat} {tc : TT} {te : TE} {σ : St} {H : Hp} {Q : VK} (k : Nat) (hz : k ≤ 1000000) (g : Nat → Option V)
    (hstop : J.stop k H) (hgo : ∀ i, i < k → J.go i H) (hy : ∀ i x H', i < k → J.yld i H x H' → H' = H ∧ (∀ q : Bool → Hp → Prop, q (g i).isSome H → tc (some x :: caps.map (pick σ)) H q) ∧ ∀ (y : V) (q : VK), g i = some y → q y H → te (some x :: caps.map (pick σ)) H q)
    (q : ∀ p, H p = none → Q (.ref p) (upd H p (.lst ((List.range k).filterMap g)))) :
    LCg J caps tc te σ H Q := by
  refine ⟨fun i m ys H' => H' = H ∧ i ≤ k ∧ m = k - i ∧ ys = (List.range i).filterMap g, ⟨k, rfl, Nat.zero_le _, rfl, rfl⟩, ?_⟩
  rintro i m ys _ ⟨rfl, hi, rfl, rfl⟩
  by_cases hk : i = k
  · subst hk
    exact .inl ⟨hstop, q⟩
  · have hlt : i < k := by omega
    refine .inr ⟨hgo i hlt, ?_, fun x H' y => ?_⟩
    · refine Nat.lt_of_le_of_lt (Nat.le_trans (List.length_filterMap_le _ _) ?_) (show 1000000 < sizeLine by decide)
      rw [List.length_range]; omega
    · obtain ⟨rfl, h1, h2⟩ := hy i x H' hlt y
      refine h1 _ ?_
      have er : List.filterMap g (List.range (i + 1)) = List.filterMap g (List.range i) ++ (match g i with | some y => [y] | none => []) := by
        rw [List.range_succ, List.filterMap_append]
        cases e : g i with
        | none => rw [List.filterMap_cons_none e]; rfl
        | some y => rw [List.filterMap_cons_some e]; rfl
      cases e : g i with
      | none =>
        rw [e] at er
        dsimp only [Option.isSome]
        refine iteF ⟨k - (i + 1), by omega, rfl, by omega, rfl, ?_⟩
        rw [er, List.append_nil]
      | some y =>
        rw [e] at er
        dsimp only [Option.isSome]
        refine iteT (h2 y _ e ⟨k - (i + 1), by omega, rfl, by omega, rfl, ?_⟩)
        rw [er]
theorem lc_list {K : PySem.W.Frag} {a : Addr} {xs : List V} {caps : List Nat} {tc : TT} {te : TE} {σ : St} {H : Hp} {Q : VK} (hs : SqL K H a xs) (g : Nat → Option V) (hz : xs.length ≤ 1000000)
    (hy : ∀ i x, xs[i]? = some x → (∀ q : Bool → Hp → Prop, q (g i).isSome H → tc (some x :: caps.map (pick σ)) H q) ∧ ∀ (y : V) (q : VK), g i = some y → q y H → te (some x :: caps.map (pick σ)) H q)
    (q : ∀ p, H p = none → Q (.ref p) (upd H p (.lst ((List.range xs.length).filterMap g)))) :
    LCg (Itl K a) caps tc te σ H Q := by
  refine lc_src xs.length hz g ⟨xs, hs, Nat.le_refl _⟩ (fun i hi => ⟨xs, xs[i], hs, List.getElem?_eq_getElem hi⟩) (fun i x H' hi y => ?_) q
  obtain ⟨e1, e2⟩ := y
  exact ⟨e1, hy i x (e2 xs hs)⟩
theorem ixN_nat {n i : Nat} (h : i < n) : ixN n (i : Int) = some i := by
  unfold ixN
  rw [if_pos (by omega), if_pos (by omega)]; simp
theorem atI_int {α : Type} {xs : List α} {i : Int} {v : α} (h0 : 0 ≤ i) (h : xs[i.toNat]? = some v) : atI xs i = some v := by
  have e : i = ((i.toNat : Nat) : Int) := by omega
  have := atI_nat h
  rw [← e] at this; exact this
end G
namespace G
open PySem L2
inductive Al {α β : Type} (P : α → β → Prop) : List α → List β → Prop
  | nil : Al P [] []
  | cons {x : α} {y : β} {xs : List α} {ys : List β} : P x y → Al P xs ys → Al P (x :: xs) (y :: ys)
section
variable {α β : Type} {P P' : α → β → Prop} {xs : List α} {ys : List β}
theorem Al.length (h : Al P xs ys) : xs.length = ys.length := by
  induction h with
  | nil => rfl
  | cons _ _ ih => rw [List.length_cons, List.length_cons, ih]
theorem Al.mono (h : Al P xs ys) (f : ∀ x y, P x y → P' x y) : Al P' xs ys := by
  induction h with
  | nil => exact .nil
  | cons p _ ih => exact .cons (f _ _ p) ih
theorem Al.get (h : Al P xs ys) : ∀ {i : Nat} {y : β}, ys[i]? = some y → ∃ x, xs[i]? = some x ∧ P x y := by
  induction h with
  | nil => intro i y e; simp at e
  | cons p _ ih =>
    intro i y e
    cases i with
    | zero => simp at e; subst e; exact ⟨_, rfl, p⟩
    | succ i =>
      obtain ⟨x, e1, e2⟩ := ih (i := i) (y := y) (by simpa using e)
      exact ⟨x, by simpa using e1, e2⟩
theorem Al.getL (h : Al P xs ys) : ∀ {i : Nat} {x : α}, xs[i]? = some x → ∃ y, ys[i]? = some y ∧ P x y := by
  induction h with
  | nil => intro i y e; simp at e
  | cons p _ ih =>
    intro i y e
    cases i with
    | zero => simp at e; subst e; exact ⟨_, rfl, p⟩
    | succ i =>
      obtain ⟨x, e1, e2⟩ := ih (i := i) (by simpa using e)
      exact ⟨x, by simpa using e1, e2⟩
theorem Al.app (h : Al P xs ys) {x : α} {y : β} (p : P x y) : Al P (xs ++ [x]) (ys ++ [y]) := by
  induction h with
  | nil => exact .cons p .nil
  | cons q t ih => exact .cons q ih
end
end G
namespace G
open PySem L2
abbrev Tg := Addr → Nat × Nat
def WT (H : Hp) (T : Tg) : Prop := ∀ b, H b = none → T b = (0, 0)
structure Stp (s : Nat) (H H' : Hp) (T T' : Tg) : Prop where
  kp : ∀ b o, H b = some o → (T b).1 ≠ s → H' b = some o
  al : ∀ b o, H b = some o → ∃ o', H' b = some o'
  tg : ∀ b o, H b = some o → T' b = T b
  wt : WT H' T'
end G
namespace G
open PySem L2
theorem lc_new {J : It} {caps : List Nat} {tc : TT} {te : TE} {σ : St} {H : Hp} {Q : VK} (k : Nat) (hz : k ≤ 1000000) (R : Nat → V → Hp → Prop) (mono : ∀ i y H1 H2, R i y H1 → Same H1 H2 → R i y H2)
    (hstop : ∀ H', Same H H' → J.stop k H') (hgo : ∀ i H', i < k → Same H H' → J.go i H')
    (hy : ∀ i x H1 H', i < k → Same H H1 → J.yld i H1 x H' → H' = H1 ∧ (∀ q : Bool → Hp → Prop, q true H1 → tc (some x :: caps.map (pick σ)) H1 q) ∧ ∀ q : VK, (∀ y H2, Same H1 H2 → R i y H2 → q y H2) → te (some x :: caps.map (pick σ)) H1 q)
    (q : ∀ ys H', Same H H' → ys.length = k → (∀ (i : Nat) y, ys[i]? = some y → R i y H') → ∀ p, H' p = none → Q (.ref p) (upd H' p (.lst ys))) :
    LCg J caps tc te σ H Q := by
  refine ⟨fun i m ys H' => Same H H' ∧ i ≤ k ∧ m = k - i ∧ ys.length = i ∧ ∀ (j : Nat) y, ys[j]? = some y → R j y H', ⟨k, Same.refl _, Nat.zero_le _, rfl, rfl, fun j y e => by simp at e⟩, ?_⟩
  rintro i m ys H1 ⟨s1, hi, rfl, hl, hr⟩
  by_cases hk : i = k
  · subst hk
    exact .inl ⟨hstop H1 s1, q ys H1 s1 hl hr⟩
  · have hlt : i < k := by omega
    refine .inr ⟨hgo i H1 hlt s1, Nat.lt_of_le_of_lt (show ys.length ≤ 1000000 by omega) (show 1000000 < sizeLine by decide), fun x H' y => ?_⟩
    obtain ⟨rfl, h1, h2⟩ := hy i x H1 H' hlt s1 y
    refine h1 _ (iteT (h2 _ fun y H2 s2 r => ⟨k - (i + 1), by omega, s1.trans s2, by omega, rfl, by rw [List.length_append, hl]; rfl, fun j z e => ?_⟩))
    by_cases hj : j < ys.length
    · rw [List.getElem?_append_left hj] at e
      exact mono j z _ _ (hr j z e) s2
    · have hj' := (List.getElem?_eq_some_iff.mp e).1
      rw [List.length_append, List.length_singleton] at hj'
      have ej : j = ys.length := by omega
      subst ej
      rw [List.getElem?_append_right (Nat.le_refl _), Nat.sub_self] at e
      cases e
      rw [hl]
      exact r
theorem lc_newR {caps : List Nat} {tc : TT} {te : TE} {σ : St} {H : Hp} {Q : VK} {n : Nat} {z : Int} (ez : z.toNat = n) (hz : n ≤ 1000000) (R : Nat → V → Hp → Prop) (mono : ∀ i y H1 H2, R i y H1 → Same H1 H2 → R i y H2)
    (htc : ∀ i H1, ∀ q : Bool → Hp → Prop, q true H1 → tc (some (.int i) :: caps.map (pick σ)) H1 q)
    (hte : ∀ (i : Nat) H1, i < n → Same H H1 → ∀ q : VK, (∀ y H2, Same H1 H2 → R i y H2 → q y H2) → te (some (.int i) :: caps.map (pick σ)) H1 q)
    (q : ∀ ys H', Same H H' → ys.length = n → (∀ (i : Nat) y, ys[i]? = some y → R i y H') → ∀ p, H' p = none → Q (.ref p) (upd H' p (.lst ys))) : LCg (Itr 0 z.toNat) caps tc te σ H Q := by
  subst ez
  refine lc_new z.toNat hz R mono (fun _ _ => Nat.le_refl _) (fun i _ hi _ => hi) (fun i x H1 H' hi s1 y => ?_) q
  obtain ⟨e1, e2⟩ := y
  have ex : x = .int i := by rw [e2]; simp
  subst ex
  exact ⟨e1, htc i H1, fun q hq => hte i H1 hi s1 q hq⟩
theorem lc_newL {K : PySem.W.Frag} {a : Addr} {xs : List V} {caps : List Nat} {tc : TT} {te : TE} {σ : St} {H : Hp} {Q : VK} (hs : SqL K H a xs) (hz : xs.length ≤ 1000000) (R : Nat → V → Hp → Prop) (mono : ∀ i y H1 H2, R i y H1 → Same H1 H2 → R i y H2)
    (htc : ∀ x H1, ∀ q : Bool → Hp → Prop, q true H1 → tc (some x :: caps.map (pick σ)) H1 q)
    (hte : ∀ (i : Nat) x H1, xs[i]? = some x → Same H H1 → ∀ q : VK, (∀ y H2, Same H1 H2 → R i y H2 → q y H2) → te (some x :: caps.map (pick σ)) H1 q)
    (q : ∀ ys H', Same H H' → ys.length = xs.length → (∀ (i : Nat) y, ys[i]? = some y → R i y H') → ∀ p, H' p = none → Q (.ref p) (upd H' p (.lst ys))) : LCg (Itl K a) caps tc te σ H Q := by
  refine lc_new xs.length hz R mono (fun H' s => ⟨xs, s.seq hs, Nat.le_refl _⟩) (fun i H' hi s => ⟨xs, xs[i], s.seq hs, List.getElem?_eq_getElem hi⟩) (fun i x H1 H' hi s1 y => ?_) q
  obtain ⟨e1, e2⟩ := y
  exact ⟨e1, htc x H1, fun q hq => hte i x H1 (e2 xs (s1.seq hs)) s1 q hq⟩
end G
namespace G
open PySem L2 PySem.Spec PyProof.Rows
theorem boot_isinstance : bootBuiltins "isinstance" = some (.builtin "isinstance") := by decide +kernel
theorem boot_len : bootBuiltins "len" = some (.builtin "len") := by decide +kernel
theorem boot_all : bootBuiltins "all" = some (.builtin "all") := by decide +kernel
theorem boot_max : bootBuiltins "max" = some (.builtin "max") := by decide +kernel
theorem boot_min : bootBuiltins "min" = some (.builtin "min") := by decide +kernel
theorem boot_int : bootBuiltins "int" = some (.type "int") := by decide +kernel
theorem boot_str : bootBuiltins "str" = some (.type "str") := by decide +kernel
theorem boot_bool : bootBuiltins "bool" = some (.type "bool") := by decide +kernel
theorem boot_list : bootBuiltins "list" = some (.type "list") := by decide +kernel
theorem boot_tuple : bootBuiltins "tuple" = some (.type "tuple") := by decide +kernel
structure FunD (K : PySem.W.Frag) (x qual : Str) (st : Stmt) (f : Addr) (fd : FuncData) : Prop where
  ex : ∃ (oc : Value) (od : Option Addr) (dV kV doc pm : Value) (an : Option Addr) (cdv ct : Value) (osl : Array (Option Value)),
    fd = PySem.W.fnOf x qual (defArgs st) (defBody st) (defScope st) dV kV doc pm an cdv ct ∧ K.lookup f = some ⟨oc, od, .func fd, osl⟩ ∧ PySem.W.codeIn K cdv qual = true
  kp : PySem.W.keepIn K (.ref f) = true
section
variable {P : Program} {w : World} {K : PySem.W.Frag} {mg : Str → Option Value} {base : Heap}
theorem funD_mk {x qual : Str} {st : Stmt} {f : Addr} {oc dV : Value} {od an : Option Addr} {osl : Array (Option Value)} {kV doc pm cdv ct : Value} (l : K.lookup f = some ⟨oc, od, .func (PySem.W.fnOf x qual (defArgs st) (defBody st) (defScope st) dV kV doc pm an cdv ct), osl⟩)
    (c : PySem.W.codeIn K cdv qual = true) (k : PySem.W.keepIn K (.ref f) = true) : FunD K x qual st f (PySem.W.fnOf x qual (defArgs st) (defBody st) (defScope st) dV kV doc pm an cdv ct) := ⟨⟨oc, od, dV, kV, doc, pm, an, cdv, ct, osl, rfl, l, c⟩, k⟩
theorem bindsD {f td : Addr} {oc tc : Value} {od to_ : Option Addr} {osl ts : Array (Option Value)} {fd : FuncData} {items : Array Value} {tn : Nat} {ps : List Str} {ds : List Value} (_ : K.lookup f = some ⟨oc, od, .func fd, osl⟩) (t : K.lookup td = some ⟨tc, to_, .seq items tn, ts⟩)
    (h : ∀ us : List Value, us.length + ds.length = ps.length → ∃ k, bindArgs fd ⟨us, []⟩ = seqItems? (.ref td) >>= k ∧ k (some items) = pure (ps.zip (us ++ ds))) (hd : fd.defaults = .ref td := by rfl) : Binds K fd ps ds := by
  intro s us KX hl
  obtain ⟨k, h1, h2⟩ := h us (by rw [List.length_append] at hl; exact hl)
  exact BindsTo.of_defaults hd (KX _ _ t) rfl (by rw [h1, hd]) h2
end
section
variable {X : Cx}
theorem op_isN_ : OpR X (compareOp .Is) rIsN := op_isN
theorem op_notN_ : OpR X (compareOp .IsNot) rNotN := op_notN
theorem call_lenL : CallR X (.builtin "len") (cLenL X.K) := call_len_seq
theorem call_lenS : CallR X (.builtin "len") cLenS := call_len_str
def kk (t n : String) : Option Bool := if (Value.type t == Value.type n) = true then some true else if PySem.W.kitMeta n = true then (fastBuiltinMro t).map (·.contains (.type n)) else none
theorem kit_kk (K : PySem.W.Frag) (t n : String) : PySem.W.kitOne K (.type t) (.type n) = kk t n := rfl
theorem kk_int_int : kk "int" "int" = some true := by decide +kernel
theorem kk_int_bool : kk "int" "bool" = some false := by decide +kernel
theorem kk_int_str : kk "int" "str" = some false := by decide +kernel
theorem kk_int_list : kk "int" "list" = some false := by decide +kernel
theorem kk_int_tuple : kk "int" "tuple" = some false := by decide +kernel
theorem kk_int_dict : kk "int" "dict" = some false := by decide +kernel
theorem kk_bool_int : kk "bool" "int" = some true := by decide +kernel
theorem kk_bool_bool : kk "bool" "bool" = some true := by decide +kernel
theorem kk_bool_str : kk "bool" "str" = some false := by decide +kernel
theorem kk_bool_list : kk "bool" "list" = some false := by decide +kernel
theorem kk_bool_tuple : kk "bool" "tuple" = some false := by decide +kernel
theorem kk_bool_dict : kk "bool" "dict" = some false := by decide +kernel
theorem kk_str_int : kk "str" "int" = some false := by decide +kernel
theorem kk_str_bool : kk "str" "bool" = some false := by decide +kernel
theorem kk_str_str : kk "str" "str" = some true := by decide +kernel
theorem kk_str_list : kk "str" "list" = some false := by decide +kernel
theorem kk_str_tuple : kk "str" "tuple" = some false := by decide +kernel
theorem kk_str_dict : kk "str" "dict" = some false := by decide +kernel
theorem kk_NoneType_int : kk "NoneType" "int" = some false := by decide +kernel
theorem kk_NoneType_bool : kk "NoneType" "bool" = some false := by decide +kernel
theorem kk_NoneType_str : kk "NoneType" "str" = some false := by decide +kernel
theorem kk_NoneType_list : kk "NoneType" "list" = some false := by decide +kernel
theorem kk_NoneType_tuple : kk "NoneType" "tuple" = some false := by decide +kernel
theorem kk_NoneType_dict : kk "NoneType" "dict" = some false := by decide +kernel
theorem kk_list_int : kk "list" "int" = some false := by decide +kernel
theorem kk_list_bool : kk "list" "bool" = some false := by decide +kernel
theorem kk_list_str : kk "list" "str" = some false := by decide +kernel
theorem kk_list_list : kk "list" "list" = some true := by decide +kernel
theorem kk_list_tuple : kk "list" "tuple" = some false := by decide +kernel
theorem kk_list_dict : kk "list" "dict" = some false := by decide +kernel
theorem kk_tuple_int : kk "tuple" "int" = some false := by decide +kernel
theorem kk_tuple_bool : kk "tuple" "bool" = some false := by decide +kernel
theorem kk_tuple_str : kk "tuple" "str" = some false := by decide +kernel
theorem kk_tuple_list : kk "tuple" "list" = some false := by decide +kernel
theorem kk_tuple_tuple : kk "tuple" "tuple" = some true := by decide +kernel
theorem kk_tuple_dict : kk "tuple" "dict" = some false := by decide +kernel
theorem kk_dict_int : kk "dict" "int" = some false := by decide +kernel
theorem kk_dict_bool : kk "dict" "bool" = some false := by decide +kernel
theorem kk_dict_str : kk "dict" "str" = some false := by decide +kernel
theorem kk_dict_list : kk "dict" "list" = some false := by decide +kernel
theorem kk_dict_tuple : kk "dict" "tuple" = some false := by decide +kernel
theorem kk_dict_dict : kk "dict" "dict" = some true := by decide +kernel
theorem tyN_in {H : Hp} {x : V} {t : String} (e : tyN H x = some t) : t = "int" ∨ t = "bool" ∨ t = "str" ∨ t = "NoneType" ∨ t = "list" ∨ t = "tuple" ∨ t = "dict" := by
  unfold tyN at e
  split at e <;> (first | (cases e; simp) | (split at e <;> (first | (cases e; simp) | cases e)) | cases e)
theorem isK_in {t n : String} {k : Bool} (e : isK t n = some k) : n = "int" ∨ n = "bool" ∨ n = "str" ∨ n = "list" ∨ n = "tuple" ∨ n = "dict" := by
  unfold isK at e
  by_cases h : (["int", "bool", "str", "list", "tuple", "dict"].contains n) = true
  · simpa using h
  · rw [if_neg h] at e; cases e
theorem kk_of {H : Hp} {x : V} {t n : String} {k : Bool} (ht : tyN H x = some t) (e : isK t n = some k) : kk t n = some k := by
  rcases tyN_in ht with rfl | rfl | rfl | rfl | rfl | rfl | rfl <;> rcases isK_in e with rfl | rfl | rfl | rfl | rfl | rfl
  · rw [isK_int_int] at e; rw [kk_int_int]; exact e
  · rw [isK_int_bool] at e; rw [kk_int_bool]; exact e
  · rw [isK_int_str] at e; rw [kk_int_str]; exact e
  · rw [isK_int_list] at e; rw [kk_int_list]; exact e
  · rw [isK_int_tuple] at e; rw [kk_int_tuple]; exact e
  · rw [isK_int_dict] at e; rw [kk_int_dict]; exact e
  · rw [isK_bool_int] at e; rw [kk_bool_int]; exact e
  · rw [isK_bool_bool] at e; rw [kk_bool_bool]; exact e
  · rw [isK_bool_str] at e; rw [kk_bool_str]; exact e
  · rw [isK_bool_list] at e; rw [kk_bool_list]; exact e
  · rw [isK_bool_tuple] at e; rw [kk_bool_tuple]; exact e
  · rw [isK_bool_dict] at e; rw [kk_bool_dict]; exact e
  · rw [isK_str_int] at e; rw [kk_str_int]; exact e
  · rw [isK_str_bool] at e; rw [kk_str_bool]; exact e
  · rw [isK_str_str] at e; rw [kk_str_str]; exact e
  · rw [isK_str_list] at e; rw [kk_str_list]; exact e
  · rw [isK_str_tuple] at e; rw [kk_str_tuple]; exact e
  · rw [isK_str_dict] at e; rw [kk_str_dict]; exact e
  · rw [isK_NoneType_int] at e; rw [kk_NoneType_int]; exact e
  · rw [isK_NoneType_bool] at e; rw [kk_NoneType_bool]; exact e
  · rw [isK_NoneType_str] at e; rw [kk_NoneType_str]; exact e
  · rw [isK_NoneType_list] at e; rw [kk_NoneType_list]; exact e
  · rw [isK_NoneType_tuple] at e; rw [kk_NoneType_tuple]; exact e
  · rw [isK_NoneType_dict] at e; rw [kk_NoneType_dict]; exact e
  · rw [isK_list_int] at e; rw [kk_list_int]; exact e
  · rw [isK_list_bool] at e; rw [kk_list_bool]; exact e
  · rw [isK_list_str] at e; rw [kk_list_str]; exact e
  · rw [isK_list_list] at e; rw [kk_list_list]; exact e
  · rw [isK_list_tuple] at e; rw [kk_list_tuple]; exact e
  · rw [isK_list_dict] at e; rw [kk_list_dict]; exact e
  · rw [isK_tuple_int] at e; rw [kk_tuple_int]; exact e
  · rw [isK_tuple_bool] at e; rw [kk_tuple_bool]; exact e
  · rw [isK_tuple_str] at e; rw [kk_tuple_str]; exact e
  · rw [isK_tuple_list] at e; rw [kk_tuple_list]; exact e
  · rw [isK_tuple_tuple] at e; rw [kk_tuple_tuple]; exact e
  · rw [isK_tuple_dict] at e; rw [kk_tuple_dict]; exact e
  · rw [isK_dict_int] at e; rw [kk_dict_int]; exact e
  · rw [isK_dict_bool] at e; rw [kk_dict_bool]; exact e
  · rw [isK_dict_str] at e; rw [kk_dict_str]; exact e
  · rw [isK_dict_list] at e; rw [kk_dict_list]; exact e
  · rw [isK_dict_tuple] at e; rw [kk_dict_tuple]; exact e
  · rw [isK_dict_dict] at e; rw [kk_dict_dict]; exact e
theorem tyOf {K : PySem.W.Frag} {H : Hp} {x : V} {t : String} (e : tyN H x = some t) : TyOf K H x (.type t) := by
  cases x with
  | non => cases e; exact .non
  | bl y => cases e; exact .bl y
  | int y => cases e; exact .int y
  | str y => cases e; exact .str y
  | byt y => cases e
  | flt y => cases e
  | ty y => cases e
  | ref a =>
    have e' : (match H a with | some (.lst _) => some "list" | some (.frz _ (.lst _)) => some "list" | some (.tup _) => some "tuple" | some (.dK _) => some "dict" | some (.dT _) => some "dict" | _ => none) = some t := e
    split at e'
    · rename_i h; cases e'; exact .lst h
    · rename_i h; cases e'; exact .frz h
    · rename_i h; cases e'; exact .tup h
    · rename_i h; cases e'; exact .dK h
    · rename_i h; cases e'; exact .dT h
    · cases e'
theorem call_isi : CallR X (.builtin "isinstance") cIsi := by
  intro pins s σ H xs us Q I r h
  obtain ⟨x, n, t, k, rfl, ht, hk, q⟩ := h
  obtain ⟨u, w', rfl, rx, rn⟩ := vals2 r
  have rn' : w' = Value.type n := rn
  subst rn'
  exact isinst_ok (t := .type t) (b := k) I rx (tyOf ht) ((kit_kk _ _ _).trans (kk_of ht hk)) fun tk => ⟨.bl k, H, I.tok _, rfl, q⟩
end
end G
namespace G
open PySem L2 PySem.Spec PyProof.Rows
theorem sub_one {x : Str} {c i : Nat} : Builtin.Str.subAt x ⟨#[c]⟩ i = true ↔ x.cps.toList[i]? = some c := by
  rw [StrLaws.subAt_eq, beq_iff_eq]
  show (x.cps.toList.drop i).take 1 = [c] ↔ _
  cases e : x.cps.toList.drop i with
  | nil =>
    have : x.cps.toList[i]? = none := by
      rw [List.getElem?_eq_none_iff]
      exact List.drop_eq_nil_iff.mp e
    rw [this]
    simp
  | cons d r =>
    have : x.cps.toList[i]? = some d := by
      have h0 : (x.cps.toList.drop i)[0]? = some d := by rw [e]; rfl
      rw [List.getElem?_drop] at h0
      simpa using h0
    rw [this]
    simp
section
variable {X : Cx}
theorem op_inS : OpR X (compareOp .In) rInS := by
  intro pins s σ H x y v u Q I rx ry h
  obtain ⟨c, j, rfl, rfl, q⟩ := h
  exact op_in_str pins s σ H _ _ v u Q I rx ry ⟨_, _, rfl, rfl, by rw [StrLaws.found_one]; exact q⟩
theorem clip_sIx (n : Nat) (o : Option Int) (d : Nat) (v : Int) (h : o = some v) : max (0 : Int) (min (if v < 0 then v + n else v) n) = ((HT.sIx n d o : Nat) : Int) := by
  subst h
  show _ = (((if v < 0 then (v + (n : Int)).toNat else min v.toNat n : Nat)) : Int)
  split <;> omega
theorem slice_idx (lo hi : Option Int) (n : Nat) : Builtin.Str.strSliceIndices lo hi 1 n = Builtin.Str.strSliceIndices (some ((HT.sIx n 0 lo : Nat) : Int)) (some ((HT.sIx n n hi : Nat) : Int)) 1 n := by
  have a1 := HT.sIx_le n 0 (Nat.zero_le _) lo
  have a2 := HT.sIx_le n n (Nat.le_refl _) hi
  have e1 : max (0 : Int) (min (if ((HT.sIx n 0 lo : Nat) : Int) < 0 then ((HT.sIx n 0 lo : Nat) : Int) + n else ((HT.sIx n 0 lo : Nat) : Int)) n) = ((HT.sIx n 0 lo : Nat) : Int) := by
    rw [if_neg (by omega)]; omega
  have e2 : max (0 : Int) (min (if ((HT.sIx n n hi : Nat) : Int) < 0 then ((HT.sIx n n hi : Nat) : Int) + n else ((HT.sIx n n hi : Nat) : Int)) n) = ((HT.sIx n n hi : Nat) : Int) := by
    rw [if_neg (by omega)]; omega
  simp only [Builtin.Str.strSliceIndices, show ((1 : Int) > 0) = True from by simp, if_true]
  rw [e1, e2]
  cases lo with
  | none =>
    cases hi with
    | none => rfl
    | some j => dsimp only; rw [clip_sIx n (some j) n j rfl]; rfl
  | some i =>
    cases hi with
    | none => dsimp only; rw [clip_sIx n (some i) 0 i rfl]; rfl
    | some j => dsimp only; rw [clip_sIx n (some j) n j rfl, clip_sIx n (some i) 0 i rfl]
theorem slice_cut (z : Str) (lo hi : Option Int) : (Builtin.Str.strSliceIndices lo hi 1 z.length).filterMap (z.cps[·]?) = (z.cps.toList.drop (HT.sIx z.length 0 lo)).take (HT.sIx z.length z.length hi - HT.sIx z.length 0 lo) := by
  rw [slice_idx]
  by_cases h : HT.sIx z.length 0 lo ≤ HT.sIx z.length z.length hi
  · exact StrLaws.sliced_plain z h (HT.sIx_le _ _ (Nat.le_refl _) _)
  · have e : HT.sIx z.length z.length hi - HT.sIx z.length 0 lo = 0 := by omega
    rw [e, List.take_zero]
    have e2 : Builtin.Str.strSliceIndices (some ((HT.sIx z.length 0 lo : Nat) : Int)) (some ((HT.sIx z.length z.length hi : Nat) : Int)) 1 z.length = [] := by
      have a1 := HT.sIx_le z.length 0 (Nat.zero_le _) lo
      have a2 := HT.sIx_le z.length z.length (Nat.le_refl _) hi
      simp only [Builtin.Str.strSliceIndices, sliceRange, show ((1 : Int) > 0) = True from by simp, if_true]
      rw [if_neg (by omega : ¬ ((HT.sIx z.length 0 lo : Nat) : Int) < 0), if_neg (by omega : ¬ ((HT.sIx z.length z.length hi : Nat) : Int) < 0), if_neg (by omega)]
      rfl
    rw [e2]
    rfl
theorem part_of {v : Value} {o : Option Int} (p : IsPart v o) : ∃ q : Option (Int × Tok), v = partValue q ∧ q.map (·.1) = o := by
  cases p with
  | none => exact ⟨none, rfl, rfl⟩
  | int i t => exact ⟨some (i, t), rfl, rfl⟩
theorem sl_str : SlR X rSlS := by
  intro pins s σ H x v vl vu lo hi sl Q I rx hs pl pu h
  obtain ⟨z, rfl, hz, q⟩ := h
  obtain ⟨t, rfl⟩ := rx
  obtain ⟨ql, rfl, el⟩ := part_of pl
  obtain ⟨qu, rfl, eu⟩ := part_of pu
  refine ⟨"str", _, F.slot_str_getitem.lookup, typeIs_str _ _ _, ?_⟩
  refine wpAny_getItem_str_slice (l := ql) (u := qu) (st := none) hs rfl ?_
  have ep : (slicePicked z ql qu none).filterMap (z.cps[·]?) = (z.cps.toList.drop (HT.sIx z.length 0 lo)).take (HT.sIx z.length z.length hi - HT.sIx z.length 0 lo) := by
    unfold slicePicked
    rw [el, eu]
    exact slice_cut z lo hi
  have em : (⟨((slicePicked z ql qu none).filterMap (z.cps[·]?)).toArray⟩ : Str) = cutS z lo hi := by
    rw [ep]; rfl
  unfold sliceMade
  split
  · rename_i hw
    have hl : (slicePicked z ql qu none).length = z.length := by
      rw [Bool.and_eq_true] at hw
      exact beq_iff_eq.mp hw.2
    have hc : cutS z lo hi = z := by
      have h1 : (slicePicked z ql qu none) = Builtin.Str.strSliceIndices (some ((HT.sIx z.length 0 lo : Nat) : Int)) (some ((HT.sIx z.length z.length hi : Nat) : Int)) 1 z.length := by
        unfold slicePicked
        rw [el, eu]
        exact slice_idx lo hi z.length
      have a2 := HT.sIx_le z.length z.length (Nat.le_refl _) hi
      have a1 := HT.sIx_le z.length 0 (Nat.zero_le _) lo
      have hz0 : HT.sIx z.length 0 lo ≤ HT.sIx z.length z.length hi ∨ z.length = 0 := by
        by_cases hle : HT.sIx z.length 0 lo ≤ HT.sIx z.length z.length hi
        · exact .inl hle
        · right
          rw [h1] at hl
          have e2 : Builtin.Str.strSliceIndices (some ((HT.sIx z.length 0 lo : Nat) : Int)) (some ((HT.sIx z.length z.length hi : Nat) : Int)) 1 z.length = [] := by
            simp only [Builtin.Str.strSliceIndices, sliceRange, show ((1 : Int) > 0) = True from by simp, if_true]
            rw [if_neg (by omega : ¬ ((HT.sIx z.length 0 lo : Nat) : Int) < 0), if_neg (by omega : ¬ ((HT.sIx z.length z.length hi : Nat) : Int) < 0), if_neg (by omega)]
            rfl
          rw [e2] at hl
          exact hl.symm
      unfold cutS
      rcases hz0 with hle | h0
      · rw [h1, StrLaws.strSliceIndices_plain hle a2, List.length_map, List.length_range] at hl
        have b1 : HT.sIx z.length 0 lo = 0 := by omega
        have b2 : HT.sIx z.length z.length hi = z.length := by omega
        rw [b1, b2, List.drop_zero, Nat.sub_zero, ← str_len, List.take_length]
        all_goals rfl
      · have hcz : z.cps = #[] := Array.eq_empty_of_size_eq_zero h0
        obtain ⟨zc⟩ := z
        dsimp only at hcz
        subst hcz
        simp
    rw [hc] at q
    exact ⟨.str z, H, I, ⟨_, rfl⟩, q⟩
  · show Str.length _ ≤ sizeLine ∧ _
    rw [em]
    exact ⟨Nat.le_trans (cutS_length z lo hi) hz, .str (cutS z lo hi), H, I.tok _, ⟨_, rfl⟩, q⟩
theorem turn_asc {P : Program} {w : World} {K : PySem.W.Frag} {tg : Expr} (z : Str) (t : Tok) (it : Addr) : Turn P w K tg (Its z) [it] it (fun i h => h.IsStrIter it "str_ascii_iterator" z t i) where
  mem := by simp
  obj := fun i h st b hb => by
    have e : b = it := by simpa using hb
    subst e
    obtain ⟨o, e, c, d⟩ := st
    exact ⟨o, e, fun v z => by rw [d] at z; cases z⟩
  keep := fun i h h' st k => let ⟨o, ho, r⟩ := st; ⟨o, k it (by simp) o ho, r⟩
  item := by
    intro X hP hw hK hc i pins s σ H E I hf st hg
    subst hP hw hK
    have hlt : i < z.cps.toList.length := by rw [str_len]; exact hg
    obtain ⟨f0, f1, f2, f3, f4, f5⟩ := hf it (by simp)
    have hx : z.cps.toList[i]? = some z.cps.toList[i] := List.getElem?_eq_getElem hlt
    refine wpAny_pyNext_ascii_item st (c := z.cps.toList[i]) (by simpa using hx) fun h' st' sb => ?_
    have I1 : Inv X pins σ H { s with heap := h', toks := s.toks + 1 } := I.turned (t' := s.toks + 1) (fun b o hb e => (sb.2 b hb).trans e) f0 f1 f3 f4 f5
    obtain ⟨o, e, c, d⟩ := id st'
    exact ⟨_, rfl, go_of (s := { s with heap := h', toks := s.toks + 1 }) e c d (by decide) ⟨.str ⟨#[z.cps.toList[i]]⟩, H, I1, ⟨_, rfl⟩, ⟨rfl, _, hx, rfl⟩, st', fun b hb => (hf b hb).1⟩⟩
  done := by
    intro X hP hw hK hc i pins s σ H E I hf st hg
    subst hP hw hK
    have hge : z.cps.toList.length ≤ i := by rw [str_len]; exact hg
    obtain ⟨f0, f1, f2, f3, f4, f5⟩ := hf it (by simp)
    exact wpAny_pyNext_ascii_end (I.ok.hd hc) st (by simpa using hge) fun h' eb => ⟨rfl, I.turned (t' := s.toks) (fun b o hb e => eb b o hb e) f0 f1 f3 f4 f5⟩
  self := fun _ _ _ _ _ st h => wpAny_pyIter_striter_ascii st h
theorem turn_wide {P : Program} {w : World} {K : PySem.W.Frag} {tg : Expr} (z : Str) (t : Tok) (it : Addr) : Turn P w K tg (Its z) [it] it (fun i h => h.IsStrIter it "str_iterator" z t i) where
  mem := by simp
  obj := fun i h st b hb => by
    have e : b = it := by simpa using hb
    subst e
    obtain ⟨o, e, c, d⟩ := st
    exact ⟨o, e, fun v z => by rw [d] at z; cases z⟩
  keep := fun i h h' st k => let ⟨o, ho, r⟩ := st; ⟨o, k it (by simp) o ho, r⟩
  item := by
    intro X hP hw hK hc i pins s σ H E I hf st hg
    subst hP hw hK
    have hlt : i < z.cps.toList.length := by rw [str_len]; exact hg
    obtain ⟨f0, f1, f2, f3, f4, f5⟩ := hf it (by simp)
    have hx : z.cps.toList[i]? = some z.cps.toList[i] := List.getElem?_eq_getElem hlt
    refine wpAny_pyNext_wide_item st (c := z.cps.toList[i]) (by simpa using hx) fun h' st' sb => ?_
    have I1 : Inv X pins σ H { s with heap := h', toks := s.toks + 1 } := I.turned (t' := s.toks + 1) (fun b o hb e => (sb.2 b hb).trans e) f0 f1 f3 f4 f5
    obtain ⟨o, e, c, d⟩ := id st'
    exact ⟨_, rfl, go_of (s := { s with heap := h', toks := s.toks + 1 }) e c d (by decide) ⟨.str ⟨#[z.cps.toList[i]]⟩, H, I1, ⟨_, rfl⟩, ⟨rfl, _, hx, rfl⟩, st', fun b hb => (hf b hb).1⟩⟩
  done := by
    intro X hP hw hK hc i pins s σ H E I hf st hg
    subst hP hw hK
    have hge : z.cps.toList.length ≤ i := by rw [str_len]; exact hg
    obtain ⟨f0, f1, f2, f3, f4, f5⟩ := hf it (by simp)
    exact wpAny_pyNext_wide_end (I.ok.hd hc) st (by simpa using hge) fun h' eb => ⟨rfl, I.turned (t' := s.toks) (fun b o hb e => eb b o hb e) f0 f1 f3 f4 f5⟩
  self := fun _ _ _ _ _ st h => wpAny_pyIter_striter_wide st h
theorem pi_str {tg l : Expr} {tl : TE} (hl : PE X l tl) : PI X tg l (iStr tl) := by
  intro pins s σ H R I h
  refine thn (hl pins s σ H _ I h) fun v s1 ⟨x, H1, I1, r1, q1⟩ => ?_
  obtain ⟨z, rfl, q⟩ := q1
  obtain ⟨t, rfl⟩ := r1
  have ff : ∀ b ∈ [s1.heap.objs.size], FpOk X pins H1 b := fun b hb => by
    have e : b = s1.heap.objs.size := by simpa using hb
    subst e
    exact I1.fpOk (Nat.le_refl _) (I1.hok.fresh (Nat.le_refl _))
  cases ha : z.cps.all (· < 128) with
  | false =>
    refine wpAny_pyIter_wide ha ?_
    exact ⟨s1.heap.objs.size, [s1.heap.objs.size], _, _, H1, rfl, I1.kept (t' := s1.toks) fun b o e => Heap.get?_push_of_some _ e, turn_wide z t _, ⟨_, Heap.get?_push_size _ rfl, rfl, rfl⟩, ff, q⟩
  | true =>
    refine wpAny_pyIter_ascii ha ?_
    exact ⟨s1.heap.objs.size, [s1.heap.objs.size], _, _, H1, rfl, I1.kept (t' := s1.toks) fun b o e => Heap.get?_push_of_some _ e, turn_asc z t _, ⟨_, Heap.get?_push_size _ rfl, rfl, rfl⟩, ff, q⟩
theorem all_range (bs : List Bool) : ((List.range bs.length).all fun i => bs.getD i true) = bs.all id := by
  have e : (List.range bs.length).map (fun i => bs.getD i true) = bs := by
    apply List.ext_getElem
    · simp
    · intro i h1 h2
      simp [List.getD_eq_getElem?_getD, h2]
  conv => rhs; rw [← e]
  rw [List.all_map]
  rfl
theorem vals_bl : ∀ {bs : List Bool} {us : List Value} {i : Nat} {v : Value}, Vals (bs.map V.bl) us → us[i]? = some v → v = .bool (bs.getD i true)
  | [], _, i, v, .nil, h => by simp at h
  | b :: bs, _, 0, v, .cons r t, h => by
    simp at h
    subst h
    exact r
  | b :: bs, _, i + 1, v, .cons r t, h => by
    have := vals_bl (i := i) t (by simpa using h)
    simpa using this
theorem call_all (hc : X.calm = true) : CallR X (.builtin "all") (cAll X.K) := by
  intro pins s σ H xs us Q I r h
  obtain ⟨p, bs, rfl, hp, q⟩ := h
  obtain ⟨u, rfl, rx⟩ := vals1 r
  cases rx
  obtain ⟨its, rv, pl, hz⟩ := I.list hp
  have hlen := rv.length
  rw [List.length_map] at hlen
  have hpl : p < s.heap.objs.size := by
    obtain ⟨o, ho, _⟩ := pl.isList
    exact Heap.lt_size ho
  refine call_all_walk (wpAny_pyIter_list pl.isList ?_)
  refine ⟨s.heap.objs.size, _, _, _, _, _, fun i => bs.getD i true, rfl, Walks.list (by show X.A.in1.handled = none; exact I.ok.hd hc) s.heap.objs.size p (Nat.ne_of_lt hpl) its.toArray, ⟨⟨_, Heap.get?_push_size _ rfl, rfl, rfl⟩, pl.isList.at fun o e => Heap.get?_push_of_some _ e⟩, ?_, fun h' tk hk => ?_⟩
  · intro i v s' Q' E' hv hq
    have e : v = .bool (bs.getD i true) := vals_bl rv (by simpa using hv)
    subst e
    exact wpAny_truthy_bool hq
  · have I1 : Inv X pins σ H { s with heap := h', toks := tk } := I.kept (t' := tk) fun b o e => hk b o (by simpa using Nat.ne_of_lt (Heap.lt_size e)) (Heap.get?_push_of_some _ e)
    refine ⟨.bl (bs.all id), H, I1, ?_, q⟩
    rw [List.size_toArray, ← hlen, all_range]
    rfl
def GC (mg : Str → Option Value) (x : Str) (v : V) : Prop := ∃ u, mg x = some u ∧ RelV v u
theorem GC.pe {x : Str} {v : V} {pos : Pos} (h : GC X.mg x v) (hg : Gl X x) (hd : (x == ("__debug__" : Str)) = false := by decide) : PE X (.Name x pos) (tC v) := by
  obtain ⟨u, hm, r⟩ := h
  exact pe_glob hg hm r hd
end
end G
namespace G
open PySem L2 PySem.Spec PyProof.Rows
theorem num_len {i : Int} (h0 : 0 ≤ i) (h1 : i < 10 ^ 61) : 1 ≤ (Str.ofString (toString i)).length ∧ (Str.ofString (toString i)).length ≤ 61 := by
  refine ⟨?_, toString_length_le h0 (by decide) h1⟩
  obtain ⟨m, rfl⟩ := Int.eq_ofNat_of_zero_le h0
  have e := PySem.W.KIN.signs_num m
  have e2 : ((Str.ofString (toString ((m : Nat) : Int))).cps.toList).length = (Nat.toDigits 10 m).length := by rw [e, List.length_map]
  rw [str_len] at e2
  rw [e2]
  cases hd : Nat.toDigits 10 m with
  | nil => exact absurd hd Nat.toDigits_ne_nil
  | cons a l => rw [List.length_cons]; omega
theorem dval_nat (l : List Nat) (h : ∀ c ∈ l, 48 ≤ c ∧ c ≤ 57) : ∀ (a : Nat), l.foldl (fun (v : Int) (c : Nat) => v * 10 + ((c : Int) - 48)) (a : Int) = ((l.foldl (fun acc c => acc * 10 + (c - 48)) a : Nat) : Int) := by
  induction l with
  | nil => intro a; rfl
  | cons c l ih =>
    intro a
    have hc := h c List.mem_cons_self
    rw [List.foldl_cons, List.foldl_cons, ← ih (fun d hd => h d (List.mem_cons_of_mem _ hd))]
    congr 1
    omega
section
variable {X : Cx}
theorem call_strI : CallR X (.type "str") cStrI := call_str_int
theorem call_intS : CallR X (.type "int") cIntS := by
  intro pins s σ H xs us Q I r h
  obtain ⟨z, rfl, h1, h2, h3, q⟩ := h
  obtain ⟨u, rfl, t, rfl⟩ := vals1 r
  have hne : z.cps.toList ≠ [] := fun e => by
    have := str_len z
    rw [e] at this
    simp at this
    omega
  have hv := PySem.intText_digits (x := z) h3 hne (by omega)
  have ev : ((NumText.digitsVal z.cps.toList : Nat) : Int) = dval z.cps.toList := (dval_nat _ h3 0).symm
  rw [ev] at hv
  exact PySem.W.KIN.call_text hv h2 ⟨.int (dval z.cps.toList), H, I.tok _, ⟨_, rfl⟩, q⟩
theorem CMulB.ok {i j : Int} (h : CMulB i j) : IntMulOk i j := by
  rcases h with h | ⟨h1, h2⟩
  · exact h.ok
  · have bits : ∀ k : Int, k.natAbs < 2 ^ 256 → Builtin.Int.intBits k ≤ 2 ^ 20 := fun k hk => by
      unfold Builtin.Int.intBits
      split
      · exact Nat.zero_le _
      · rename_i hn
        have hk0 : k.natAbs ≠ 0 := fun e => hn (by simpa using e)
        have := (Nat.log2_lt hk0).mpr hk
        omega
    exact IntMulOk.of_bits (bits i h1) (bits j h2)
theorem op_mulB : OpR X (binaryOp .Mult) (rI CMulB fun i j => .int (i * j)) := opI fun _ _ _ _ _ _ _ hc q => mul_int q hc.ok
theorem mt_startswith : MtR X "str.startswith" r_startswith := by
  intro pins s σ H x xs v us Q I rx rs h
  obtain ⟨z, c, rfl, rfl, q⟩ := h
  obtain ⟨t, rfl⟩ := rx
  obtain ⟨u, rfl, t', rfl⟩ := Vals.one rs
  refine SC.startswith ⟨.bl (decide (z.cps.toList[0]? = some c)), H, I, ?_, q⟩
  show Value.bool _ = Value.bool _
  congr 1
  unfold Txt.startswith
  rw [Bool.eq_iff_iff, Bool.and_eq_true, decide_eq_true_eq, sub_one, decide_eq_true_eq]
  constructor
  · exact fun e => e.2
  · intro e
    refine ⟨?_, e⟩
    have := (List.getElem?_eq_some_iff.mp e).1
    rw [str_len] at this
    exact this
end
end G
namespace G
open PySem L2
theorem i_strI {i : Int} {H : Hp} {Q : VK} (h0 : 0 ≤ i) (h1 : i < 10 ^ 61) (h : ∀ t : Str, t = Str.ofString (toString i) → 1 ≤ t.length → t.length ≤ 61 → Q (.str t) H) : cStrI [.int i] H Q :=
  ⟨i, rfl, log2_ok h0 h1, h _ rfl (num_len h0 h1).1 (num_len h0 h1).2⟩
end G
namespace G
open PySem L2 PySem.Spec PyProof.Rows
section
variable {X : Cx} {pins : List (Addr × Obj)} {σ : L2.St} {H : Hp} {s : Shared} {acc : Addr} {ys : List V} {its : List Value} {n : Nat}
theorem adopt (I : Inv X pins σ H s) (hf : FpOk X pins H acc) (ho : s.heap.get? acc = some { cls := .type "list", data := .seq its.toArray n }) (hv : Vals ys its) (hz : ys.length ≤ sizeLine) : Inv X pins σ (upd H acc (.lst ys)) s := by
  obtain ⟨f0, f1, f2, f3, f4, f5⟩ := hf
  have ne : ∀ b u, H b = some u → b ≠ acc := fun b u e => ne_of_none e f0
  refine I.step (h' := s.heap) (g' := s.gens) (t' := s.toks) (d' := s.drawn) (ch := [acc]) (fun b hb => ?_) (fun _ _ _ _ _ e _ => e) (fun b o _ _ _ e _ => ⟨o.slots, e⟩) (fun b o hb e h0 => ?_) (fun b o _ e => ⟨o, e⟩)
    (fun b xs e => by rw [upd_ne (ne b _ e)]; exact e) (fun b o u e => by rw [upd_ne (ne b _ e)]; exact e) (fun b ps e => ⟨#[], by rw [upd_ne (ne b _ e), e]; simp⟩) (fun m hm => hm) (fun b u e => ?_) I.bare
  · have e : b = acc := by simpa using hb
    subst e
    exact ⟨f3, f1, f4, f5⟩
  · have e : b ≠ acc := by simpa using hb
    rw [upd_ne e]; exact h0
  · by_cases hb : b = acc
    · subst hb
      rw [upd_same] at e; cases e
      exact ⟨hz, its, n, hv, ho⟩
    · rw [upd_ne hb] at e
      exact (I.hok b u e).stay (fun _ _ _ q => q) (fun c q => by rw [upd_ne (ne c _ q)]; exact q) fun c xs q => by rw [upd_ne (ne c _ q)]; exact q
theorem disown (I : Inv X pins σ (upd H acc (.lst ys)) s) (hf : FpOk X pins H acc) : Inv X pins σ H s := by
  obtain ⟨f0, f1, f2, f3, f4, f5⟩ := hf
  have back : ∀ b u, upd H acc (.lst ys) b = some u → u ≠ .lst ys → H b = some u := fun b u e hne => by
    by_cases hb : b = acc
    · subst hb
      rw [upd_same] at e; cases e; exact absurd rfl hne
    · rw [upd_ne hb] at e; exact e
  refine I.step (h' := s.heap) (g' := s.gens) (t' := s.toks) (d' := s.drawn) (ch := [acc]) (fun b hb => ?_) (fun _ _ _ _ _ e _ => e) (fun b o _ _ _ e _ => ⟨o.slots, e⟩) (fun b o hb e h0 => ?_) (fun b o _ e => ⟨o, e⟩)
    (fun b xs e => back b _ e (fun z => nomatch z)) (fun b o u e => back b _ e (fun z => nomatch z)) (fun b ps e => ⟨#[], by rw [back b _ e (fun z => nomatch z)]; simp⟩) (fun m hm => hm) (fun b u e => ?_) I.bare
  · have e : b = acc := by simpa using hb
    subst e
    exact ⟨f3, f1, f4, f5⟩
  · have e : b ≠ acc := by simpa using hb
    rw [upd_ne e] at h0; exact h0
  · have hb : b ≠ acc := ne_of_none e f0
    have e' : upd H acc (.lst ys) b = some u := by rw [upd_ne hb]; exact e
    exact (I.hok b u e').stay (fun _ _ _ q => q) (fun c q => back c _ q (fun z => nomatch z)) fun c xs q => back c _ q (fun z => nomatch z)
end
def PF (X : Cx) (ifs : List Expr) (t : TT) : Prop :=
  ∀ (pins : List (Addr × Obj)) (s : Shared) (σ : L2.St) (H : Hp) (Q : Bool → Hp → Prop), Inv X pins σ H s → t σ H Q →
    wpAny (model X.prog X.w) X.A (forIn ifs true fun c r => if r = true then do let ok ← isTrue c X.env (eval c X.env); pure (ForInStep.yield ok) else pure (ForInStep.yield r)) (TP X pins σ Q) X.xe s
theorem pf_nil {X : Cx} : PF X [] tTrue := fun _ _ _ H _ I h => wpAny_tests_nil ⟨H, I, h⟩
def cxLC (X : Cx) (scope : Scope) (cl : List (Str × Addr)) (N : List Str) (C : Addr) (s : Shared) (H : Hp) (ex : List Addr) (pn : List (Addr × Obj)) : Cx :=
  { X with N := N, s₀ := s, H₀ := H, env := compEnvC scope cl C X.env, outer := X.stack, ex := ex, fn := fun _ => false, pn := pn, xe := fun _ _ => False }
def AllIn (cells : List (Str × Addr)) : List (Str × Addr) → Prop
  | [] => True
  | p :: r => cells.lookup p.1 = some p.2 ∧ AllIn cells r
theorem AllIn.get {cells : List (Str × Addr)} : ∀ {cl : List (Str × Addr)}, AllIn cells cl → ∀ {x : Str} {c : Addr}, cl.lookup x = some c → cells.lookup x = some c
  | [], _, x, c, h => by cases h
  | (y, d) :: r, a, x, c, h => by
    cases e : (x == y) with
    | true =>
      rw [List.lookup_cons, e] at h
      have e' : x = y := beq_iff_eq.mp e
      subst e'
      cases h
      exact a.1
    | false =>
      rw [List.lookup_cons, e] at h
      exact AllIn.get a.2 h
def CapOk (X : Cx) : List Str → List Nat → Prop
  | [], [] => True
  | y :: r, j :: js => X.N[j]? = some y ∧ X.env.kindOf y = some .cell ∧ CapOk X r js
  | _, _ => False
theorem CapOk.len {X : Cx} : ∀ {ns : List Str} {js : List Nat}, CapOk X ns js → ns.length = js.length
  | [], [], _ => rfl
  | [], _ :: _, h => h.elim
  | _ :: _, [], h => h.elim
  | _ :: r, _ :: js, h => by rw [List.length_cons, List.length_cons, CapOk.len h.2.2]
theorem CapOk.get {X : Cx} {σ : L2.St} : ∀ {ns : List Str} {js : List Nat}, CapOk X ns js → ∀ {i : Nat} {x : Str} {v : V}, ns[i]? = some x → (js.map (pick σ))[i]? = some (some v) → ∃ j : Nat, X.N[j]? = some x ∧ X.env.kindOf x = some .cell ∧ σ[j]? = some (some v)
  | [], _, _, i, x, v, h, _ => by simp at h
  | _ :: _, [], h, _, _, _, _, _ => h.elim
  | y :: r, j :: js, h, 0, x, v, h1, h2 => by
    simp at h1 h2
    subst h1
    refine ⟨j, h.1, h.2.1, ?_⟩
    unfold pick at h2
    split at h2
    · rename_i e; rw [e, h2]
    · cases h2
  | y :: r, j :: js, h, i + 1, x, v, h1, h2 => CapOk.get (i := i) h.2.2 (by simpa using h1) (by simpa using h2)
theorem lk_ne {x n : Str} {k : NameKind} {r : List (Str × NameKind)} (h : (x == n) = false) : List.lookup x ((n, k) :: r) = List.lookup x r := by rw [List.lookup_cons, h]
theorem lk_eq {x n : Str} {k : NameKind} {r : List (Str × NameKind)} (h : (x == n) = true) : List.lookup x ((n, k) :: r) = some k := by rw [List.lookup_cons, h]
def relK (env : Env) (x : Str) (k : NameKind) : NameKind := if (k == NameKind.free && env.scope.kind == .function && env.kindOf x == some .cell) = true then .cell else k
theorem lookup_relabel {env : Env} {x : Str} : ∀ {names : List (Str × NameKind)},
    (names.map fun (n, k) => if (k == NameKind.free && env.scope.kind == .function && env.kindOf n == some .cell) then (n, NameKind.cell) else (n, k)).lookup x = (names.lookup x).map (relK env x)
  | [] => rfl
  | (n, k') :: r => by
    have ih := @lookup_relabel env x r
    show List.lookup x ((if (k' == NameKind.free && env.scope.kind == .function && env.kindOf n == some .cell) = true then (n, NameKind.cell) else (n, k')) :: r.map fun (n, k) => if (k == NameKind.free && env.scope.kind == .function && env.kindOf n == some .cell) then (n, NameKind.cell) else (n, k)) = _
    cases hx : x == n with
    | true =>
      have e := beq_iff_eq.mp hx
      subst e
      rw [lk_eq (k := k') hx]
      by_cases hc : (k' == NameKind.free && env.scope.kind == .function && env.kindOf x == some .cell) = true
      · rw [if_pos hc, lk_eq hx]
        show some NameKind.cell = some (relK env x k')
        unfold relK; rw [if_pos hc]
      · rw [if_neg hc, lk_eq hx]
        show some k' = some (relK env x k')
        unfold relK; rw [if_neg hc]
    | false =>
      rw [lk_ne (k := k') (r := r) hx]
      by_cases hc : (k' == NameKind.free && env.scope.kind == .function && env.kindOf n == some .cell) = true
      · rw [if_pos hc, lk_ne hx]; exact ih
      · rw [if_neg hc, lk_ne hx]; exact ih
theorem lookup_all {names : List (Str × NameKind)} {p : Str × NameKind → Bool} : ∀ {x : Str} {k : NameKind}, names.all p = true → names.lookup x = some k → p (x, k) = true := by
  induction names with
  | nil => intro x k _ h; simp at h
  | cons y r ih =>
    intro x k ha h
    obtain ⟨n, k'⟩ := y
    rw [List.all_cons, Bool.and_eq_true] at ha
    cases hx : x == n with
    | true =>
      rw [List.lookup_cons, hx] at h
      have e1 : x = n := beq_iff_eq.mp hx
      have e2 : k' = k := Option.some.inj h
      rw [e1, ← e2]; exact ha.1
    | false =>
      rw [List.lookup_cons, hx] at h
      exact ih ha.2 h
theorem compLoop_go {prog : Program} {w : World} {A : Around} {R : Result → Shared → Prop} {s : Shared} {elt target iter : Expr} {ifs : List Expr} {scope : Scope} {pos : Pos} {it acc : Value} {env : Env} (I : Nat → Shared → Prop)
    (turn : ∀ n s, I n s → wpAny (model prog w) A (pyNext it) (fun r s₁ => match r with
      | none => R (.ok .next) s₁
      | some v => wpAny (model prog w) A (letOwnedTupleGo target it v) (fun _ s₁' => wpAny (model prog w) A (assign target env v) (fun _ s₂ =>
          wpAny (model prog w) A (forIn ifs true fun c r => if r = true then do let ok ← isTrue c env (eval c env); pure (ForInStep.yield ok) else pure (ForInStep.yield r)) (fun ok s₃ =>
            if ok = true then wpAny (model prog w) A (eval elt env) (fun x s₄ =>
              wpAny (model prog w) A (call (.builtin "list.append") [acc, x]) (fun _ s₅ => ∃ m, m < n ∧ I m s₅) (fun _ _ => False) s₄) (fun _ _ => False) s₃
            else ∃ m, m < n ∧ I m s₃) (fun _ _ => False) s₂) (fun _ _ => False) s₁') (fun _ _ => False) s₁) (fun _ _ => False) s)
    (n : Nat) (h : I n s) :
    codeAny (model prog w) A (.compLoop (.ListComp elt [⟨target, iter, ifs, 0⟩] scope pos) 0 it acc env) R s := by
  refine codeAny_loop rfl I (fun n s hI => ?_) n h
  show wpAny _ A ((compTurn (.ListComp elt [⟨target, iter, ifs, 0⟩] scope pos) 0 it acc env).onRaise (fun x => do noteFrame x env; theTreesLotGoes x)) _ _ s
  refine wpAny_noted ?_
  rw [compTurn_list]
  refine wpAny_bind (wpAny_standAt (wpAny_bind (wpAny_mono (turn n s hI) (fun r s₁ h₁ => ?_) fun _ _ h' => h'.elim)))
  cases r with
  | none => exact wpAny_pure h₁
  | some v =>
    refine wpAny_bind (wpAny_mono h₁ (fun _ s₁' h₁' => ?_) fun _ _ h' => h'.elim)
    refine wpAny_bind (wpAny_mono h₁' (fun _ s₂ h₂ => wpAny_bind (wpAny_mono h₂ (fun ok s₃ h₃ => ?_) fun _ _ h' => h'.elim)) fun _ _ h' => h'.elim)
    cases ok with
    | false => exact wpAny_pure ⟨rfl, h₃⟩
    | true =>
      exact wpAny_bind (wpAny_bind (wpAny_mono h₃ (fun x s₄ h₄ => wpAny_bind (wpAny_mono h₄ (fun _ s₅ h₅ => wpAny_pure (wpAny_pure ⟨rfl, h₅⟩)) fun _ _ h' => h'.elim)) fun _ _ h' => h'.elim))
theorem lc_core {X : Cx} {elt iter tg : Expr} {pos : Pos} {ifs : List Expr} {scope : Scope} {cl : List (Str × Addr)} {wi : TI} {tc : TT} {te : TE} {cns : List Str} {ns : List Str} {gt : TG} {R : It → L2.St → Hp → VK → Prop} {use : Option (Value → Sem Unit)} {Q0 : Value → Shared → Prop} {pins : List (Addr × Obj)} {s : Shared} {σ : L2.St} {H : Hp} {Q : VK} (caps : List Nat)
    (hR : ∀ J σ H Q, R J σ H Q → ∃ W : Nat → Nat → List V → Hp → Prop, (∃ m, W 0 m [] H) ∧ ∀ i m ys H, W i m ys H →
      (J.stop i H ∧ ∀ p, H p = none → Q (.ref p) (upd H p (.lst ys))) ∨
      (J.go i H ∧ ys.length < sizeLine ∧ ∀ x H', J.yld i H x H' → ∀ vs : L2.St, vs.length = ns.length → ∃ us : L2.St, us.length = ns.length ∧ gt x (vs ++ caps.map (pick σ)) H' (fun σ2 H2 => σ2 = us ++ caps.map (pick σ) ∧ H2 = H') ∧ tc (us ++ caps.map (pick σ)) H' fun k H2 => if k = true then te (us ++ caps.map (pick σ)) H2 (fun y H3 => ∃ m', m' < m ∧ W (i + 1) m' (ys ++ [y]) H3) else ∃ m', m' < m ∧ W (i + 1) m' ys H2))
    (hi : PI X tg iter wi) (hg : ∀ C s H ex pn, PG (cxLC X scope cl (ns ++ cns) C s H ex pn) tg gt)
    (hf : ∀ C s H ex pn, PF (cxLC X scope cl (ns ++ cns) C s H ex pn) ifs tc) (he : ∀ C s H ex pn, PE (cxLC X scope cl (ns ++ cns) C s H ex pn) elt te) (hc : X.calm = true)
    (hclos : closureFor scope X.env = pure cl) (hcl : AllIn X.env.cells cl) (hcap : CapOk X cns caps)
    (hkind : scope.kind = .function) (hcell : (scope.names.all fun p => p.2 != .cell) = true) (hfree : (scope.names.all fun p => p.2 != .free || (cl.lookup p.1).isSome) = true)
    (hcf : (cns.all fun y => scope.names.lookup y == some .free) = true) (hnames : ∀ y ∈ scope.names, y.2 = .local → scope.names.lookup y.1 = some .local)
    (hs : ∀ v, foldedSetIterable iter X.env v = pure v)
    (I : Inv X pins σ H s) (h : wi σ H fun J H1 => R J σ H1 Q)
    (hend : ∀ (acc C : Addr) (s6 : Shared) (m : Str → Option Value) r0, s6.heap.Ns C m → (∀ {Hf : Hp}, Hf C = none → FpOk X pins Hf C) → (∀ h', Heap.SameBut C s6.heap h' → EP X pins σ (fun v Hf => Q v Hf ∧ Hf C = none) (.ref acc) { s6 with heap := h' }) → compPost (model X.prog X.w) X.A X.xe use Q0 (.ref acc) C (.ok r0) s6) :
    wpAny (model X.prog X.w) X.A (comprehension (.ListComp elt [⟨tg, iter, ifs, 0⟩] scope pos) scope X.env (firstIterPos [⟨tg, iter, ifs, 0⟩] pos) (newList []) (firstAsync [⟨tg, iter, ifs, 0⟩]) (firstIter [⟨tg, iter, ifs, 0⟩] X.env) use) Q0 X.xe s := by
  refine wpAny_comprehension_free rfl hs hclos hkind hnames (thn (hi pins s σ H _ I h) fun xv s1 h1 => thn h1 fun itv s2 h2 => ?_)
  obtain ⟨it, fp, tn, J, H2, rfl, I2, T, st2, f2, hr⟩ := h2
  obtain ⟨W, ⟨m0, w0⟩, turn⟩ := hR _ _ _ _ hr
  have hne : ∀ y ∈ scope.names, y.2 ≠ .cell := fun y hy e => by
    have := List.all_eq_true.mp hcell y hy
    rw [e] at this; simp at this
  refine wpAny_newObj_type (wpAny_newFunctionEnv hne (by intro y hy; simp at hy) (fun h₁ hns₁ hsb₁ => ?_) hkind)
  dsimp only at hns₁ hsb₁ ⊢
  generalize hacc : s2.heap.objs.size = acc
  generalize hH3 : s2.heap.push { cls := .type "list", dict := none, data := .seq ([] : List Value).toArray } = h3 at hns₁ hsb₁ ⊢
  have hC : h3.objs.size = acc + 1 := by rw [← hH3, Heap.size_push, hacc]
  have k23 : ∀ b o, s2.heap.get? b = some o → h3.get? b = some o := fun b o e => hH3 ▸ Heap.get?_push_of_some _ e
  have k34 : ∀ b o, h3.get? b = some o → h₁.get? b = some o := fun b o e => hsb₁.extBut b o (Nat.ne_of_lt (Heap.lt_size e)) (Heap.get?_push_of_some _ e)
  have oacc : h3.get? acc = some { cls := .type "list", dict := none, data := .seq ([] : List Value).toArray } := by
    rw [← hH3, ← hacc]; exact Heap.get?_push_size _ rfl
  have I3 : Inv X pins σ H2 { s2 with heap := h3 } := I2.kept (t' := s2.toks) k23
  have facc : FpOk X pins H2 acc := I2.fpOk (Nat.le_of_eq hacc) (I2.hok.fresh (Nat.le_of_eq hacc))
  have fpl : ∀ b ∈ fp, b < acc := fun b hb => by
    obtain ⟨o, e, _⟩ := T.obj _ _ st2 b hb
    rw [← hacc]; exact Heap.lt_size e
  have exok : ∀ b ∈ acc :: fp, FpOk X pins H2 b := fun b hb => (List.mem_cons.mp hb).elim (fun e => e ▸ facc) (f2 b)
  have exC : ∀ b ∈ acc :: fp, b ≠ h3.objs.size := fun b hb => by
    rcases List.mem_cons.mp hb with e | hb
    · rw [hC, e]; exact Nat.ne_of_lt (Nat.lt_succ_self _)
    · rw [hC]; exact Nat.ne_of_lt (Nat.lt_succ_of_lt (fpl b hb))
  have stk_no : ∀ b ∈ acc :: fp, b ∉ frs X.stack := fun b hb hm => by
    obtain ⟨_, g1, g2, _⟩ := exok b hb
    exact (List.mem_cons.mp (I2.stkSub b hm)).elim g1 g2
  let Y : Cx := cxLC X scope cl (ns ++ cns) h3.objs.size { s2 with heap := h3 } H2 (acc :: fp) (X.pn ++ pins)
  have cellsOf : ∀ y c, cl.lookup y = some c → X.env.cells.lookup y = some c := fun y c e => hcl.get e
  have kindY : ∀ y k, Y.env.kindOf y = some k → (k = .cell ∨ k = .free) → ∃ c, cl.lookup y = some c := fun y k e hk => by
    have e0 : (scope.names.lookup y).map (relK X.env y) = some k := lookup_relabel.symm.trans e
    obtain ⟨k0, e1, e2⟩ := Option.map_eq_some_iff.mp e0
    have e3 := lookup_all hfree e1
    have e4 := lookup_all hcell e1
    by_cases hf : k0 = .free
    · subst hf
      rw [Bool.or_eq_true] at e3
      rcases e3 with e3 | e3
      · exact absurd rfl (bne_iff_ne.mp e3)
      · exact Option.isSome_iff_exists.mp e3
    · exfalso
      have e5 : relK X.env y k0 = k0 := by
        unfold relK
        rw [if_neg]
        intro z
        rw [Bool.and_eq_true, Bool.and_eq_true] at z
        exact hf (beq_iff_eq.mp z.1.1)
      rw [e5] at e2
      subst e2
      rcases hk with rfl | rfl
      · simp at e4
      · exact hf rfl
  have okY : Y.Ok := {
    mod := I2.ok.mod
    kind := hkind
    glob := I2.ok.glob
    blt := I2.ok.blt
    above := Nat.le_refl _
    inj := fun a b c e1 e2 => I2.ok.inj a b c (cellsOf _ _ e1) (cellsOf _ _ e2)
    has := fun y hy => hy.elim (fun e => kindY y _ e (.inl rfl)) (fun e => kindY y _ e (.inr rfl))
    cab := fun y c e => nomatch e
    hd := I2.ok.hd
    frames := I2.ok.frames
    stk := .inl rfl
    exf := fun b hb => ⟨exC b hb, fun y c e => (exok b hb).2.2.2.2.1 y c (cellsOf _ _ e)⟩
    bs := fun b o e => ⟨k23 b o (I2.bs b o e).1, (I2.bs b o e).2⟩
    bsz := by
      show X.base.objs.size ≤ h3.objs.size
      rw [hC, ← hacc]
      exact Nat.le_succ_of_le (Nat.le_trans I2.ok.bsz I2.sz)
    noex := fun b o e hb => by
      rcases (exok b hb).2.2.2.1 with z | z
      · exact I2.ok.noex b o e z
      · exact absurd (Nat.lt_of_lt_of_le (Heap.lt_size e) (Nat.le_trans I2.ok.bsz z)) (Nat.lt_irrefl _)
    exfs := stk_no
    funs := I3.stack
    frf := I3.stkFree }
  have lenN : (List.replicate ns.length none ++ caps.map (pick σ) : L2.St).length = (ns ++ cns).length := by rw [List.length_append, List.length_append, List.length_replicate, List.length_map, hcap.len]
  have I4 : Inv Y [] (List.replicate ns.length none ++ caps.map (pick σ)) H2 { s2 with heap := h₁, toks := s2.toks + ([] : List (Str × Value)).length } := {
    ok := okY
    os := rfl
    bare := I2.bare
    base := Un.kept k34
    loc := by
      refine ⟨_, hns₁, fun i y v e1 e2 e3 => ?_⟩
      by_cases hlt : i < ns.length
      · have e2 : (List.replicate ns.length none ++ caps.map (pick σ) : L2.St)[i]? = some (some v) := e2
        rw [List.getElem?_append_left (by rw [List.length_replicate]; exact hlt), List.getElem?_replicate, if_pos hlt] at e2
        cases e2
      · have e1' : cns[i - ns.length]? = some y := by
          have e1' : (ns ++ cns)[i]? = some y := e1
          rw [List.getElem?_append_right (by omega)] at e1'
          exact e1'
        have e2' : (caps.map (pick σ) : L2.St)[i - ns.length]? = some (some v) := by
          have e2 : (List.replicate ns.length none ++ caps.map (pick σ) : L2.St)[i]? = some (some v) := e2
          rw [List.getElem?_append_right (by rw [List.length_replicate]; omega), List.length_replicate] at e2
          exact e2
        obtain ⟨j, j1, j2, j3⟩ := hcap.get (σ := σ) (i := i - ns.length) (x := y) (v := v) e1' e2'
        obtain ⟨m, hn, hl⟩ := I2.loc
        obtain ⟨u, r, l⟩ := hl j y v j1 j3 (.inr (.inl j2))
        rcases l with ⟨l, _⟩ | ⟨_, c, l1, l2⟩
        · rw [j2] at l; cases l
        · refine ⟨u, r, .inr ?_⟩
          rcases e3 with e3 | e3 | e3
          · exfalso
            have hm : y ∈ cns := List.mem_of_getElem? e1'
            have hl : scope.names.lookup y = some .free := beq_iff_eq.mp (List.all_eq_true.mp hcf y hm)
            have e0 : (scope.names.lookup y).map (relK X.env y) = some .local := lookup_relabel.symm.trans e3
            rw [hl] at e0
            have e5 : relK X.env y .free = .local := Option.some.inj e0
            unfold relK at e5
            split at e5 <;> cases e5
          · obtain ⟨c', hc'⟩ := kindY y _ e3 (.inl rfl)
            have := cellsOf _ _ hc'
            rw [l1] at this; cases this
            exact ⟨.inl e3, c, hc', l2.keeps fun b o e => k34 _ _ (k23 _ _ e)⟩
          · obtain ⟨c', hc'⟩ := kindY y _ e3 (.inr rfl)
            have := cellsOf _ _ hc'
            rw [l1] at this; cases this
            exact ⟨.inr e3, c, hc', l2.keeps fun b o e => k34 _ _ (k23 _ _ e)⟩
    cell := fun y c e => by
      obtain ⟨v, z⟩ := I2.cell y c (cellsOf _ _ e)
      exact ⟨v, z.keeps fun b o e => k34 _ _ (k23 _ _ e)⟩
    free := I2.hok.fresh (by rw [hacc]; show acc ≤ h3.objs.size; rw [hC]; exact Nat.le_succ _)
    freeC := fun y c e => I2.freeC y c (cellsOf _ _ e)
    pin := fun p hp => by
      have hp2 : p ∈ (X.pn ++ pins) ++ [] := hp
      have hp' : p ∈ X.pn ++ pins := by rw [List.append_nil] at hp2; exact hp2
      obtain ⟨p1, p2, p3, p4, p5⟩ := I2.pin p hp'
      refine ⟨k34 _ _ (k23 _ _ p1), p2, ?_, fun hm => (List.mem_cons.mp (I2.stkSub _ hm)).elim p3 p4, p5⟩
      exact Nat.ne_of_lt (by show p.1 < h3.objs.size; exact Heap.lt_size (k23 _ _ p1))
    hok := I2.hok.kept fun b u e => k34 _ _ (k23 _ _ e)
    len := lenN }
  have fpY : ∀ {H' : Hp} {pl : List (Addr × Obj)} {b : Addr}, b ∈ acc :: fp → H' b = none → (∀ p ∈ pl, p.1 ≠ b) → FpOk Y pl H' b := fun {H' pl b} hb hn hp =>
    ⟨hn, exC b hb, stk_no b hb, .inl hb, fun y c e => (exok b hb).2.2.2.2.1 y c (cellsOf _ _ e), fun p hm => (List.mem_append.mp hm).elim (fun z => (exok b hb).2.2.2.2.2 p z) (hp p)⟩
  have fin : ∀ {σ' : L2.St} {H' : Hp} {s' : Shared} {ys : List V} {its : List Value} {kk : Nat} {pl : List (Addr × Obj)}, Inv Y pl σ' H' s' → H' acc = none → Vals ys its → ys.length ≤ sizeLine →
      s'.heap.get? acc = some { cls := .type "list", data := .seq its.toArray kk } → (∀ p, H' p = none → Q (.ref p) (upd H' p (.lst ys))) →
      ∀ h', Heap.SameBut h3.objs.size s'.heap h' → EP X pins σ (fun v Hf => Q v Hf ∧ Hf h3.objs.size = none) (.ref acc) { s' with heap := h' } := fun {σ' H' s' ys its kk pl} J ha hv hz ho hq h' hs' => by
    have hacC : acc ≠ h3.objs.size := exC acc (List.mem_cons_self)
    have keepC : ∀ b o, b ≠ h3.objs.size → s'.heap.get? b = some o → h'.get? b = some o := fun b o hb e => hs'.extBut b o hb e
    have ltC : ∀ b o, s2.heap.get? b = some o → b ≠ h3.objs.size := fun b o e => Nat.ne_of_lt (Heap.lt_size (k23 b o e))
    have hCfree : H' h3.objs.size = none := J.free
    have un : Un (frs X.stack) (acc :: fp) H2 H' s2.heap h' := {
      keep := fun b o e n hb hx => keepC b o (ltC b o e) (J.base.keep b o (k23 b o e) n hb hx)
      slot := fun b o e n hb hx => by
        obtain ⟨sl, q⟩ := J.base.slot b o (k23 b o e) n hb hx
        exact ⟨sl, keepC b _ (ltC b o e) q⟩
      free := fun b o e n hx => J.base.free b o (k23 b o e) n hx
      there := fun b o e hx => by
        obtain ⟨o', q⟩ := J.base.there b o (k23 b o e) hx
        exact ⟨o', keepC b o' (ltC b o e) q⟩
      tups := J.base.tups
      frzs := J.base.frzs
      tbls := J.base.tbls }
    have hok : HOk X.prog X.w H' h' := fun b u e => by
      refine (J.hok b u e).stay (fun c v hc q => keepC c v ?_ q) (fun _ q => q) fun _ _ q => q
      rintro rfl
      rcases hc with rfl | hc
      · rw [hCfree] at e; cases e
      · rw [hCfree] at hc; cases hc
    have I5 : Inv X pins σ H' { s' with heap := h' } := I2.call' (ch := acc :: fp) J.os un hok J.bare fun b hb => by
      obtain ⟨g0, g1, g2, g3, g4, g5⟩ := exok b hb
      exact ⟨g3, g1, g4, g5⟩
    refine ⟨.ref acc, _, adopt (acc := acc) I5 ?_ (keepC _ _ hacC ho) hv hz, rfl, hq acc ha, by rw [upd_ne hacC.symm]; exact hCfree⟩
    obtain ⟨g0, g1, g2, g3, g4, g5⟩ := facc
    exact ⟨ha, g1, g2, g3, g4, g5⟩
  have loop : codeAny (model X.prog X.w) X.A (.compLoop (.ListComp elt [⟨tg, iter, ifs, 0⟩] scope pos) 0 (.ref it) (.ref acc) Y.env) (compPost (model X.prog X.w) X.A X.xe use Q0 (.ref acc) h3.objs.size)
      { s2 with heap := h₁, toks := s2.toks + ([] : List (Str × Value)).length } := by
    refine compLoop_go (fun n s' => ∃ (i : Nat) (v : L2.St) (ys : List V) (its : List Value) (kk : Nat) (H' : Hp), v.length = ns.length ∧ Inv Y [] (v ++ caps.map (pick σ)) H' s' ∧ tn i s'.heap ∧ (∀ b ∈ fp, H' b = none) ∧ H' acc = none ∧ Vals ys its ∧ ys.length ≤ sizeLine ∧
      s'.heap.get? acc = some { cls := .type "list", data := .seq its.toArray kk } ∧ W i n ys H') ?_ m0 ⟨0, List.replicate ns.length none, [], [], 0, H2, List.length_replicate, I4, T.keep _ _ _ st2 (fun b _ o e => k34 _ _ (k23 _ _ e)), fun b hb => (f2 b hb).1, facc.1, .nil, Nat.zero_le _, k34 _ _ oacc, w0⟩
    rintro n s5 ⟨i, v, ys, its, kk, H5, lv, I5, st5, fr5, ha5, hv5, hz5, ho5, w5⟩
    have pinA : Inv Y [(acc, { cls := .type "list", data := .seq its.toArray kk })] (v ++ caps.map (pick σ)) H5 s5 := I5.pins_of fun p hp => by
      have e : p = (acc, { cls := .type "list", data := .seq its.toArray kk }) := by simpa using hp
      subst e
      exact ⟨ho5, ha5, exC acc List.mem_cons_self, stk_no acc List.mem_cons_self, fun v => by intro z; cases z⟩
    have fpA : ∀ {H' : Hp}, (∀ b ∈ fp, H' b = none) → ∀ b ∈ fp, FpOk Y [(acc, { cls := .type "list", data := .seq its.toArray kk })] H' b := fun hn b hb => fpY (List.mem_cons_of_mem _ hb) (hn b hb) fun p hp => by
      have e : p = (acc, { cls := .type "list", data := .seq its.toArray kk }) := by simpa using hp
      subst e
      exact (Nat.ne_of_lt (fpl b hb)).symm
    rcases turn i n ys H5 w5 with ⟨stop, qn⟩ | ⟨go, hlt, step⟩
    · refine thn (T.done Y rfl rfl rfl hc i _ s5 _ H5 (fun _ _ => False) pinA (fpA fr5) st5 stop) fun r s6 ⟨hr, I6⟩ => ?_
      subst hr
      obtain ⟨m, hm, _⟩ := I6.loc
      have ho6 := (I6.pin (acc, { cls := .type "list", data := .seq its.toArray kk }) (List.mem_append_right _ List.mem_cons_self)).1
      exact hend acc h3.objs.size s6 m _ hm (fun hf => I2.fpOk (by rw [hC, hacc]; exact Nat.le_succ _) hf) (fin I6 ha5 hv5 hz5 ho6 qn)
    · refine thn (T.item Y rfl rfl rfl hc i _ s5 _ H5 (fun _ _ => False) pinA (fpA fr5) st5 go) fun r s6 ⟨u, hr, h6⟩ => ?_
      subst hr
      refine thn h6 fun _ s7 ⟨z, H7, I7, r7, y7, st7, fr7⟩ => ?_
      have I7' := I7.pinned (fpA fr7) (T.obj _ _ st7)
      obtain ⟨us, lu, hgt, step⟩ := step z H7 y7 v lv
      have pg : PG Y tg gt := hg _ _ _ _ _
      refine thn (pg _ s7 _ H7 z u (fun σ2 H2' => σ2 = us ++ caps.map (pick σ) ∧ H2' = H7) I7' r7 hgt) fun _ s8 ⟨σ8, H8, I8, e8, e8'⟩ => ?_
      subst e8 e8'
      refine thn (hf _ _ _ _ _ _ s8 _ H8 _ I8 step) fun ok s9 ⟨H9, I9, q9⟩ => ?_
      have stat : ∀ {H' : Hp} {s' : Shared} {σ' : L2.St}, Inv Y ([(acc, { cls := .type "list", data := .seq its.toArray kk })] ++ pinsAt fp s7.heap) σ' H' s' → tn (i + 1) s'.heap ∧ (∀ b ∈ fp, H' b = none) ∧ H' acc = none ∧ s'.heap.get? acc = some { cls := .type "list", data := .seq its.toArray kk } := fun {H' s' σ'} J => by
        have pa := J.pin (acc, { cls := .type "list", data := .seq its.toArray kk }) (List.mem_append_right _ (List.mem_append_left _ List.mem_cons_self))
        refine ⟨T.keep _ _ _ st7 fun b hb o e => (J.pin (b, o) (List.mem_append_right _ (List.mem_append_right _ (mem_pinsAt hb e)))).1, fun b hb => ?_, pa.2.1, pa.1⟩
        obtain ⟨o, e, d⟩ := T.obj _ _ st7 b hb
        exact (J.pin (b, o) (List.mem_append_right _ (List.mem_append_right _ (mem_pinsAt hb e)))).2.1
      have nopin : ∀ {H' : Hp} {s' : Shared} {σ' : L2.St} {pl : List (Addr × Obj)}, Inv Y pl σ' H' s' → Inv Y [] σ' H' s' := fun J => J.pins_of fun p hp => nomatch hp
      cases ok with
      | false =>
        obtain ⟨m', hm, w9⟩ := q9
        obtain ⟨t1, t2, t3, t4⟩ := stat I9
        exact ⟨m', hm, i + 1, us, ys, its, kk, H9, lu, nopin I9, t1, t2, t3, hv5, hz5, t4, w9⟩
      | true =>
        show wpAny _ _ (eval elt Y.env) _ _ s9
        refine thn (he _ _ _ _ _ _ s9 _ H9 _ I9 q9) fun y s10 ⟨yv, H10, I10, r10, m', hm, w10⟩ => ?_
        obtain ⟨t1, t2, t3, t4⟩ := stat I10
        have I10' : Inv Y (pinsAt fp s7.heap) (us ++ caps.map (pick σ)) H10 s10 := I10.pins_of fun p hp => I10.pin p (List.mem_append_right _ (List.mem_append_right _ hp))
        have fA : FpOk Y (pinsAt fp s7.heap) H10 acc := fpY List.mem_cons_self t3 fun p hp => Nat.ne_of_lt (fpl _ (of_pinsAt hp).1)
        have Ja := adopt I10' fA t4 hv5 hz5
        refine thn (mt_append (X := Y) _ s10 _ _ (.ref acc) [yv] (.ref acc) [y] (fun _ H' => H' = upd (upd H10 acc (.lst ys)) acc (.lst (ys ++ [yv]))) Ja rfl (.cons r10 .nil) ⟨acc, ys, yv, rfl, rfl, upd_same, hlt, rfl⟩) fun _ s11 ⟨_, H11, I11, _, e11⟩ => ?_
        rw [upd_upd] at e11
        subst e11
        obtain ⟨hz11, its', kk', hv11, ho11⟩ := I11.hok acc _ upd_same
        have Jd := disown I11 fA
        have st11 : tn (i + 1) s11.heap := T.keep _ _ _ st7 fun b hb o e => (Jd.pin (b, o) (List.mem_append_right _ (mem_pinsAt hb e))).1
        exact ⟨m', hm, i + 1, us, ys ++ [yv], its', kk', H10, lu, nopin Jd, st11, t2, t3, hv11, hz11, ho11, w10⟩
  exact codeAny_compStart_list loop (T.self X.A 0 _ _ _ (T.keep _ _ _ st2 (fun b _ o e => k34 _ _ (k23 _ _ e))) loop)
theorem pe_lcG {X : Cx} {elt iter tg : Expr} {pos : Pos} {ifs : List Expr} {scope : Scope} {cl : List (Str × Addr)} {wi : TI} {tc : TT} {te : TE} {cns : List Str} {ns : List Str} {gt : TG} {R : It → L2.St → Hp → VK → Prop} (caps : List Nat)
    (hR : ∀ J σ H Q, R J σ H Q → ∃ W : Nat → Nat → List V → Hp → Prop, (∃ m, W 0 m [] H) ∧ ∀ i m ys H, W i m ys H →
      (J.stop i H ∧ ∀ p, H p = none → Q (.ref p) (upd H p (.lst ys))) ∨
      (J.go i H ∧ ys.length < sizeLine ∧ ∀ x H', J.yld i H x H' → ∀ vs : L2.St, vs.length = ns.length → ∃ us : L2.St, us.length = ns.length ∧ gt x (vs ++ caps.map (pick σ)) H' (fun σ2 H2 => σ2 = us ++ caps.map (pick σ) ∧ H2 = H') ∧ tc (us ++ caps.map (pick σ)) H' fun k H2 => if k = true then te (us ++ caps.map (pick σ)) H2 (fun y H3 => ∃ m', m' < m ∧ W (i + 1) m' (ys ++ [y]) H3) else ∃ m', m' < m ∧ W (i + 1) m' ys H2))
    (hi : PI X tg iter wi) (hg : ∀ C s H ex pn, PG (cxLC X scope cl (ns ++ cns) C s H ex pn) tg gt)
    (hf : ∀ C s H ex pn, PF (cxLC X scope cl (ns ++ cns) C s H ex pn) ifs tc) (he : ∀ C s H ex pn, PE (cxLC X scope cl (ns ++ cns) C s H ex pn) elt te) (hc : X.calm = true)
    (hclos : closureFor scope X.env = pure cl) (hcl : AllIn X.env.cells cl) (hcap : CapOk X cns caps)
    (hkind : scope.kind = .function) (hcell : (scope.names.all fun p => p.2 != .cell) = true) (hfree : (scope.names.all fun p => p.2 != .free || (cl.lookup p.1).isSome) = true)
    (hcf : (cns.all fun y => scope.names.lookup y == some .free) = true) (hnames : ∀ y ∈ scope.names, y.2 = .local → scope.names.lookup y.1 = some .local)
    (hs : ∀ v, foldedSetIterable iter X.env v = pure v) :
    PE X (.ListComp elt [⟨tg, iter, ifs, 0⟩] scope pos) (fun σ H Q => wi σ H fun J H1 => R J σ H1 Q) := by
  intro pins s σ H Q I h
  rw [eval_ListComp]
  refine lc_core caps hR hi hg hf he hc hclos hcl hcap hkind hcell hfree hcf hnames hs I h fun acc C s6 m r0 hm fC fin => ⟨m, hm, fun h' hs' => ?_⟩
  obtain ⟨v, Hf, If, rf, qf, _⟩ := fin h' hs'
  exact ⟨v, Hf, If, rf, qf⟩
theorem pe_lc {X : Cx} {elt iter : Expr} {x : Str} {px pos : Pos} {ifs : List Expr} {scope : Scope} {cl : List (Str × Addr)} {wi : TI} {tc : TT} {te : TE} {cns : List Str} (caps : List Nat)
    (hi : PI X (.Name x px) iter wi)
    (hf : ∀ C s H ex pn, PF (cxLC X scope cl (x :: cns) C s H ex pn) ifs tc) (he : ∀ C s H ex pn, PE (cxLC X scope cl (x :: cns) C s H ex pn) elt te) (hc : X.calm = true)
    (hclos : closureFor scope X.env = pure cl) (hcl : AllIn X.env.cells cl) (hcap : CapOk X cns caps)
    (hkind : scope.kind = .function) (hcell : (scope.names.all fun p => p.2 != .cell) = true) (hfree : (scope.names.all fun p => p.2 != .free || (cl.lookup p.1).isSome) = true)
    (hcf : (cns.all fun y => scope.names.lookup y == some .free) = true) (hnames : ∀ y ∈ scope.names, y.2 = .local → scope.names.lookup y.1 = some .local) (hx : scope.names.lookup x = some .local) (hnd : (x :: cns).Nodup)
    (hs : ∀ v, foldedSetIterable iter X.env v = pure v := by intro _; rfl) :
    PE X (.ListComp elt [⟨.Name x px, iter, ifs, 0⟩] scope pos) (tLC wi caps tc te) := by
  refine pe_lcG (ns := [x]) (gt := gName 0) caps (fun J σ H Q h => ?_) hi (fun C s H ex pn => pg_name hnd rfl (.inl (lookup_relabel_local hx)) (.inr (lookup_relabel_local hx))) hf he hc hclos hcl hcap hkind hcell hfree hcf hnames hs
  obtain ⟨W, w0, turn⟩ := h
  refine ⟨W, w0, fun i m ys H hw => (turn i m ys H hw).imp id fun ⟨g, l, st⟩ => ⟨g, l, fun z H' y vs hv => ?_⟩⟩
  match vs, hv with
  | [v], _ => exact ⟨[some z], rfl, ⟨rfl, rfl⟩, st z H' y⟩
end G

namespace G
open PySem L2 PySem.Spec PyProof.Rows
theorem dict_mf (o : Obj) (f) : (o.mapFields f).dict = o.dict := by
  obtain ⟨c, d, dt, sl⟩ := o; cases dt <;> rfl
structure TrD (h B : Heap) (e : Addr) (c : Value) (d : Option Addr) (fl : Value) (T : Addr) : Prop where
  ex : ∃ o vs, h.get? e = some o ∧ (o.cls = c ∧ o.dict = d) ∧ o.data = .fields vs ∧ vs[1]? = some (.ref T)
  nw : B.get? T = none
  ne : T ≠ e
  tb : ∃ o ts, h.get? T = some o ∧ o.data = .fields ts ∧ ts[3]? = some fl
structure FlD (B : Heap) (l : List Env) (e : Addr) (c : Value) (d : Option Addr) (fl : Value) (h : Heap) : Prop where
  st : B.StaysIn h
  nw : B.get? e = none
  fr : h.FunFrames B l
  tr : ∃ T, TrD h B e c d fl T
abbrev FlyD (B : Heap) (l : List Env) (e : Addr) (c : Value) (d : Option Addr) (h : Heap) : Prop := FlD B l e c d .none h
theorem FlD.there {B h : Heap} {l : List Env} {e : Addr} {c fl : Value} {d : Option Addr} (x : FlD B l e c d fl h) : ∃ ob, h.get? e = some ob ∧ ob.cls = c := by
  obtain ⟨T, ⟨o, vs, h1, h2, _⟩, _, _, _⟩ := x.tr
  exact ⟨o, h1, h2.1⟩
theorem FlD.first {B h : Heap} {l : List Env} {e : Addr} {c fl : Value} {d : Option Addr} (x : FlD B l e c d fl h) : ∃ ob vs, h.get? e = some ob ∧ ob.cls = c ∧ ob.data = .fields vs ∧ ob.dict = d := by
  obtain ⟨T, ⟨o, vs, h1, h2, h3, _⟩, _, _, _⟩ := x.tr
  exact ⟨o, vs, h1, h2.1, h3, h2.2⟩
theorem FlD.ftail {B h : Heap} {v : Env} {l : List Env} {e : Addr} {c fl : Value} {d : Option Addr} (x : FlD B (v :: l) e c d fl h) : FlD B l e c d fl h := by
  obtain ⟨_, _, k⟩ := x.fr
  exact ⟨x.st, x.nw, k, x.tr⟩
section
variable {M : Model} {A : Around} {E : Value → Shared → Prop} {s : Shared} {B : Heap} {env : Env} {outer l : List Env} {L e : Addr} {c : Value} {d : Option Addr} {Q : Unit → Shared → Prop}
theorem fld_other {h : Heap} {T : Addr} {ts : Array Value} {o : Obj} {f} (hT : h.get? T = some o) (hd : o.data = .fields ts) : (∀ b u, h.get? b = some u → (∀ vs, u.data ≠ .fields vs) → (h.update T (Obj.mapFields f)).get? b = some u) ∧ ∀ b, b ≠ T → (h.update T (Obj.mapFields f)).get? b = h.get? b :=
  ⟨fun b u hb n => by
    rw [Heap.get?_update_other _ _ (fun z => ?_)]; exact hb
    subst z
    rw [hT] at hb; cases hb; exact n ts hd, fun b n => Heap.get?_update_other _ _ (Ne.symm n)⟩
theorem fly_set {fl : Value} (x : FlD B l e c d fl s.heap) (hQ : ∀ h', FlyD B l e c d h' → s.heap.UpToSlots h' → Q () { s with heap := h' }) : wpAny M A (setFlight (.ref e) none) Q E s := by
  obtain ⟨T, ⟨o, vs, a1, a2, a3, a4⟩, nw, ne, u, ts, b1, b2, b3⟩ := x.tr
  have z3 : 3 < ts.size := (Array.getElem?_eq_some_iff.mp b3).1
  unfold setFlight
  refine wpAny_bind (wpAny_field a1 a3 a4 ?_)
  rw [if_pos (by simp)]
  obtain ⟨k1, k2⟩ := fld_other (f := (·.setIfInBounds 3 ((none : Option Addr).elim Value.none fun f => rawInt f))) b1 b2
  refine wpAny_setField b1 b2 z3 (hQ _ ⟨fun b v q => ?_, x.nw, x.fr.of_keeps fun b v q n => ⟨v, k1 b v q n, rfl⟩, T, ⟨o, vs, (k2 e (Ne.symm ne)).trans a1, a2, a3, a4⟩, nw, ne, _, _, Heap.get?_update_self _ b1 (Obj.isFreed_of_fields (Obj.data_mapFields b2 _)), Obj.data_mapFields b2 _, ?_⟩ fun b v q n => ⟨v.slots, k1 b v q n⟩)
  · exact (k2 b fun z => by subst z; rw [nw] at q; cases q).trans (x.st b v q)
  · simp [z3]
theorem fly_entry {o : Obj} {vs : Array Value} {hd0 : Value} {hn : Bool} (hfr : A.frames = some (env :: outer)) (hl : s.heap.FunFrames B (env :: outer)) (hf : env.frame = some L) (he : s.heap.get? e = some o) (st : B.StaysIn s.heap) (nw : B.get? e = none)
    (hd : o.data = .fields vs) (z1 : 1 < vs.size) (hQ : ∀ h', FlD B (env :: outer) e o.cls o.dict (rawInt L) h' → s.heap.UpToSlots h' → Q () { s with heap := h' }) :
    wpAny M A (do let a ← frameOf env; let pl ← entryPlaceOf L hn; let b ← EntryCells.newEntry hd0 a .none (rawInt L) .none pl; setField (.ref e) 1 b) Q E s := by
  have nf : e ∉ (env :: outer).filterMap (·.frame) := fun hm => by
    obtain ⟨_, u, hu, n⟩ := hl.mem hm
    rw [he] at hu; cases hu; exact n vs hd
  refine wpAny_bind (wpAny_frameOf_fun hfr hl hf fun g hg => wpAny_bind (wpAny_entryPlaceOf fun pl hpl => ?_))
  unfold EntryCells.newEntry newFields
  refine wpAny_bind (wpAny_newObj_type ?_ (hpl.sizeOk5 _ _ _ _ _))
  have e1 : g.get? e = some o := (hg.2.1 e nf).trans he
  have st1 : B.StaysIn g := fun b u q => (hg.2.1 b fun hm => by rw [(hl.mem hm).1] at q; cases q).trans (st b u q)
  have e2 := fun (w : Obj) => Heap.get?_push_of_some (h := g) w e1
  have ne : g.objs.size ≠ e := Nat.ne_of_gt (Heap.lt_size e1)
  refine wpAny_setField (e2 _) hd z1 (hQ _ ?_ ?_)
  · obtain ⟨k1, k2⟩ := fld_other (f := (·.setIfInBounds 1 (Value.ref g.objs.size))) (e2 { cls := .type "traceback", dict := none, data := .fields ([hd0, .ref L, .none, rawInt L, .none] ++ (if pl.isEmpty then List.replicate 6 Value.none else pl)).toArray }) hd
    refine ⟨fun b u q => ?_, nw, hl.of_keeps fun b u q n => ?_, g.objs.size, ⟨_, _, Heap.get?_update_self _ (e2 _) (Obj.isFreed_of_fields (Obj.data_mapFields hd _)), ⟨Obj.cls_mapFields _ _, dict_mf _ _⟩, Obj.data_mapFields hd _, ?_⟩, st1.fresh, ne, _, _, (k2 _ ne).trans (Heap.get?_push_size g rfl), rfl, ?_⟩
    · exact (k2 b fun z => by subst z; rw [nw] at q; cases q).trans (Heap.get?_push_of_some _ (st1 b u q))
    · obtain ⟨sl, hs⟩ := hg.2.2 b u q
      exact ⟨_, k1 b _ (Heap.get?_push_of_some _ hs) n, rfl⟩
    · simp [z1]
    · rcases hpl with rfl | ⟨_, _, _, _, _, _, _, rfl⟩ <;> simp
  · intro b u q n
    obtain ⟨k1, k2⟩ := fld_other (f := (·.setIfInBounds 1 (Value.ref g.objs.size))) (e2 { cls := .type "traceback", dict := none, data := .fields ([hd0, .ref L, .none, rawInt L, .none] ++ (if pl.isEmpty then List.replicate 6 Value.none else pl)).toArray }) hd
    obtain ⟨sl, hs⟩ := hg.2.2 b u q
    exact ⟨sl, k1 b _ (Heap.get?_push_of_some _ hs) n⟩
theorem fly_note1 {o : Obj} {vs : Array Value} (hfr : A.frames = some (env :: outer)) (hl : s.heap.FunFrames B (env :: outer)) (hf : env.frame = some L) (he : s.heap.get? e = some o) (st : B.StaysIn s.heap) (nw : B.get? e = none)
    (hd : o.data = .fields vs) (h1 : vs[1]? = some .none) (hQ : ∀ h', FlD B (env :: outer) e o.cls o.dict (rawInt L) h' → s.heap.UpToSlots h' → Q () { s with heap := h' }) : wpAny M A (noteFrame (.ref e) env) Q E s := by
  unfold noteFrame
  simp only [hf]
  refine wpAny_bind (wpAny_field he hd h1 ?_)
  rw [if_neg (by decide)]
  exact fly_entry hfr hl hf he st nw hd (Array.getElem?_eq_some_iff.mp h1).1 hQ
theorem looks_onD (hfr : A.frames = some (env :: outer)) (hf : env.frame = some L) (x : FlyD B (env :: outer) e c d s.heap)
    (hQ : ∀ h', FlD B (env :: outer) e c d (rawInt L) h' → s.heap.UpToSlots h' → Q () { s with heap := h' }) : wpAny M A (noteFrame (.ref e) env) Q E s := by
  obtain ⟨T, ⟨o, vs, a1, ⟨rfl, rfl⟩, a3, a4⟩, nw, ne, u, ts, b1, b2, b3⟩ := x.tr
  unfold noteFrame
  simp only [hf]
  refine wpAny_bind (wpAny_field a1 a3 a4 ?_)
  rw [if_pos (by simp)]
  refine wpAny_bind (wpAny_field b1 b2 b3 ?_)
  rw [if_neg (by simp [rawInt])]
  obtain ⟨k1, k2⟩ := fld_other (f := (·.setIfInBounds 3 Value.none)) b1 b2
  refine wpAny_bind (wpAny_setField b1 b2 (Array.getElem?_eq_some_iff.mp b3).1 ?_)
  exact fly_entry hfr (x.fr.of_keeps fun b v q n => ⟨v, k1 b v q n, rfl⟩) hf ((k2 e (Ne.symm ne)).trans a1) (fun b v q => (k2 b fun z => by subst z; rw [nw] at q; cases q).trans (x.st b v q)) x.nw a3 (Array.getElem?_eq_some_iff.mp a4).1
    fun h' y k => hQ h' y fun b v q n => k b v (k1 b v q n) n
structure MadeD (h h' : Heap) (e : Addr) (c : Value) (d : Option Addr) : Prop where
  keeps : ∀ b o, h.get? b = some o → h'.get? b = some o
  new : h.get? e = none
  there : ∃ o vs, h'.get? e = some o ∧ o.cls = c ∧ o.dict = d ∧ o.data = .fields vs ∧ vs[1]? = some .none
end
end G
namespace G
open PySem L2 PySem.Spec PyProof.Rows
theorem obj_there {P : Program} {w : World} {H : Hp} {h : Heap} {a : Addr} {o : HO} (x : ObjOk P w H h a o) : ∃ ob, h.get? a = some ob := by
  induction o with
  | lst xs => obtain ⟨_, _, _, _, e⟩ := x; exact ⟨_, e⟩
  | tup xs => obtain ⟨_, _, _, ob, e, _⟩ := x; exact ⟨ob, e⟩
  | dK kvs => obtain ⟨_, _, _, _, ob, _, _, e, _⟩ := x; exact ⟨ob, e⟩
  | dT kvs => obtain ⟨_, _, _, _, ob, _, _, e, _⟩ := x; exact ⟨ob, e⟩
  | set S n => obtain ⟨ob, _, _, _, e, _⟩ := x; exact ⟨ob, e⟩
  | ins C dx fs => obtain ⟨_, _, _, e, _⟩ := x; exact ⟨_, e⟩
  | own y => exact x
  | xd fs => obtain ⟨_, ⟨ob, _, _, e, _⟩, _⟩ := x; exact ⟨ob, e⟩
  | rng lo hi => obtain ⟨_, _, _, e⟩ := x; exact ⟨_, e⟩
  | frz ob u ih => exact ⟨_, x.1⟩
  | tbl ps => exact ⟨_, x⟩
  | met f y => exact ⟨_, x⟩
  | ext φ => obtain ⟨_, e, _⟩ := x; exact e
theorem un_step {P : Program} {w : World} {fs : List Addr} {H0 H1 : Hp} {h0 h1 h2 : Heap} (u : Un fs [] H0 H1 h0 h1) (ok : HOk P w H1 h1) (fr : ∀ b ∈ fs, H1 b = none)
    (kp : ∀ b o, h1.get? b = some o → ((∃ v, h0.get? b = some v) ∨ ∃ v, H1 b = some v) → b ∉ fs → h2.get? b = some o) (sl : ∀ b o, h1.get? b = some o → b ∈ fs → ∃ z, h2.get? b = some { o with slots := z }) :
    Un fs [] H0 H1 h0 h2 ∧ HOk P w H1 h2 := by
  refine ⟨⟨fun b o e n hb hx => kp b o (u.keep b o e n hb hx) (.inl ⟨o, e⟩) hb, fun b o e n hb hx => ?_, u.free, fun b o e hx => ?_, u.tups, u.frzs, u.tbls⟩, fun a o e => ?_⟩
  · obtain ⟨z, e1⟩ := u.slot b o e n hb hx
    obtain ⟨z2, e2⟩ := sl b _ e1 hb
    exact ⟨z2, e2⟩
  · obtain ⟨o', e1⟩ := u.there b o e hx
    by_cases hb : b ∈ fs
    · obtain ⟨z, e2⟩ := sl b _ e1 hb
      exact ⟨_, e2⟩
    · exact ⟨o', kp b o' e1 (.inl ⟨o, e⟩) hb⟩
  · refine (ok a o e).stay (fun b v hb q => ?_) (fun _ q => q) fun _ _ q => q
    have hs : ∃ v, H1 b = some v := by
      rcases hb with z | z
      · exact ⟨o, by rw [z]; exact e⟩
      · exact ⟨_, z⟩
    refine kp b v q (.inr hs) fun z => ?_
    obtain ⟨v', e'⟩ := hs
    rw [fr b z] at e'; cases e'
def CXe (P : Program) (w : World) : CXT := fun outer H s E e s' =>
  ∃ (ea : Addr) (cls : Value) (a0 : Option Addr) (B : Heap) (H' : Hp), e = .ref ea ∧ s'.os = s.os ∧ AllBare s'.gens ∧ Un (frs outer) [] H H' s.heap s'.heap ∧ HOk P w H' s'.heap ∧ FlyD B outer ea cls a0 s'.heap ∧
    (∀ b o, s'.heap.get? b = some o → ((∃ v, s.heap.get? b = some v) ∨ ∃ v, H' b = some v) → b ∉ frs outer → B.get? b = some o) ∧ E cls a0 H'
theorem passE0 {P : Program} {w : World} {X : Cx} : Passes (CXe P w) X E0 := fun _ _ _ _ _ _ _ h => by
  obtain ⟨_, _, _, _, _, _, _, _, _, _, _, _, z⟩ := h
  exact z.elim
section
variable {P : Program} {w : World} {K : PySem.W.Frag} {mg : Str → Option Value} {base : Heap} {N : List Str} {qual : Str} {scope : Scope} {f : Addr} {cd : Value} {A : Around} {outer : List Env} {s : Shared} {H : Hp} {E : XK}
end
def bmVE : List Value := [.type "ValueError", .type "Exception", .type "BaseException", .type "object"]
section
variable {X : Cx} {x : Str} {C : Addr} {np cpos pos : Pos} {e : Expr} {es : List Expr} {ta : TA} {E : XK}
end
end G
namespace G
open PySem L2 PySem.Spec PyProof.Rows
def PassX (CX : CXT) (X : Cx) (E : L2.St → XK) : Prop := ∀ (pins : List (Addr × Obj)) (σ : L2.St) (H : Hp) (s : Shared) (e : Value) (s' : Shared), Inv X pins σ H s → CX X.stack H s (E σ) e s' → X.xe e s'
section
variable {X : Cx} {CX : CXT} {k : Nat} {f C : Addr} {fd : FuncData} {ps : List Str} {sp : Sp} {dvs : List V} {ds : List Value} {E : L2.St → XK} {x m : Str} {p pos apos : Pos} {e o : Expr} {es : List Expr} {ta : TE} {t : TA}
theorem run_fnX {pins : List (Addr × Obj)} {σ : L2.St} {H : Hp} {s : Shared} {Q : VK} {us : List Value} {vs : List V} (F : FnOk X.prog X.w X.K X.mg X.base CX k f fd ps sp) (hr : Room k X.A) (hb : Binds X.K fd ps ds) (hd : Vals dvs ds) (hx : PassX CX X E)
    (I : Inv X pins σ H s) (r : Vals vs us) (h : sp (vs ++ dvs) H Q (E σ)) : wpAny (model X.prog X.w) X.A (call (.ref f) us) (EP X pins σ Q) X.xe s := by
  have r2 : Vals (vs ++ dvs) (us ++ ds) := r.append hd
  have hl : (us ++ ds).length = ps.length := by rw [← r2.length]; exact F.len _ _ _ _ h
  refine wpAny_call (codeAny_mono (F.run X.A X.stack s H ⟨us, []⟩ (us ++ ds) (vs ++ dvs) Q (E σ) hr I.env0 (hb s us I.kIn hl) r2 h) fun r s' hq => ?_)
  cases r with
  | error e => exact hx pins σ H s e s' I hq
  | ok fl =>
    cases fl with
    | ret u => exact I.after hq
    | next => exact False.elim hq
    | brk => exact False.elim hq
    | cont => exact False.elim hq
theorem pe_callX (F : FnOk X.prog X.w X.K X.mg X.base CX k f fd ps sp) (hr : Room k X.A) (hg : Gl X x) (hm : X.mg x = some (.ref f)) (hk : PySem.W.keepIn X.K (.ref f) = true) (hb : Binds X.K fd ps ds) (hd : Vals dvs ds) (hx : PassX CX X E)
    (ha : PA X (e :: es) t) (hdb : (x == ("__debug__" : Str)) = false := by decide) (he : starEach (e :: es) X.env = (false, eval e X.env) :: starEach es X.env := by rfl) (hpl : (backTo pos (starEach es X.env)).any (·.1) = false := by rfl) :
    PE X (.Call (.Name x p) (e :: es) [] pos) (tCallX sp dvs E t) := by
  intro pins s σ H Q I h
  refine wpAny_Call_Name_kw (ld_glob I hg hm ?_ hdb)
  refine PySem.W.callWith_K (h₀ := X.base) I.ok.mod.kin hk (thn (ha pos pins s σ H _ I h) fun us s1 ⟨vs, H1, I1, r, q⟩ => ⟨I1.kIn, ?_⟩) he hpl
  exact run_fnX F hr hb hd hx I1 r q
end
abbrev cxB (X : Cx) (pn : List (Addr × Obj)) (xe : Value → Shared → Prop) : Cx := { X with pn := pn, xe := xe }
abbrev cxH (X : Cx) (ea : Value) (pn : List (Addr × Obj)) : Cx := { X with A := X.A.mark (some ea), calm := false, pn := pn, xe := fun _ _ => False }
section
variable {X : Cx} {pins : List (Addr × Obj)} {σ : L2.St} {H : Hp} {s : Shared}
theorem ok_cxB (ok : X.Ok) (pn : List (Addr × Obj)) (xe : Value → Shared → Prop) : (cxB X pn xe).Ok :=
  ⟨ok.mod, ok.kind, ok.glob, ok.blt, ok.above, ok.inj, ok.has, ok.cab, ok.hd, ok.frames, ok.stk, ok.exf, ok.bs, ok.bsz, ok.noex, ok.exfs, ok.funs, ok.frf⟩
theorem ok_cxH (ok : X.Ok) (ea : Value) (pn : List (Addr × Obj)) : (cxH X ea pn).Ok :=
  ⟨ok.mod, ok.kind, ok.glob, ok.blt, ok.above, ok.inj, ok.has, ok.cab, fun z => (nomatch z), ok.frames, ok.stk, ok.exf, ok.bs, ok.bsz, ok.noex, ok.exfs, ok.funs, ok.frf⟩
theorem to_cxB (I : Inv X pins σ H s) (xe : Value → Shared → Prop) : Inv (cxB X (X.pn ++ pins) xe) [] σ H s :=
  ⟨ok_cxB I.ok _ _, I.os, I.bare, I.base, I.loc, I.cell, I.free, I.freeC, fun p hp => I.pin p (by simpa using hp), I.hok, I.len⟩
theorem of_cxB {xe : Value → Shared → Prop} {pl : List (Addr × Obj)} (ok : X.Ok) (I : Inv (cxB X (X.pn ++ pins) xe) pl σ H s) : Inv X pins σ H s :=
  ⟨ok, I.os, I.bare, I.base, I.loc, I.cell, I.free, I.freeC, fun p hp => I.pin p (List.mem_append_left _ hp), I.hok, I.len⟩
theorem to_cxH (I : Inv X pins σ H s) (ea : Value) : Inv (cxH X ea (X.pn ++ pins)) [] σ H s :=
  ⟨ok_cxH I.ok _ _, I.os, I.bare, I.base, I.loc, I.cell, I.free, I.freeC, fun p hp => I.pin p (by simpa using hp), I.hok, I.len⟩
theorem of_cxH {ea : Value} {pl : List (Addr × Obj)} (ok : X.Ok) (I : Inv (cxH X ea (X.pn ++ pins)) pl σ H s) : Inv X pins σ H s :=
  ⟨ok, I.os, I.bare, I.base, I.loc, I.cell, I.free, I.freeC, fun p hp => I.pin p (List.mem_append_left _ hp), I.hok, I.len⟩
theorem sp_cxB {xe : Value → Shared → Prop} {D : Ends} {f : Flow} (ok : X.Ok) (h : SP (cxB X (X.pn ++ pins) xe) [] D f s) : SP X pins D f s := by
  cases f with
  | next => obtain ⟨σ', H', I, q⟩ := h; exact ⟨σ', H', of_cxB ok I, q⟩
  | brk => obtain ⟨σ', H', I, q⟩ := h; exact ⟨σ', H', of_cxB ok I, q⟩
  | cont => obtain ⟨σ', H', I, q⟩ := h; exact ⟨σ', H', of_cxB ok I, q⟩
  | ret u => obtain ⟨v, σ', H', I, r, q⟩ := h; exact ⟨v, σ', H', of_cxB ok I, r, q⟩
theorem sp_cxH {ea : Value} {D : Ends} {f : Flow} (ok : X.Ok) (h : SP (cxH X ea (X.pn ++ pins)) [] D f s) : SP X pins D f s := by
  cases f with
  | next => obtain ⟨σ', H', I, q⟩ := h; exact ⟨σ', H', of_cxH ok I, q⟩
  | brk => obtain ⟨σ', H', I, q⟩ := h; exact ⟨σ', H', of_cxH ok I, q⟩
  | cont => obtain ⟨σ', H', I, q⟩ := h; exact ⟨σ', H', of_cxH ok I, q⟩
  | ret u => obtain ⟨v, σ', H', I, r, q⟩ := h; exact ⟨v, σ', H', of_cxH ok I, r, q⟩
theorem flown {ea : Addr} {cls : Value} {a0 : Option Addr} {B : Heap} {H2 : Hp} {s2 : Shared} {h3 : Heap} (I : Inv X pins σ H s) (os : s2.os = s.os) (bare : AllBare s2.gens) (un : Un (frs X.stack) [] H H2 s.heap s2.heap) (ok : HOk X.prog X.w H2 s2.heap)
    (fl : FlyD B X.stack ea cls a0 s2.heap) (hB : ∀ b o, s2.heap.get? b = some o → ((∃ v, s.heap.get? b = some v) ∨ ∃ v, H2 b = some v) → b ∉ frs X.stack → B.get? b = some o)
    (st : B.StaysIn h3) (sm : s2.heap.UpToSlots h3) : Inv X pins σ H2 { s2 with heap := h3 } := by
  have fr : ∀ b ∈ frs X.stack, H2 b = none := fun b hb => by
    obtain ⟨_, o, ho, _⟩ := I.stack.mem hb
    exact un.free b o ho (I.stkFree b hb) (fun z => nomatch z)
  have U := un_step (P := X.prog) (w := X.w) (h2 := h3) un ok fr (fun b o e hb hn => st _ _ (hB b o e hb hn)) fun b o e hb => by
    obtain ⟨_, o', ho', hd⟩ := fl.fr.mem hb
    rw [e] at ho'; cases ho'
    exact sm b o e hd
  exact I.call' (s' := { s2 with heap := h3 }) (ch := []) os U.1 U.2 bare (fun b z => nomatch z)
end
section
variable {X : Cx} {x : Str} {C : Addr} {np pos hpos : Pos} {body suite : List Stmt} {b₀ : Stmt} {Mt : Value → Prop} {tb : (L2.St → XK) → TS} {th : TS}
theorem adoptX {pins : List (Addr × Obj)} {σ : L2.St} {H : Hp} {s : Shared} {ea : Addr} {o : HO} (I : Inv X pins σ H s) (h0 : H ea = none) (hn : X.s₀.heap.get? ea = none) (hl : ea ≠ X.env.locals) (hc : ∀ y c, X.env.cells.lookup y = some c → c ≠ ea)
    (hp : ∀ p ∈ X.pn ++ pins, p.1 ≠ ea) (ok : ObjOk X.prog X.w (upd H ea o) s.heap ea o) : Inv X pins σ (upd H ea o) s := by
  have ne : ∀ b u, H b = some u → b ≠ ea := fun b u e => ne_of_none e h0
  refine ⟨I.ok, I.os, I.bare, ⟨I.base.keep, I.base.slot, fun b u e n hx => ?_, I.base.there, fun b xs e => ?_, fun b u xs e => ?_, fun b ps e => ?_⟩, I.loc, I.cell, ?_, fun y c e => ?_, fun p hm => ?_, fun b u e => ?_, I.len⟩
  · have : b ≠ ea := fun z => by rw [z, hn] at e; cases e
    rw [upd_ne this]; exact I.base.free b u e n hx
  · have := I.base.tups b xs e
    rw [upd_ne (ne _ _ this)]; exact this
  · have := I.base.frzs b u xs e
    rw [upd_ne (ne _ _ this)]; exact this
  · obtain ⟨more, this⟩ := I.base.tbls b ps e
    exact ⟨more, by rw [upd_ne (ne _ _ this)]; exact this⟩
  · rw [upd_ne hl.symm]; exact I.free
  · rw [upd_ne (hc y c e)]; exact I.freeC y c e
  · obtain ⟨p1, p2, p3⟩ := I.pin p hm
    exact ⟨p1, by rw [upd_ne (hp p hm)]; exact p2, p3⟩
  · by_cases z : b = ea
    · subst z; rw [upd_same] at e; cases e; exact ok
    · rw [upd_ne z] at e
      exact (I.hok b u e).stay (fun _ _ _ q => q) (fun c q => by rw [upd_ne (ne _ _ q)]; exact q) fun c xs q => by rw [upd_ne (ne _ _ q)]; exact q
theorem gone_ok {pins : List (Addr × Obj)} {σ : L2.St} {H : Hp} {s : Shared} {i : Nat} {x : Str} {pos : Pos} {M : Model} {A : Around} {E : Value → Shared → Prop} {Q : Unit → Shared → Prop} (I : Inv X pins σ H s) (hN : X.N.Nodup) (hi : X.N[i]? = some x) (hk : X.env.scope.names.lookup x = some .local)
    (h : ∀ s', Inv X pins (σ.set i none) H s' → Q () s') : wpAny M A (do bindName X.env x .none; unbindBehindTheSuite X.env x pos) Q E s := by
  obtain ⟨m, hn, hl⟩ := id I.loc
  have hcls : (X.env.scope.kind == .class || (X.env.scope.kind == .module && X.env.locals != X.env.globals)) = false := by rw [I.ok.kind]; rfl
  refine wpAny_nameGoes_keeps hk hn hcls fun h' v hn' hs => h _ ?_
  have neL : ∀ b o, X.s₀.heap.get? b = some o → b ≠ X.env.locals := fun b o e => Nat.ne_of_lt (Nat.lt_of_lt_of_le (Heap.lt_size e) I.ok.above)
  refine ⟨I.ok, I.os, I.bare, ⟨fun b o e n hb hx => (hs.2 b (neL b o e)).trans (I.base.keep b o e n hb hx), fun b o e n hb hx => ?_, I.base.free, fun b o e hx => ?_, I.base.tups, I.base.frzs, I.base.tbls⟩, ⟨_, hn', fun j y v' e1 e2 e3 => ?_⟩, fun y c e => ?_, I.free, I.freeC, fun p hp => ?_, fun b u e => ?_, by rw [List.length_set]; exact I.len⟩
  · obtain ⟨sl, e1⟩ := I.base.slot b o e n hb hx
    exact ⟨sl, (hs.2 b (neL b o e)).trans e1⟩
  · obtain ⟨o', e1⟩ := I.base.there b o e hx
    exact ⟨o', (hs.2 b (neL b o e)).trans e1⟩
  · by_cases hj : i = j
    · subst hj
      by_cases hiσ : i < σ.length
      · rw [List.getElem?_set_self hiσ] at e2; cases e2
      · rw [List.getElem?_eq_none_iff.mpr (by rw [List.length_set]; omega)] at e2; cases e2
    · rw [List.getElem?_set_ne hj] at e2
      obtain ⟨u', r', q⟩ := hl j y v' e1 e2 e3
      refine ⟨u', r', ?_⟩
      rcases q with ⟨k, e⟩ | ⟨k, c, e, z⟩
      · refine .inl ⟨k, ?_⟩
        have : y ≠ x := fun e => hj (nodup_ix hN hi (e ▸ e1))
        simp [this, e]
      · exact .inr ⟨k, c, e, z.sameBut hs (I.cne y c e)⟩
  · obtain ⟨w', z⟩ := I.cell y c e
    exact ⟨w', z.sameBut hs (I.cne y c e)⟩
  · obtain ⟨e, n, ne, nf, d⟩ := I.pin p hp
    exact ⟨(hs.2 p.1 ne).trans e, n, ne, nf, d⟩
  · refine (I.hok b u e).stay (fun c w' hc q => (hs.2 c ?_).trans q) (fun _ q => q) fun _ _ q => q
    rintro rfl
    rcases hc with rfl | hc
    · rw [I.free] at e; cases e
    · rw [I.free] at hc; cases hc
theorem ps_tryAs {i : Nat} {nm : Str} (hex : X.ex = []) (hst : X.stack = X.env :: X.outer ∧ X.env.frame = some X.env.locals) (hN : X.N.Nodup) (hi : X.N[i]? = some nm) (hk : X.env.scope.names.lookup nm = some .local) (hg : Gl X x) (hm : X.mg x = some (.ref C)) (hMt : ∀ c, Mt c → PySem.W.exmOne X.K c (.ref C) = some true)
    (hb : ∀ (E : L2.St → XK) (pn : List (Addr × Obj)) (xe : Value → Shared → Prop), PassX (CXe X.prog X.w) (cxB X pn xe) E → PSs (cxB X pn xe) body (tb E))
    (hs : ∀ (ea : Value) (pn : List (Addr × Obj)), PSs (cxH X ea pn) (b₀ :: suite) th) (hd : (x == ("__debug__" : Str)) = false := by decide) :
    PS X (.Try body [.ExceptHandler (some (.Name x np)) (some nm) (b₀ :: suite) hpos] [] [] pos) (tTryAs Mt i tb th) := by
  intro pins s σ H D I h
  refine wpAny_Try_except ?_
  let D' : Ends := ⟨fun σ2 H2 => D.nx (σ2.set i none) H2, D.rt, fun σ2 H2 => D.bk (σ2.set i none) H2, fun σ2 H2 => D.ct (σ2.set i none) H2⟩
  have hx : PassX (CXe X.prog X.w) (cxB X (X.pn ++ pins) fun e s' => ∃ σ H s, Inv X pins σ H s ∧ CXe X.prog X.w X.stack H s (fun cls d H' => Mt cls ∧ ∀ ea, H' ea = none → th D' (σ.set i (some (.ref ea))) (upd H' ea (xobj ea cls d))) e s')
      (fun σ' cls d H' => Mt cls ∧ ∀ ea, H' ea = none → th D' (σ'.set i (some (.ref ea))) (upd H' ea (xobj ea cls d))) :=
    fun pl σ H s e s' J z => ⟨σ, H, s, of_cxB I.ok J, z⟩
  refine wpAny_mono (hb _ _ _ hx [] s σ H D (to_cxB I _) h) (fun f s1 q => ?_) fun e s1 q => ?_
  · have q := sp_cxB I.ok q
    cases f with
    | next => exact wpAny_execs_nil q
    | ret v => exact q
    | brk => exact q
    | cont => exact q
  · obtain ⟨σ1, H1, s0, J, ea, cls, a0, B, H2, rfl, os, bare, un, ok, fl, hB, hM, hth⟩ := q
    have fl0 := fl
    rw [hst.1] at fl0
    refine looks_onD (hst.1 ▸ J.ok.frames) hst.2 fl0 fun h4 held4 sm4 => ?_
    refine fly_set held4 fun h5 fl5 sm5 => ?_
    have sm25 : s1.heap.UpToSlots h5 := sm4.trans sm5
    have J5 := flown J os bare un ok fl hB fl5.st sm25
    refine wpAny_handleBy_cons (codeAny_handlers_test (ld_glob (X := cxH X (.ref ea) (X.pn ++ pins)) (to_cxH J5 (.ref ea)) hg hm ?_ hd)) (by intro z; cases z)
    obtain ⟨ob, hob, hoc⟩ := fl5.there
    have LT : PySem.W.Looks (model X.prog X.w) h5 (typeOf (.ref ea)) cls := hoc ▸ (PySem.W.Looks.ld hob).andThen .now
    refine (PySem.W.exm_one J5.kIn LT (hMt cls hM)).here ?_
    refine codeAny_handlers_suite_as ?_
    refine fly_set fl5 fun h6 fl6 sm6 => ?_
    have J6 := flown J os bare un ok fl hB fl6.st (sm25.trans sm6)
    obtain ⟨oe, vs, e1, e2, e3, e4⟩ := fl6.first
    have nfr : ea ∉ frs X.stack := fun z => by
      obtain ⟨_, o', ho', hd'⟩ := fl6.fr.mem (show ea ∈ (X.env :: X.outer).filterMap (·.frame) by rw [← hst.1]; exact z)
      rw [e1] at ho'; cases ho'
      exact hd' _ e3
    obtain ⟨o1, eo1, _⟩ := fl.there
    have new0 : s0.heap.get? ea = none := by
      cases z : s0.heap.get? ea with
      | none => rfl
      | some v =>
        have := hB ea o1 eo1 (.inl ⟨v, z⟩) nfr
        rw [fl.nw] at this; cases this
    have new1 : H2 ea = none := by
      cases z : H2 ea with
      | none => rfl
      | some v =>
        have := hB ea o1 eo1 (.inr ⟨v, z⟩) nfr
        rw [fl.nw] at this; cases this
    have A6 : Inv X pins σ1 (upd H2 ea (xobj ea cls a0)) { s1 with heap := h6 } := by
      refine adoptX J6 new1 ?_ ?_ ?_ ?_ ?_
      · cases z : X.s₀.heap.get? ea with
        | none => rfl
        | some v =>
          obtain ⟨o', e'⟩ := J.base.there ea v z (fun w => by rw [hex] at w; cases w)
          rw [new0] at e'; cases e'
      · intro z
        obtain ⟨m, ⟨ol, esl, epl, hol, hdl, _⟩, _⟩ := J6.loc
        have hol' : h6.get? X.env.locals = some ol := hol
        rw [← z, e1] at hol'; cases hol'
        rw [e3] at hdl; cases hdl
      · intro y c e z
        obtain ⟨w', oc, hoc', hdc⟩ := J6.cell y c e
        have hoc2 : h6.get? c = some oc := hoc'
        rw [z, e1] at hoc2; cases hoc2
        rw [e3] at hdc; cases hdc
      · intro p hp z
        have := (J.pin p hp).1
        rw [z, new0] at this; cases this
      · exact ⟨⟨oe, vs, e1, e2, e3, e4⟩, ⟨oe, e1⟩, fun h1 h2 ⟨o2, v2, a1, a2, a3, a4⟩ k => ⟨o2, v2, k _ a1, a2, a3, a4⟩⟩
    refine store_ok (X := cxH X (.ref ea) (X.pn ++ pins)) (v := .ref ea) (i := i) (to_cxH A6 (.ref ea)) hN hi (.inl hk) rfl (fun s7 I7 => ?_) (.inr hk)
    refine wpAny_mono (hs (.ref ea) (X.pn ++ pins) [] s7 _ _ D' I7 (hth ea new1)) (fun f s8 q => ?_) fun _ _ z => z.elim
    have q := sp_cxH I.ok q
    cases f with
    | next =>
      obtain ⟨σ8, H8, I8, q⟩ := q
      exact gone_ok I8 hN hi hk fun s9 I9 => ⟨_, H8, I9, q⟩
    | brk =>
      obtain ⟨σ8, H8, I8, q⟩ := q
      exact gone_ok I8 hN hi hk fun s9 I9 => ⟨_, H8, I9, q⟩
    | cont =>
      obtain ⟨σ8, H8, I8, q⟩ := q
      exact gone_ok I8 hN hi hk fun s9 I9 => ⟨_, H8, I9, q⟩
    | ret u =>
      obtain ⟨v, σ8, H8, I8, r, q⟩ := q
      exact gone_ok I8 hN hi hk fun s9 I9 => ⟨v, _, H8, I9, r, q⟩
end
end G
namespace G
open PySem L2 PySem.Spec PyProof.Rows
section
variable {P : Program} {w : World} {K : PySem.W.Frag} {mg : Str → Option Value} {base : Heap} {x qual : Str} {st : Stmt} {f : Addr} {fd : FuncData} {N ps : List Str} {k : Nat} {sp : Sp}
theorem fok (F : Fun K x qual st f fd) (S : FnScope N ps (defScope st)) (len : ∀ vs H Q E, sp vs H Q E → vs.length = ps.length)
    (hbody : ∀ (cdv : Value) (A : Around) (outer : List Env) (s : Shared) (H : Hp) (vs : List V) (Q : VK) (E : XK), Room k (A.deeper (envOfC qual (defScope st) s.heap.objs.size f cdv)) → sp vs H Q E →
      ∃ t, PSs (cxOf (CXe P w) P w K mg base N qual (defScope st) f cdv A outer s H E).nox (defBody st) t ∧ t { nx := fun _ H' => Q .non H', rt := Q } (start N vs) H) : FnOk P w K mg base (CXe P w) (k + 1) f fd ps sp := by
  obtain ⟨oc, od, kV, doc, pm, an, cdv, ct, osl, rfl, lk, hcd⟩ := F.ex
  refine fn_of lk hcd S len fun A outer s H vs Q E hr hsp => ?_
  obtain ⟨t, h, q⟩ := hbody cdv A outer s H vs Q E hr hsp
  exact ⟨t, h.nox, q⟩
theorem fokX (F : Fun K x qual st f fd) (S : FnScope N ps (defScope st)) (len : ∀ vs H Q E, sp vs H Q E → vs.length = ps.length)
    (hbody : ∀ (cdv : Value) (A : Around) (outer : List Env) (s : Shared) (H : Hp) (vs : List V) (Q : VK) (E : XK), Room k (A.deeper (envOfC qual (defScope st) s.heap.objs.size f cdv)) → sp vs H Q E →
      ∃ t, PSs (cxOf (CXe P w) P w K mg base N qual (defScope st) f cdv A outer s H E) (defBody st) t ∧ t { nx := fun _ H' => Q .non H', rt := Q } (start N vs) H) : FnOk P w K mg base (CXe P w) (k + 1) f fd ps sp := by
  obtain ⟨oc, od, kV, doc, pm, an, cdv, ct, osl, rfl, lk, hcd⟩ := F.ex
  exact fn_of lk hcd S len fun A outer s H vs Q E hr hsp => hbody cdv A outer s H vs Q E hr hsp
theorem fokD (F : FunD K x qual st f fd) (S : FnScope N ps (defScope st)) (len : ∀ vs H Q E, sp vs H Q E → vs.length = ps.length)
    (hbody : ∀ (cdv : Value) (A : Around) (outer : List Env) (s : Shared) (H : Hp) (vs : List V) (Q : VK) (E : XK), Room k (A.deeper (envOfC qual (defScope st) s.heap.objs.size f cdv)) → sp vs H Q E →
      ∃ t, PSs (cxOf (CXe P w) P w K mg base N qual (defScope st) f cdv A outer s H E).nox (defBody st) t ∧ t { nx := fun _ H' => Q .non H', rt := Q } (start N vs) H) : FnOk P w K mg base (CXe P w) (k + 1) f fd ps sp := by
  obtain ⟨oc, od, dV, kV, doc, pm, an, cdv, ct, osl, rfl, lk, hcd⟩ := F.ex
  refine fn_of lk hcd S len fun A outer s H vs Q E hr hsp => ?_
  obtain ⟨t, h, q⟩ := hbody cdv A outer s H vs Q E hr hsp
  exact ⟨t, h.nox, q⟩
end
end G
namespace G
open PySem L2 PySem.Spec PyProof.Rows
structure ExcI (K : PySem.W.Frag) (C : Addr) : Prop where
  ga : PySem.W.findIn K (.ref C) "__getattribute__" = some (some (.builtin "BaseException.__getattribute__"))
  no : PySem.W.findIn K (.ref C) "__getattr__" = some none
  cl : PySem.W.findIn K (.ref C) "__class__" = some (some (.builtin "object.__class__"))
  so : PySem.W.mroIn K C (.type "object") = some true
  sb : PySem.W.mroIn K C (.type "BaseException") = some true
  is : PySem.W.hasDictIn K C = true
section
variable {prog : Program} {w : World} {A : Around} {E : Value → Shared → Prop} {h : Heap} {g : Array GenState} {d : Drawn} {t : Nat} {os : OsState} {a : Addr} {o : Obj} {C : Addr} {K : PySem.W.Frag}
theorem xc_sub (X : K.In h) (F : ExcI K C) {M : Model} {Q : Bool → Shared → Prop} (q : Q true ⟨h, g, d, t, os⟩) : wpAny M A (isSubtype (.ref C) (.type (".".intercalate ("object.__class__".cutAt '.').dropLast))) Q E ⟨h, g, d, t, os⟩ := by
  rw [PySem.F.owner_object_class]
  exact (PySem.W.looks_mroIn X F.so).here q
theorem xc_sub2 (X : K.In h) (F : ExcI K C) {M : Model} {Q : Bool → Shared → Prop} (q : Q true ⟨h, g, d, t, os⟩) : wpAny M A (isSubtype (.ref C) (.type "BaseException")) Q E ⟨h, g, d, t, os⟩ := (PySem.W.looks_mroIn X F.sb).here q
theorem xc_tl {n : Str} {r : Option Value} (X : K.In h) (e : PySem.W.findIn K (.ref C) n = some r) {M : Model} {Q : Option Value → Shared → Prop} (q : Q r ⟨h, g, d, t, os⟩) : wpAny M A (typeLookup (.ref C) n) Q E ⟨h, g, d, t, os⟩ := (PySem.W.looks_findIn X e).here q
theorem xc_get {R : Result → Shared → Prop} (X : K.In h) (F : ExcI K C) (hx : h.get? a = some o) (hc : o.cls = .ref C) (hq : R (.ok (.ret (.ref C))) ⟨h, g, d, t, os⟩) :
    codeAny (model prog w) A (.call (.builtin "getset_descriptor.__get__") ⟨[.builtin "object.__class__", .ref a, .ref C], []⟩) R ⟨h, g, d, t, os⟩ := by
  have h5 : (⟨h, g, d, t, os⟩ : Shared).TypeIs (.builtin "object.__class__") "getset_descriptor" := PySem.F.typeOf_object_class
  refine codeAny_call_builtin PySem.F.slot_gs_get.plain PySem.F.entry_gs_get (PySem.F.slot_gs_get.check _ _ _ _ _ _ _ _ h5 (PySem.F.args_gs_get _ _ _) ?_)
  repeat any_goals (first | assumption | (with_reducible refine wpAny_loadPart_at hx ?_; rw [hc]) | with_reducible refine xc_sub X F ?_ | wp_step)
  refine ⟨Code.quiet_builtin _ (by decide +kernel), codeAny_builtin PySem.F.entry_object_class ?_⟩
  repeat any_goals (first | assumption | (with_reducible refine wpAny_loadPart_at hx ?_; rw [hc]) | wp_step)
theorem xc_entry {tk : Tok} {Q : Fin → Shared → Prop} (X : K.In h) (F : ExcI K C) (hx : h.get? a = some o) (hc : o.cls = .ref C) (hq : Q (.done (.ret (.ref C))) ⟨h, g, d, t, os⟩) :
    wpAny (model prog w) A (Builtin.«object.__getattribute__» ⟨[.ref a, .str "__class__" tk], []⟩) Q E ⟨h, g, d, t, os⟩ := by
  have h5 : (⟨h, g, d, t, os⟩ : Shared).TypeIs (.builtin "object.__class__") "getset_descriptor" := PySem.F.typeOf_object_class
  have f5 := PySem.F.typeOf_object_class
  have f6 := PySem.F.slot_gs_get.lookup
  have f7 := PySem.F.slot_gs_set.lookup
  repeat any_goals (first | assumption | (with_reducible refine wpAny_loadPart_at hx ?_; rw [hc]) | with_reducible refine xc_tl X F.cl ?_ | wp_step)
  refine xc_get X F hx hc ?_
  repeat any_goals (first | assumption | wp_step)
theorem xc_check {M : Model} {nameV : Value} {Q : Unit → Shared → Prop} (X : K.In h) (F : ExcI K C) (hx : h.get? a = some o) (hc : o.cls = .ref C) (hq : Q () ⟨h, g, d, t, os⟩) : wpAny M A (checkBuiltinCall "BaseException.__getattribute__" ⟨[.ref a, nameV], []⟩) Q E ⟨h, g, d, t, os⟩ := by
  have e1 : builtinKind "BaseException.__getattribute__" = some .slot := by decide +kernel
  have e2 : splitId "BaseException.__getattribute__" = some ("BaseException", "__getattribute__") := by decide +kernel
  have ha := PySem.F.args_bexc_ga (.ref a) nameV
  simp only [checkBuiltinCall, e1, e2]
  refine wpAny_bind ?_
  unfold isInstance
  repeat (first | (with_reducible refine wpAny_loadPart_at hx ?_; rw [hc]) | with_reducible refine xc_sub2 X F ?_ | wp_step)
  exact hq
theorem xc_by {tk : Tok} {Q : Value → Shared → Prop} (X : K.In h) (F : ExcI K C) (hx : h.get? a = some o) (hc : o.cls = .ref C) (hq : Q (.ref C) ⟨h, g, d, t, os⟩) : wpAny (model prog w) A (getAttrBy (.ref a) (.str "__class__" tk) false) Q E ⟨h, g, d, t, os⟩ := by
  have f3 := PySem.F.attr_ValueError.ga.bind (.ref a)
  have e1 : (onTheHeap (Value.ref C) && Value.builtin "BaseException.__getattribute__" == Value.builtin "object.__getattribute__") = false := by
    rw [show (Value.builtin "BaseException.__getattribute__" == Value.builtin "object.__getattribute__") = false by decide +kernel]; rfl
  repeat any_goals (first | assumption | (with_reducible refine wpAny_loadPart_at hx ?_; rw [hc]) | with_reducible refine xc_tl X F.ga ?_ | with_reducible refine xc_tl X F.no ?_ | wp_step)
  refine codeAny_call_builtin PySem.F.attr_ValueError.ga.plain PySem.F.entry_bexc_ga (xc_check X F hx hc (xc_entry X F hx hc ?_))
  repeat any_goals (first | assumption | wp_step)
theorem xc_attr {Q : Option Value → Shared → Prop} (X : K.In h) (F : ExcI K C) (hx : h.get? a = some o) (hc : o.cls = .ref C) (hq : Q (some (.ref C)) ⟨h, g, d, t + 1, os⟩) : wpAny (model prog w) A (getAttr? (.ref a) "__class__") Q E ⟨h, g, d, t, os⟩ := by
  unfold getAttr? getAttrBy?
  repeat any_goals (first | assumption | with_reducible apply xc_by X F hx hc | wp_step)
end
def atX (a C : Addr) (h : Heap) : Prop := ∃ o, h.get? a = some o ∧ o.cls = .ref C
theorem kitx_exc {K : PySem.W.Frag} {a C : Addr} (F : ExcI K C) : PySem.W.KitX K (.ref a) (.ref C) (atX a C) where
  ty := fun _ _ _ ⟨o, h1, h2⟩ => h2 ▸ (PySem.W.Looks.ld h1).andThen .now
  it := fun _ _ X _ => by
    obtain ⟨cd, hc, _⟩ := PySem.W.any_some F.is
    unfold PySem.W.clsIn at hc
    split at hc
    · rename_i hob
      intro A' Q' E' s' k q
      unfold isType loadHead
      exact wpAny_bind (wpAny_loadPart (k _ _ (X _ _ hob)) (wpAny_pure q))
    · cases hc
  ne := fun h tp dd its n sl X htp => by
    obtain ⟨cd, hc, _⟩ := PySem.W.any_some F.is
    refine Bool.eq_false_iff.mpr fun q => ?_
    have e : C = tp := Value.ref.inj (beq_iff_eq.mp q)
    subst e
    unfold PySem.W.clsIn at hc
    split at hc
    · rename_i hob
      have z := (X _ _ hob).symm.trans htp
      cases z
    · cases hc
  ca := fun {prog w A E Q s} X ⟨o, h1, h2⟩ k => by
    obtain ⟨h, g, d, t, os⟩ := s
    exact xc_attr X F h1 h2 k
section
variable {X : Cx}
def ExcAll (K : PySem.W.Frag) (Cs : List Addr) : Prop := ∀ C ∈ Cs, ExcI K C
theorem call_isiX {Cs : List Addr} (F : ExcAll X.K Cs) : CallR X (.builtin "isinstance") (cIsiX Cs (PySem.W.kitOne X.K)) := by
  intro pins s σ H xs us Q I r h
  obtain ⟨a, c, C, k, ⟨v, rfl, rv⟩, hC, ⟨dx, ha⟩, hk, q⟩ := h
  obtain ⟨u, w', rfl, rx, rn⟩ := vals2 r
  obtain rfl : u = Value.ref a := rx
  have ew : w' = c := by
    cases v with
    | ref b => exact (show w' = Value.ref b from rn).trans (show c = Value.ref b from rv).symm
    | ty n => exact (show w' = Value.type n from rn).trans (show c = Value.type n from rv).symm
    | non => exact (show w' = Value.none from rn).trans (show c = Value.none from rv).symm
    | bl b => exact (show w' = Value.bool b from rn).trans (show c = Value.bool b from rv).symm
    | int i =>
      obtain ⟨t1, e1⟩ := (show ∃ t, c = Value.int i t from rv)
      subst e1
      exact absurd hk (by unfold PySem.W.kitOne PySem.W.kitCls; rw [if_neg (by simp)]; simp)
    | str i =>
      obtain ⟨t1, e1⟩ := (show ∃ t, c = Value.str i t from rv)
      subst e1
      exact absurd hk (by unfold PySem.W.kitOne PySem.W.kitCls; rw [if_neg (by simp)]; simp)
    | byt i =>
      obtain ⟨t1, e1⟩ := (show ∃ t, c = Value.bytes i t from rv)
      subst e1
      exact absurd hk (by unfold PySem.W.kitOne PySem.W.kitCls; rw [if_neg (by simp)]; simp)
    | flt i =>
      obtain ⟨t1, e1⟩ := (show ∃ t, c = Value.float i t from rv)
      subst e1
      exact absurd hk (by unfold PySem.W.kitOne PySem.W.kitCls; rw [if_neg (by simp)]; simp)
  subst ew
  obtain ⟨⟨o, vs, h1, h2, h3, _⟩, _⟩ := I.hok a _ ha
  exact PySem.W.kia_one (kitx_exc (F C hC)) I.kIn ⟨o, h1, h2⟩ hk (fun z => nomatch z) fun tk => ⟨.bl k, H, I.tok _, rfl, q⟩
theorem call_listL : CallR X (.type "list") (cListL X.K) := by
  intro pins s σ H xs us Q I r h
  obtain ⟨p, ys, rfl, hs, q⟩ := h
  exact call_list_of pins s σ H [.ref p] us Q I r ⟨p, ys, rfl, .inl hs, q⟩
theorem eqL_range {xs ys : List V} {us ws : List Value} (rx : Vals xs us) (ry : Vals ys ws) (fx : xs.all flatV = true) (fy : ys.all flatV = true) (hl : xs.length = ys.length) :
    (∀ (A : Around) (s : Shared) (j : Nat) (h1 : j < us.toArray.size) (h2 : j < ws.toArray.size), SeqAt.EqAt A s us.toArray[j] ws.toArray[j] (match xs[j]?, ys[j]? with | some a, some b => eqV a b | _, _ => false)) ∧
    (List.range us.toArray.size).all (fun j => match xs[j]?, ys[j]? with | some a, some b => eqV a b | _, _ => false) = eqL xs ys := by
  refine ⟨fun A s j h1 h2 => ?_, ?_⟩
  · rw [List.size_toArray] at h1 h2
    have l1 := rx.length
    have l2 := ry.length
    have a1 : xs[j]? = some xs[j] := List.getElem?_eq_getElem (by omega)
    have a2 : ys[j]? = some ys[j] := List.getElem?_eq_getElem (by omega)
    obtain ⟨u, e1, r1⟩ := rx.get a1
    obtain ⟨w', e2, r2⟩ := ry.get a2
    rw [List.getElem?_eq_getElem h1] at e1
    rw [List.getElem?_eq_getElem h2] at e2
    cases e1
    cases e2
    rw [a1, a2]
    exact eqAt_V r1 r2 (List.all_eq_true.mp fx _ (List.getElem_mem (by omega))) (List.all_eq_true.mp fy _ (List.getElem_mem (by omega)))
  · rw [List.size_toArray, ← rx.length]
    unfold eqL
    rw [beq_iff_eq.mpr hl, Bool.true_and, Bool.eq_iff_iff, List.all_eq_true, List.all_eq_true]
    constructor
    · intro h p hp
      obtain ⟨j, hj, e⟩ := List.getElem_of_mem hp
      rw [List.length_zip] at hj
      have := h j (List.mem_range.mpr (by omega))
      rw [List.getElem?_eq_getElem (show j < xs.length by omega), List.getElem?_eq_getElem (show j < ys.length by omega)] at this
      rw [List.getElem_zip] at e
      rw [← e]; exact this
    · intro h j hj
      have hj := List.mem_range.mp hj
      rw [List.getElem?_eq_getElem (show j < xs.length by omega), List.getElem?_eq_getElem (show j < ys.length by omega)]
      have hz : j < (xs.zip ys).length := by rw [List.length_zip]; omega
      have := h _ (List.getElem_mem hz)
      rw [List.getElem_zip] at this
      exact this
theorem eqL_len {xs ys : List V} (h : xs.length ≠ ys.length) : eqL xs ys = false := by
  unfold eqL
  rw [show (xs.length == ys.length) = false by simpa using h, Bool.false_and]
theorem op_eqL (hu : X.A.units + 1 < cLine) : OpR X (compareOp .Eq) (rEqL X.K false) := by
  intro pins s σ H x y v u Q I rx ry h
  obtain ⟨p, q', xs, ys, rfl, rfl, hx, hy, ff, q⟩ := h
  cases rx
  cases ry
  obtain ⟨us, r1, pl1, _⟩ := I.list hx
  obtain ⟨ws, r2, pl2, _⟩ := I.list hy
  have hu' : X.A.units < cLine := by omega
  by_cases hl : xs.length = ys.length
  · obtain ⟨e1, e2⟩ := eqL_range r1 r2 (ff hl).1 (ff hl).2 hl
    refine SeqAt.eq_listAt pl1.isList pl2.isList (by rw [List.size_toArray, List.size_toArray, ← r1.length, ← r2.length]; exact hl) hu' (fun j h1 h2 => e1 _ _ j h1 h2) ?_
    rw [e2]
    exact ⟨.bl _, H, I, rfl, q⟩
  · refine SeqAt.eq_list_lengthsAt pl1.isList pl2.isList ?_ hu' ?_
    · rw [List.size_toArray, List.size_toArray, ← r1.length, ← r2.length]
      simpa using hl
    · refine ⟨.bl _, H, I, rfl, ?_⟩
      have := q
      rw [eqL_len hl] at this
      exact this
end
end G
namespace G
open PySem L2 PySem.Spec PyProof.Rows
section
variable {K : PySem.W.Frag} {A : Around} {a C : Addr} {o : Obj}
end
section
variable {X : Cx}
end
end G
namespace G
open PySem L2
end G
namespace G
open PySem L2 PySem.Spec PyProof.Rows
section
variable {X : Cx}
structure Mk0 (K : PySem.W.Frag) (C : Addr) : Prop where
  makes : PySem.W.makesIn K C = true
  init : PySem.W.findIn K (.ref C) "__init__" = some (some (.builtin "object.__init__"))
  kp : PySem.W.keepIn K (.ref C) = true
structure InsI (K : PySem.W.Frag) (C : Addr) : Prop where
  pg : PySem.W.plainGet K C "__class__" = true
  hd : PySem.W.hasDictIn K C = true
  cl : PySem.W.findIn K (.ref C) "__class__" = some (some (.builtin "object.__class__"))
  sp : PySem.W.specialIn K (.builtin "object.__class__") "__get__" = some (some (.builtin "getset_descriptor.__get__"))
  tk : PySem.W.takesIn K (.builtin "object.__class__") = some true
  so : PySem.W.mroIn K C (.type "object") = some true
end
end G
namespace G
open PySem L2
end G
namespace G
open PySem L2 PySem.Spec PyProof.Rows
end G
namespace G
open PySem L2 PySem.Spec PyProof.Rows
section
variable {σ : L2.St} {H : Hp} {Q : VK} {td ty tv : TE} {n bk ct : L2.St → Hp → Prop} {r : VK}
end
end G
namespace G
open PySem L2 PySem.Spec PyProof.Rows
end G
namespace G
open PySem L2 PySem.Spec PyProof.Rows
theorem ps_lcset {X : Cx} {iz : Nat} {z : Str} {pz posA : Pos} {elt iter : Expr} {x : Str} {px pos : Pos} {ifs : List Expr} {scope : Scope} {cl : List (Str × Addr)} {wi : TI} {tc : TT} {te : TE} {cns : List Str} (caps : List Nat)
    (hi : PI X (.Name x px) iter wi)
    (hf : ∀ C s H ex pn, PF (cxLC X scope cl (x :: cns) C s H ex pn) ifs tc) (he : ∀ C s H ex pn, PE (cxLC X scope cl (x :: cns) C s H ex pn) elt te) (hc : X.calm = true)
    (hclos : closureFor scope X.env = pure cl) (hcl : AllIn X.env.cells cl) (hcap : CapOk X cns caps)
    (hkind : scope.kind = .function) (hcell : (scope.names.all fun p => p.2 != .cell) = true) (hfree : (scope.names.all fun p => p.2 != .free || (cl.lookup p.1).isSome) = true)
    (hcf : (cns.all fun y => scope.names.lookup y == some .free) = true) (hnames : ∀ y ∈ scope.names, y.2 = .local → scope.names.lookup y.1 = some .local) (hx : scope.names.lookup x = some .local) (hnd : (x :: cns).Nodup)
    (hN : X.N.Nodup) (hiz : X.N[iz]? = some z) (hz : Loc X.env.scope z) (hfz : X.fn z = true ∨ X.env.scope.names.lookup z = some .local)
    (hsw : swapsWithSole [.Name z pz] (.ListComp elt [⟨.Name x px, iter, ifs, 0⟩] scope pos) posA.line X.env = pure true) (hs : ∀ v, foldedSetIterable iter X.env v = pure v := by intro _; rfl) :
    PS X (.Assign [.Name z pz] (.ListComp elt [⟨.Name x px, iter, ifs, 0⟩] scope pos) posA) (tAsg (tLC wi caps tc te) (gName iz)) := by
  intro pins s σ H D I h
  generalize hQ : (fun v H1 => gName iz v σ H1 D.nx) = Q
  have h : tLC wi caps tc te σ H Q := hQ ▸ h
  rw [exec_Assign_arm]
  refine wpAny_bind (wpAny_standAt ?_)
  rw [hsw]
  refine wpAny_bind (wpAny_pure ?_)
  rw [if_pos rfl]
  refine wpAny_bind ?_
  rw [evalThenUse]
  suffices key : wpAny (model X.prog X.w) X.A (comprehension (.ListComp elt [⟨.Name x px, iter, ifs, 0⟩] scope pos) scope X.env (firstIterPos [⟨.Name x px, iter, ifs, 0⟩] pos) (newList []) (firstAsync [⟨.Name x px, iter, ifs, 0⟩]) (firstIter [⟨.Name x px, iter, ifs, 0⟩] X.env) (some fun v => assignAll v ((assignEach [.Name z pz] X.env).map (·.2)))) (fun _ s' => SP X pins D .next s') X.xe s from
    wpAny_bind (wpAny_mono key (fun _ s' h => wpAny_pure (wpAny_pure h)) fun _ _ h => h)
  refine lc_core (ns := [x]) (gt := gName 0) (R := fun J σ H Q => LCg J caps tc te σ H Q) caps (fun J σ H Q h => ?_) hi (fun C s H ex pn => pg_name hnd rfl (.inl (lookup_relabel_local hx)) (.inr (lookup_relabel_local hx))) hf he hc hclos hcl hcap hkind hcell hfree hcf hnames hs I h fun acc C s6 m r0 hm fCC fin => ?_
  · obtain ⟨W, w0, turn⟩ := h
    refine ⟨W, w0, fun i m ys H hw => (turn i m ys H hw).imp id fun ⟨g, l, st⟩ => ⟨g, l, fun z H' y vs hv => ?_⟩⟩
    match vs, hv with
    | [v], _ => exact ⟨[some z], rfl, ⟨rfl, rfl⟩, st z H' y⟩
  obtain ⟨v, Hf, If, rf, qf, hfC⟩ := fin s6.heap (Heap.SameBut.refl _ _)
  have fC : FpOk X pins Hf C := fCC hfC
  obtain ⟨oC, esC, epC, gC, dC, kC, nC⟩ := hm
  have Ip : Inv X (pins ++ [(C, oC)]) σ Hf s6 := Inv.pins_of If fun p hp => by
    rcases List.mem_append.mp hp with hp | hp
    · exact If.pin p (List.mem_append_right _ hp)
    · rw [List.mem_singleton.mp hp]
      exact ⟨gC, fC.1, fC.2.1, fC.2.2.1, fun v z => by rw [dC] at z; cases z⟩
  show wpAny _ _ (assign (.Name z pz) X.env (.ref acc)) _ _ _
  refine wpAny_assign_Name (store_ok Ip hN hiz hz rf (fun s7 I7 => ?_) hfz)
  have g7 := (I7.pin (C, oC) (List.mem_append_right _ (List.mem_append_right _ List.mem_cons_self))).1
  refine ⟨m, ⟨oC, esC, epC, g7, dC, kC, nC⟩, fun h' hs' => ?_⟩
  have I8 := I7.unpinned
  have qf : D.nx (σ.set iz (some v)) Hf := by rw [← hQ] at qf; exact qf
  have kb : ∀ b o, b ≠ C → s7.heap.get? b = some o → h'.get? b = some o := fun b o hb e => hs'.extBut b o hb e
  refine ⟨_, Hf, I8.step (ch := [C]) (fun b hb => ?_) (fun b o _ _ hb e _ => kb b o (fun z => hb (by rw [z]; exact List.mem_cons_self)) e) (fun b o _ _ hb e _ => ⟨o.slots, kb b o (fun z => hb (by rw [z]; exact List.mem_cons_self)) e⟩) (fun _ _ _ _ h => h) (fun b o hb e => ⟨o, kb b o (fun z => hb (by rw [z]; exact List.mem_cons_self)) e⟩) (fun _ _ h => h) (fun _ _ _ h => h) (fun _ ps h => ⟨#[], by simpa using h⟩) (fun m' hm' => ?_) (fun b u e => ?_) I8.bare, qf⟩
  · rw [List.mem_singleton.mp hb]
    exact ⟨fC.2.2.2.1, fC.2.1, fC.2.2.2.2.1, fC.2.2.2.2.2⟩
  · obtain ⟨o', e1, e2, e3, e4, e5⟩ := hm'
    exact ⟨o', e1, e2, kb _ _ fC.2.1.symm e3, e4, e5⟩
  · refine (I8.hok b u e).stay (fun c w' hc q => kb c w' ?_ q) (fun _ q => q) fun _ _ q => q
    rintro rfl
    rcases hc with rfl | hc
    · rw [hfC] at e; cases e
    · rw [hfC] at hc; cases hc
end G
namespace G
open PySem L2 PySem.Spec PyProof.Rows
def BitsOk (ns : List Int) : Prop := ∀ i ∈ ns, Builtin.Int.intBits i ≤ 2 ^ 20
theorem bits_int {i : Int} (h : (PySem.W.WData.int i).layable = true) : Builtin.Int.intBits i ≤ 2 ^ 20 := by
  unfold PySem.W.WData.layable at h
  simp only [Bool.and_eq_true, decide_eq_true_eq] at h
  have := h.2
  simp [PySem.W.WData.weight] at this
  unfold Builtin.Int.intBits
  simpa using this
theorem walk_ofB {l : PySem.W.OpenLaw} {n k : Nat} {q : Program} {loose : List Str} {XP : (Str → Option Value) → Heap → Prop} {YP : World → Heap → Prop} {d : DefRec} {K : Params → PySem.W.Frag} {CX : World → CXT} {sp : World → Sp} {x : Str}
    (hn : l.most = some n) (hn2 : n ≤ sizeLine) (hdf : d.params.defaults = []) (hr : Room k callerA)
    (hY : ∀ (w : World) (h : Heap), YP w h → (K w.params).In h)
    (F : ∀ (w : World) (mg : Str → Option Value) (fa : Addr) (h : Heap), (K w.params).In h → h.Ns mainGlobals mg → mg d.name = some (.ref fa) →
      ∃ fd : FuncData, (∀ (s : Shared) (u : Value), BindsTo s fd ⟨[u], []⟩ [(x, u)]) ∧
        ∀ base : Heap, (K w.params).In base → base.Ns mainGlobals mg → FnOk l.prog w (K w.params) mg base (CX w) k fa fd [x] (sp w))
    (hsp : ∀ (w : World) (H : Hp) (a : Addr) (ns : List Int), ns.length ≤ n → Only H → SqL (K w.params) H a (ns.map V.int) → BitsOk ns → sp w [.ref a] H (fun v _ => v = .bl true) fun _ _ _ => False)
    (hCX : ∀ (w : World) (H : Hp) (s : Shared) (e : Value) (s' : Shared), CX w [] H s (fun _ _ _ => False) e s' → False) :
    PySem.W.WalkO q loose XP YP l.row.toRowW d [] (fun f vs => PySem.call f vs) := by
  intro w s₀ s₁ mg mb G Y fa o pm cd doc dV kV ho hd hcd hD hmg hg args vals as hpre hlay hrd hwl hlo
  obtain rfl : dV = .none := PySem.W.Dflts.none hD hdf
  obtain rfl : kV = .none := PySem.W.Dflts.noKw hD
  obtain ⟨a, vs, ns, rfl, rfl, hobj, hints, hlen⟩ := Att.script_of hn hpre hwl
  have hb : BitsOk ns := fun i hi => by
    unfold PySem.W.WData.layableAll at hlay
    rw [List.all_cons, Bool.and_eq_true] at hlay
    exact bits_int (PySem.W.layableW_item hlay.1 _ (List.mem_map.mpr ⟨i, hi, rfl⟩))
  have KX := hY w _ Y
  obtain ⟨fd, hbd, hF⟩ := F w mg fa _ KX G.T.g hmg
  refine PySem.W.enter_call (codeAny_mono (law_call KX G.T.g G.T.b G.T.builtins G.T.nolimit hg hobj hints (Nat.le_trans hlen hn2) hr hF hbd (fun H hO hS => hsp w H a ns hlen hO hS hb) fun H e s' => hCX w H s₁ e s') fun r s' hq => ?_)
  obtain ⟨rfl, h2, h3, h4⟩ := hq
  exact ⟨.inl ⟨.bool true, .bool true, [], rfl, fun _ => rfl, .bool true, Att.post_true l _, fun _ => ⟨List.Pairwise.nil, fun _ hm => (nomatch hm)⟩⟩, h2, h3, h4⟩
theorem op_mulW {X : Cx} : OpR X (binaryOp .Mult) (rI IntMulOk fun i j => .int (i * j)) := opI fun _ _ _ _ _ _ _ hc q => mul_int q hc
end G
namespace G
open PySem L2
def Ite (K : PySem.W.Frag) (a : Addr) : It :=
  ⟨fun i H => ∃ xs x, SqL K H a xs ∧ xs[i]? = some x, fun i H x H' => ∃ t v, x = .ref t ∧ H t = none ∧ H' = upd H t (.tup [.int i, v]) ∧ ∀ xs, SqL K H a xs → xs[i]? = some v, fun i H => ∃ xs, SqL K H a xs ∧ xs.length ≤ i⟩
def iEnum (K : PySem.W.Frag) (ta : TA) : TI := fun σ H R => ta σ H fun vs H1 => ∃ a, vs = [.ref a] ∧ (∃ xs, SqL K H1 a xs) ∧ R (Ite K a) H1
theorem i_iE {K : PySem.W.Frag} {ta : TA} {σ : L2.St} {H : Hp} {R : It → Hp → Prop} (h : ta σ H fun vs H1 => ∃ a, vs = [.ref a] ∧ (∃ xs, SqL K H1 a xs) ∧ R (Ite K a) H1) : iEnum K ta σ H R := h
section
variable {K : PySem.W.Frag} {a : Addr} {g : TG} {tb : TS} {σ : L2.St} {H : Hp} {n : L2.St → Hp → Prop} {r : VK}
theorem forE (xs : List V) (Pv : Nat → L2.St → Hp → Prop) (h0 : Pv 0 σ H) (hl : ∀ i σ H, i ≤ xs.length → Pv i σ H → SqL K H a xs)
    (hs : ∀ i x t σ H, xs[i]? = some x → Pv i σ H → H t = none → g (.ref t) σ (upd H t (.tup [.int i, x])) fun σ2 H2 => tb ⟨Pv (i + 1), r, n, Pv (i + 1)⟩ σ2 H2) (hd : ∀ σ H, Pv xs.length σ H → n σ H) :
    ∃ W : Nat → Nat → L2.St → Hp → Prop, (∃ m, W 0 m σ H) ∧ ∀ i m σ H, W i m σ H →
      ((Ite K a).stop i H ∧ n σ H) ∨ ((Ite K a).go i H ∧ ∃ N : L2.St → Hp → Prop, (∀ σ' H', N σ' H' → ∃ m', m' < m ∧ W (i + 1) m' σ' H') ∧ ∀ x H', (Ite K a).yld i H x H' → g x σ H' fun σ2 H2 => tb ⟨N, r, n, N⟩ σ2 H2) := by
  refine ⟨fun i m σ H => i ≤ xs.length ∧ m = xs.length - i ∧ Pv i σ H, ⟨xs.length, Nat.zero_le _, rfl, h0⟩, ?_⟩
  rintro i m σ H ⟨hi, rfl, p⟩
  have hq := hl i σ H hi p
  by_cases hk : i = xs.length
  · subst hk
    exact .inl ⟨⟨xs, hq, Nat.le_refl _⟩, hd σ H p⟩
  · have hlt : i < xs.length := by omega
    have hx : xs[i]? = some xs[i] := List.getElem?_eq_getElem hlt
    refine .inr ⟨⟨xs, _, hq, hx⟩, Pv (i + 1), fun σ' H' p' => ⟨xs.length - (i + 1), by omega, by omega, rfl, p'⟩, ?_⟩
    rintro x H' ⟨t, v, rfl, ht, rfl, hv⟩
    exact hs i v t σ H (hv xs hq) p ht
end
end G
namespace G
open PySem L2 PySem.Spec PyProof.Rows
theorem inv_turn2 {X : Cx} {pins : List (Addr × Obj)} {σ : L2.St} {H : Hp} {s : Shared} {h' : Heap} {t' : Nat} {e it : Addr} (I : Inv X pins σ H s) (k : ∀ b u, b ≠ e → b ≠ it → s.heap.get? b = some u → h'.get? b = some u) (fe : FpOk X pins H e) (fi : FpOk X pins H it) :
    Inv X pins σ H { s with heap := h', toks := t' } := by
  have ne : ∀ b u, H b = some u → b ≠ e := fun b u q z => by rw [z, fe.1] at q; cases q
  have ni : ∀ b u, H b = some u → b ≠ it := fun b u q z => by rw [z, fi.1] at q; cases q
  have nm : ∀ b, b ∉ [e, it] → b ≠ e ∧ b ≠ it := fun b hb => ⟨fun z => hb (by simp [z]), fun z => hb (by simp [z])⟩
  refine I.step (g' := s.gens) (d' := s.drawn) (ch := [e, it]) (fun b hb => ?_) (fun b o _ _ hc q _ => k b o (nm b hc).1 (nm b hc).2 q) (fun b o _ _ hc q _ => ⟨o.slots, k b o (nm b hc).1 (nm b hc).2 q⟩) (fun _ _ _ _ n => n)
    (fun b o hc q => ⟨o, k b o (nm b hc).1 (nm b hc).2 q⟩) (fun _ _ q => q) (fun _ _ _ q => q) (fun b ps q => ⟨#[], by rw [q]; simp⟩) (fun m hm => ?_) (fun b u q => ?_) I.bare
  · rcases List.mem_cons.mp hb with z | z
    · rw [z]; exact ⟨fe.2.2.2.1, fe.2.1, fe.2.2.2.2.1, fe.2.2.2.2.2⟩
    · have z' : b = it := by simpa using z
      rw [z']; exact ⟨fi.2.2.2.1, fi.2.1, fi.2.2.2.2.1, fi.2.2.2.2.2⟩
  · obtain ⟨o, es, ep, ho, r⟩ := hm
    exact ⟨o, es, ep, k _ o (Ne.symm fe.2.1) (Ne.symm fi.2.1) ho, r⟩
  · refine (I.hok b u q).stay (fun c v hc z => ?_) (fun _ z => z) fun _ _ z => z
    rcases hc with y | y
    · rw [y] at z ⊢; exact k b v (ne b u q) (ni b u q) z
    · exact k c v (ne c _ y) (ni c _ y) z
theorem inv_turn2_laid {X : Cx} {pins : List (Addr × Obj)} {σ : L2.St} {H : Hp} {s : Shared} {h' : Heap} {t' : Nat} {e it a : Addr} {o : HO} (I : Inv X pins σ H s) (k : ∀ b u, b ≠ e → b ≠ it → s.heap.get? b = some u → h'.get? b = some u) (fe : FpOk X pins H e) (fi : FpOk X pins H it)
    (ha : s.heap.objs.size ≤ a) (new : ObjOk X.prog X.w (upd H a o) h' a o) : Inv X pins σ (upd H a o) { s with heap := h', toks := t' } := by
  have hn := I.hok.fresh ha
  have ne : ∀ b u, H b = some u → b ≠ e := fun b u q z => by rw [z, fe.1] at q; cases q
  have ni : ∀ b u, H b = some u → b ≠ it := fun b u q z => by rw [z, fi.1] at q; cases q
  have nm : ∀ b, b ∉ [e, it] → b ≠ e ∧ b ≠ it := fun b hb => ⟨fun z => hb (by simp [z]), fun z => hb (by simp [z])⟩
  have na : ∀ b u, s.heap.get? b = some u → b ≠ a := fun b u q => Nat.ne_of_lt (Nat.lt_of_lt_of_le (Heap.lt_size q) ha)
  refine I.step (g' := s.gens) (d' := s.drawn) (ch := [e, it]) (fun b hb => ?_) (fun b o _ _ hc q _ => k b o (nm b hc).1 (nm b hc).2 q) (fun b o _ _ hc q _ => ⟨o.slots, k b o (nm b hc).1 (nm b hc).2 q⟩) (fun b u _ q n => (upd_ne (na b u q)).trans n)
    (fun b o hc q => ⟨o, k b o (nm b hc).1 (nm b hc).2 q⟩) (fun b xs q => (upd_ne (ne_of_none q hn)).trans q) (fun b o xs q => (upd_ne (ne_of_none q hn)).trans q) (fun b ps q => ⟨#[], by rw [upd_ne (ne_of_none q hn), q]; simp⟩) (fun m hm => ?_) (fun b u q => ?_) I.bare
  · rcases List.mem_cons.mp hb with z | z
    · rw [z]; exact ⟨fe.2.2.2.1, fe.2.1, fe.2.2.2.2.1, fe.2.2.2.2.2⟩
    · have z' : b = it := by simpa using z
      rw [z']; exact ⟨fi.2.2.2.1, fi.2.1, fi.2.2.2.2.1, fi.2.2.2.2.2⟩
  · obtain ⟨o, es, ep, ho, r⟩ := hm
    exact ⟨o, es, ep, k _ o (Ne.symm fe.2.1) (Ne.symm fi.2.1) ho, r⟩
  · by_cases hb : b = a
    · subst hb; rw [upd_same] at q; cases q; exact new
    · rw [upd_ne hb] at q
      refine (I.hok b u q).stay (fun c v hc z => ?_) (fun c z => by rw [upd_ne (ne_of_none z hn)]; exact z) fun c xs z => by rw [upd_ne (ne_of_none z hn)]; exact z
      rcases hc with y | y
      · rw [y] at z ⊢; exact k b v (ne b u q) (ni b u q) z
      · exact k c v (ne c _ y) (ni c _ y) z
theorem turn_enum {P : Program} {w : World} {K : PySem.W.Frag} {elts : List Expr} {x1 : Nat} {pt : Pos} (a e it : Addr) (hne : e ≠ it) :
    Turn P w K (.Tuple elts x1 pt) (Ite K a) [e, it] e (fun i h => (∃ old, IsEnum h e it ((i : Nat) : Int) old) ∧ h.IsListIter it a i) where
  mem := by simp
  obj := fun i h st b hb => by
    obtain ⟨⟨old, he⟩, o, ho, c, d⟩ := st
    rcases List.mem_cons.mp hb with z | z
    · rw [z]; exact ⟨_, he, fun v z => by cases z⟩
    · have z' : b = it := by simpa using z
      rw [z']; exact ⟨o, ho, fun v z => by rw [d] at z; cases z⟩
  keep := fun i h h' st k => ⟨let ⟨old, he⟩ := st.1; ⟨old, k e (by simp) _ he⟩, st.2.at fun o q => k it (by simp) o q⟩
  item := by
    intro X hP hw hK hc i pins s σ H E I hf st hg
    subst hP hw hK
    obtain ⟨xs, x, hq, hx⟩ := hg
    obtain ⟨its, rv, p, hz⟩ := I.list hq
    obtain ⟨u, hu, ru⟩ := rv.get hx
    obtain ⟨⟨old, he⟩, hit⟩ := st
    have fe := hf e (by simp)
    have fi := hf it (by simp)
    have hes : e < s.heap.objs.size := Heap.lt_size he
    have his : it < s.heap.objs.size := by obtain ⟨o, q, _⟩ := hit; exact Heap.lt_size q
    refine wpAny_pyNext_enum_item he hit p.isList (x := u) (by simpa using hu) hne fun h1 ho1 hit1 ht1 hz1 hk1 => ?_
    refine ⟨_, rfl, wpAny_letOwnedTupleGo_enum (s := { s with heap := h1, toks := s.toks + 1 }) ho1 fun h2 he2 hs2 => ?_⟩
    replace hs2 : Heap.SameBut e h1 h2 := hs2
    have hn : H s.heap.objs.size = none := I.hok.fresh (Nat.le_refl _)
    have I2 : Inv X pins σ (upd H s.heap.objs.size (.tup [.int ((i : Nat) : Int), x])) { s with heap := h2, toks := s.toks + 1 } := by
      refine inv_turn2_laid I (fun b v hb hb' q => hs2.extBut b v hb (hk1 b v hb hb' q)) fe fi (Nat.le_refl _) ?_
      refine ⟨by show 2 ≤ sizeLine; decide, [.int ((i : Nat) : Int) s.toks, u], .cons ⟨_, rfl⟩ (.cons ru .nil), ⟨_, hs2.extBut _ _ (Nat.ne_of_gt hes) ht1, rfl, _, rfl⟩⟩
    refine ⟨.ref s.heap.objs.size, _, I2, rfl, ⟨_, x, rfl, hn, rfl, fun ys hy => by rw [I.list_inj hy hq]; exact hx⟩, ⟨⟨u, ?_⟩, hit1.extBut hs2.extBut (Ne.symm hne)⟩, fun b hb => ?_⟩
    · have e1 : (((i + 1 : Nat)) : Int) = (i : Int) + 1 := by omega
      show IsEnum h2 e it (((i + 1 : Nat)) : Int) u
      rw [e1]; exact he2
    · rcases List.mem_cons.mp hb with z | z
      · rw [z, upd_ne (Nat.ne_of_lt hes)]; exact fe.1
      · have z' : b = it := by simpa using z
        rw [z', upd_ne (Nat.ne_of_lt his)]; exact fi.1
  done := by
    intro X hP hw hK hc i pins s σ H E I hf st hg
    subst hP hw hK
    obtain ⟨xs, hq, hx⟩ := hg
    obtain ⟨its, rv, p, hz⟩ := I.list hq
    obtain ⟨⟨old, he⟩, hit⟩ := st
    have hl := rv.length
    exact wpAny_pyNext_enum_end (I.ok.hd hc) he hit p.isList (by simp; omega) fun h' hx' => ⟨rfl, inv_turn2 (t' := s.toks) I (fun b o _ hb' q => hx' b o hb' q) (hf e (by simp)) (hf it (by simp))⟩
  self := fun A i s Q E st h => let ⟨_, he⟩ := st.1; wpAny_pyIter_enum he h
theorem pi_enum {X : Cx} {elts : List Expr} {x1 : Nat} {pt : Pos} {l : Expr} {ta : TA} {p pos : Pos} (hg : Gl X "enumerate") (hm : X.mg "enumerate" = none) (ha : PA X [l] ta) (hs : starEach [l] X.env = [(false, eval l X.env)] := by rfl) :
    PI X (.Tuple elts x1 pt) (.Call (.Name "enumerate" p) [l] [] pos) (iEnum X.K ta) := by
  intro pins s σ H R I h
  refine Call_ (ld_blt I hg hm boot_enumerate (PyProof.Rows.callWith_type1 (thn (ha pos pins s σ H _ I h) fun us s1 ⟨vs, H1, I1, r1, q1⟩ => ?_) hs rfl))
  obtain ⟨a, e, ⟨xs, hq⟩, q⟩ := q1
  subst e
  cases r1 with
  | cons r rr =>
    cases rr
    obtain rfl : _ = Value.ref a := r
    obtain ⟨its, rv, pl, hz⟩ := I1.list hq
    refine call_enumerate_list pl.isList fun h' he hit hsz hk => ?_
    have I2 : Inv X pins σ H1 { s1 with heap := h' } := I1.kept (t' := s1.toks) hk
    refine wpAny_pyIter_enum (s := { s1 with heap := h' }) he ?_
    have hf : ∀ b, s1.heap.objs.size ≤ b → FpOk X pins H1 b := fun b hb => I1.fpOk hb (I1.hok.fresh hb)
    refine ⟨_, [s1.heap.objs.size + 1, s1.heap.objs.size], _, _, H1, rfl, I2, turn_enum a _ _ (Nat.succ_ne_self _), ⟨⟨_, he⟩, hit⟩, fun b hb => ?_, q⟩
    rcases List.mem_cons.mp hb with z | z
    · rw [z]; exact hf _ (Nat.le_succ _)
    · have z' : b = s1.heap.objs.size := by simpa using z
      rw [z']; exact hf _ (Nat.le_refl _)
end G
namespace G
open PySem L2 PySem.Spec PyProof.Rows
abbrev kwS (t : Tok) : List (Str × Value) := [("start", .int 1 t)]
theorem en_ct (a : Value) (t : Tok) : checkTypeCall "enumerate" ⟨[a], kwS t⟩ = pure () := by kernel_rfl
theorem en_cn (a : Value) (t : Tok) : checkBuiltinCall "enumerate.__new__" ⟨[.type "enumerate", a], kwS t⟩ = pure () := by kernel_rfl
theorem en_ok (o a : Value) (t : Tok) : argsOk "object.__init__" ⟨[o, a], kwS t⟩ := by unfold argsOk; kernel_rfl
theorem en_ini (self a : Value) (t : Tok) : Meets (Builtin.«object.__init__» ⟨[self, a], kwS t⟩) (fun _ R s => s.TypeIs self "enumerate" ∧ R (.ok (.ret .none)) s) := by
  have hl := PySem.F.called_enumerate.init.lookup
  have hm := PySem.F.called_enumerate.made
  have hne : (some "enumerate.__new__" != some "object.__new__") = true := by decide
  refine Meets.of_wp fun prog w A R s hs => ?_
  obtain ⟨hT, hq⟩ := hs
  repeat (any_goals (first | assumption | wp_step))
  exact ⟨_, rfl, hq⟩
theorem en_new (l : Addr) (items : Array Value) (n : Nat) (dct : Option Addr) (sl : Array (Option Value)) (t : Tok) :
    Meets (Builtin.«enumerate.__new__» ⟨[.type "enumerate", .ref l], kwS t⟩) (fun _ R s => s.heap.get? l = some { cls := .type "list", dict := dct, data := .seq items n, slots := sl } ∧
      R (.ok (.ret (.ref (s.heap.push { cls := .type "list_iterator", data := .fields #[.ref l, .int 0 0] }).objs.size)))
        { s with heap := (s.heap.push { cls := .type "list_iterator", data := .fields #[.ref l, .int 0 0] }).push { cls := .type "enumerate", data := .fields #[.none, .bool false, .ref s.heap.objs.size, rawInt 1, .none, .none] } }) :=
  .of_wp fun prog w A R s h => by
    obtain ⟨hp, g, d, tk, os⟩ := s; obtain ⟨hl, h⟩ := h
    have hsub := sub_enumerate
    have hL : Heap.IsList (Shared.heap ⟨hp, g, d, tk, os⟩) l items := ⟨_, hl, rfl, n, rfl⟩
    wp_walk using AutoSeq1.wpAny_loadPart' hl
    refine wpAny_stack_any fun st => wpAny_pure ?_
    split
    · rename_i c _ _ _ _ _
      cases (c == Value.type "enumerate")
      · wp_walk using AutoSeq1.wpAny_loadPart' hl, wpAny_pyIter_list hL
        exact ⟨_, rfl, h⟩
      · wp_walk using AutoSeq1.wpAny_loadPart' hl, wpAny_pyIter_list hL
        exact ⟨_, rfl, h⟩
    · wp_walk using AutoSeq1.wpAny_loadPart' hl, wpAny_pyIter_list hL
      exact ⟨_, rfl, h⟩
theorem en_call {prog : Program} {w : World} {A : Around} {E : Value → Shared → Prop} {s : Shared} {l : Addr} {items : Array Value} {t : Tok} {Q : Value → Shared → Prop} (hL : s.heap.IsList l items)
    (h : ∀ h', IsEnum h' (s.heap.objs.size + 1) s.heap.objs.size 1 .none → h'.IsListIter s.heap.objs.size l 0 → (∀ b o, s.heap.get? b = some o → h'.get? b = some o) → Q (.ref (s.heap.objs.size + 1)) { s with heap := h' }) :
    wpAny (model prog w) A (call (.type "enumerate") [.ref l] (kwS t)) Q E s := by
  obtain ⟨⟨c, dct, dt, sl⟩, hl, hc, n, hd⟩ := hL
  replace hc : c = .type "list" := hc
  replace hd : dt = .seq items n := hd
  subst hc hd
  have ft := PySem.F.called_enumerate
  obtain ⟨c, tl, hmro⟩ := ft.mro
  have hmade := ft.made
  have hsub := ft.sub
  have hct := en_ct (.ref l) t
  refine wpAny_call (codeAny_of_tree ?_)
  show wpAny _ _ (callAny (.type "enumerate") _) _ _ _
  refine wpAny_pure ⟨Code.quiet_builtin _ (by decide +kernel), codeAny_builtin PySem.F.entry_type_call ?_⟩
  rw [Around.under_plain (weight_type_call_type "enumerate" [.ref l] (kwS t)) (units_type_call_type "enumerate" [.ref l] (kwS t))]
  have h1 := ft.notType
  have h2 := ft.canCreate
  repeat (any_goals (first | assumption | wp_step))
  have hz : (s.heap.push { cls := .type "list_iterator", data := .fields #[.ref l, .int 0 0] }).objs.size = s.heap.objs.size + 1 := Heap.size_push ..
  have he : IsEnum ((s.heap.push { cls := .type "list_iterator", data := .fields #[.ref l, .int 0 0] }).push { cls := .type "enumerate", data := .fields #[.none, .bool false, .ref s.heap.objs.size, rawInt 1, .none, .none] }) (s.heap.objs.size + 1) s.heap.objs.size 1 .none := by
    have := Heap.get?_push_size (s.heap.push { cls := .type "list_iterator", data := .fields #[.ref l, .int 0 0] }) (o := { cls := .type "enumerate", data := .fields #[.none, .bool false, .ref s.heap.objs.size, rawInt 1, .none, .none] }) rfl
    rw [hz] at this; exact this
  let s1 : Shared := { s with heap := (s.heap.push { cls := .type "list_iterator", data := .fields #[.ref l, .int 0 0] }).push { cls := .type "enumerate", data := .fields #[.none, .bool false, .ref s.heap.objs.size, rawInt 1, .none, .none] } }
  refine codeAny_mono (codeAny_call_builtin (R := fun r s' => r = .ok (.ret (.ref (s.heap.objs.size + 1))) ∧ s' = s1) ft.plain PySem.F.entry_enumerate_new (wpAny_of_eq (en_cn (.ref l) t) (en_new l items n dct sl t prog w A.in1 (fun r s' => r = .ok (.ret (.ref (s.heap.objs.size + 1))) ∧ s' = s1) s ⟨hl, by rw [hz]; exact ⟨rfl, rfl⟩⟩))) fun r s2 hr => ?_
  obtain ⟨rfl, rfl⟩ := hr
  have hT : s1.TypeIs (.ref (s.heap.objs.size + 1)) "enumerate" := ⟨_, he, rfl⟩
  have hli := ft.init.lookup
  have hbi := ft.init.bind (.ref (s.heap.objs.size + 1))
  have hQ : Q (.ref (s.heap.objs.size + 1)) s1 := h _ he ⟨_, Heap.get?_push_of_some _ (Heap.get?_push_size _ rfl), rfl, rfl⟩ fun b o x => Heap.get?_push_of_some _ (Heap.get?_push_of_some _ x)
  repeat (any_goals (first | assumption | wp_step))
  refine codeAny_mono (codeAny_call_builtin (R := fun r s' => r = .ok (.ret .none) ∧ s' = s1) ft.init.plain PySem.F.entry_object_init (ft.init.check _ _ _ _ _ _ _ _ hT (en_ok _ _ t) (en_ini _ _ t prog w A.in1 (fun r s' => r = .ok (.ret .none) ∧ s' = s1) s1 ⟨hT, rfl, rfl⟩))) fun r s2 hr => ?_
  obtain ⟨rfl, rfl⟩ := hr
  repeat (any_goals (first | assumption | wp_step))
end G
namespace G
open PySem L2 PySem.Spec PyProof.Rows
def Ites (K : PySem.W.Frag) (a : Addr) : It :=
  ⟨fun i H => ∃ xs x, SqL K H a xs ∧ xs[i]? = some x, fun i H x H' => ∃ t v, x = .ref t ∧ H t = none ∧ H' = upd H t (.tup [.int (i + 1), v]) ∧ ∀ xs, SqL K H a xs → xs[i]? = some v, fun i H => ∃ xs, SqL K H a xs ∧ xs.length ≤ i⟩
def iEnumS (K : PySem.W.Frag) (ta : TA) : TI := fun σ H R => ta σ H fun vs H1 => ∃ a, vs = [.ref a] ∧ (∃ xs, SqL K H1 a xs) ∧ R (Ites K a) H1
theorem i_iES {K : PySem.W.Frag} {ta : TA} {σ : L2.St} {H : Hp} {R : It → Hp → Prop} (h : ta σ H fun vs H1 => ∃ a, vs = [.ref a] ∧ (∃ xs, SqL K H1 a xs) ∧ R (Ites K a) H1) : iEnumS K ta σ H R := h
theorem enumS_end {prog : Program} {w : World} {A : Around} {E : Value → Shared → Prop} {s : Shared} {e it l : Addr} {i : Nat} {c : Int} {items : Array Value} {old : Value} {Q : Option Value → Shared → Prop} (hh : A.handled = none)
    (he : IsEnum s.heap e it c old) (hit : s.heap.IsListIter it l i) (hl : s.heap.IsList l items) (hx : items[i]? = none) (hQ : ∀ h', Heap.ExtBut it s.heap h' → Q none { s with heap := h' }) : wpAny (model prog w) A (pyNext (.ref e)) Q E s := by
  have hT : s.TypeIs (.ref e) "enumerate" := ⟨_, he, rfl⟩
  have S := PySem.F.slot_enumerate_next
  unfold pyNext
  refine wpAny_bind (wpAny_attempt (wpAny_callSpecial?_slot (name := Str.ofString "__next__") hT S (wpAny_call_entry S hT PySem.F.entry_enumerate_next ?_ (PySem.F.args_enumerate_next_1 _))))
  show wpAny _ _ (field (.ref e) 2 >>= _) _ _ _
  refine wpAny_bind (wpAny_field he rfl (x := .ref it) rfl (wpAny_bind (wpAny_nextOf_list_end hh hit hl hx fun h' x k hx' => ?_)))
  obtain ⟨o, ho, hc⟩ := hx'
  exact wpAny_bind (wpAny_isInstance (T := "StopIteration") (b := true) ⟨o, ho, hc⟩ isSubtype_stop (wpAny_pure (hQ _ k)))
theorem draw1 {prog : Program} {w : World} {A : Around} (hh : A.handled = none) (it l : Addr) (hne : l ≠ it) (items : Array Value) :
    Draws prog w A it [it, l] (items.size + 1) (fun i v => items[i - 1]? = some v) (fun i h => 1 ≤ i ∧ h.IsListIter it l (i - 1) ∧ h.IsList l items) where
  live := fun _ _ st => let ⟨o, ho, _⟩ := st.2.1; ⟨o, ho⟩
  frame := fun _ _ _ st hk => ⟨st.1, st.2.1.at fun o e => hk it (by simp) o e, st.2.2.at fun o e => hk l (by simp) o e⟩
  item := fun i s Q E hi st hQ => by
    have h1 := st.1
    have hlt : i - 1 < items.size := by omega
    refine wpAny_nextOf_list_item st.2.1 st.2.2 (x := items[i - 1]) (by simp [hlt]) fun h' hit' hs' => ?_
    refine hQ _ h' s.toks (by simp [hlt]) ⟨by omega, ?_, st.2.2.extBut hs'.extBut hne⟩ hs'
    rw [show i + 1 - 1 = i - 1 + 1 by omega]
    exact hit'
  done := fun s Q E st hE => wpAny_nextOf_list_end hh st.2.1 st.2.2 (by simp) hE
theorem turn_enumS {P : Program} {w : World} {K : PySem.W.Frag} {elts : List Expr} {x1 : Nat} {pt : Pos} (a e it : Addr) (hne : e ≠ it) :
    Turn P w K (.Tuple elts x1 pt) (Ites K a) [e, it] e (fun i h => (∃ old, IsEnum h e it (((i + 1 : Nat)) : Int) old) ∧ h.IsListIter it a i) where
  mem := by simp
  obj := fun i h st b hb => by
    obtain ⟨⟨old, he⟩, o, ho, c, d⟩ := st
    rcases List.mem_cons.mp hb with z | z
    · rw [z]; exact ⟨_, he, fun v z => by cases z⟩
    · have z' : b = it := by simpa using z
      rw [z']; exact ⟨o, ho, fun v z => by rw [d] at z; cases z⟩
  keep := fun i h h' st k => ⟨let ⟨old, he⟩ := st.1; ⟨old, k e (by simp) _ he⟩, st.2.at fun o q => k it (by simp) o q⟩
  item := by
    intro X hP hw hK hc i pins s σ H E I hf st hg
    subst hP hw hK
    obtain ⟨xs, x, hq, hx⟩ := hg
    obtain ⟨its, rv, p, hz⟩ := I.list hq
    obtain ⟨u, hu, ru⟩ := rv.get hx
    obtain ⟨⟨old, he⟩, hit⟩ := st
    have fe := hf e (by simp)
    have fi := hf it (by simp)
    have hes : e < s.heap.objs.size := Heap.lt_size he
    have his : it < s.heap.objs.size := by obtain ⟨o, q, _⟩ := hit; exact Heap.lt_size q
    obtain ⟨ol, hol, hoc, _⟩ := id p.isList
    have nea : e ≠ a := fun z => by
      have he' : s.heap.get? e = some _ := he
      rw [z, hol] at he'; cases he'; exact absurd (show Value.type "enumerate" = Value.type "list" from hoc) (by decide)
    have nia : a ≠ it := fun z => by obtain ⟨o, ho, c, _⟩ := hit; rw [← z, hol] at ho; cases ho; rw [hoc] at c; exact absurd c (by decide)
    have hlt : i + 1 < its.toArray.size + 1 := by
      have := (List.getElem?_eq_some_iff.mp hu).1
      simpa using this
    refine wpAny_pyNext_enum_itemD (draw1 (A := X.A.in1) (I.ok.hd hc) it a nia its.toArray) (i := i + 1) he ⟨Nat.succ_le_succ (Nat.zero_le _), hit, p.isList⟩ hlt hne (by simp [hne, nea]) fun x' h1 tk hx' ho1 hit1 ht1 hz1 hk1 => ?_
    have ex : x' = u := by
      have z : its[i]? = some x' := by simpa using hx'
      rw [hu] at z; cases z; rfl
    subst ex
    refine ⟨_, rfl, wpAny_letOwnedTupleGo_enum (s := { s with heap := h1, toks := tk + 1 }) ho1 fun h2 he2 hs2 => ?_⟩
    replace hs2 : Heap.SameBut e h1 h2 := hs2
    have hn : H s.heap.objs.size = none := I.hok.fresh (Nat.le_refl _)
    have I2 : Inv X pins σ (upd H s.heap.objs.size (.tup [.int ((i : Nat) + 1 : Int), x])) { s with heap := h2, toks := tk + 1 } := by
      refine inv_turn2_laid I (fun b v hb hb' q => hs2.extBut b v hb (hk1 b v hb hb' q)) fe fi (Nat.le_refl _) ?_
      refine ⟨by show 2 ≤ sizeLine; decide, [.int (((i + 1 : Nat)) : Int) tk, x'], .cons ⟨_, rfl⟩ (.cons ru .nil), ⟨_, hs2.extBut _ _ (Nat.ne_of_gt hes) ht1, rfl, _, rfl⟩⟩
    refine ⟨.ref s.heap.objs.size, _, I2, rfl, ⟨_, x, rfl, hn, rfl, fun ys hy => by rw [I.list_inj hy hq]; exact hx⟩, ⟨⟨x', ?_⟩, hit1.2.1.extBut hs2.extBut (Ne.symm hne)⟩, fun b hb => ?_⟩
    · have e1 : (((i + 1 + 1 : Nat)) : Int) = (((i + 1 : Nat)) : Int) + 1 := by omega
      show IsEnum h2 e it (((i + 1 + 1 : Nat)) : Int) x'
      rw [e1]; exact he2
    · rcases List.mem_cons.mp hb with z | z
      · rw [z, upd_ne (Nat.ne_of_lt hes)]; exact fe.1
      · have z' : b = it := by simpa using z
        rw [z', upd_ne (Nat.ne_of_lt his)]; exact fi.1
  done := by
    intro X hP hw hK hc i pins s σ H E I hf st hg
    subst hP hw hK
    obtain ⟨xs, hq, hx⟩ := hg
    obtain ⟨its, rv, p, hz⟩ := I.list hq
    obtain ⟨⟨old, he⟩, hit⟩ := st
    have hl := rv.length
    obtain ⟨ol, hol, hoc, _⟩ := id p.isList
    have nia : a ≠ it := fun z => by obtain ⟨o, ho, c, _⟩ := hit; rw [← z, hol] at ho; cases ho; rw [hoc] at c; exact absurd c (by decide)
    exact enumS_end (I.ok.hd hc) he hit p.isList (by simp; omega) fun h' hx' => ⟨rfl, inv_turn2 (t' := s.toks) I (fun b o _ hb' q => hx' b o hb' q) (hf e (by simp)) (hf it (by simp))⟩
  self := fun A i s Q E st h => let ⟨_, he⟩ := st.1; wpAny_pyIter_enum he h
theorem pi_enumS {X : Cx} {elts : List Expr} {x1 : Nat} {pt : Pos} {l : Expr} {ta : TA} {p pos kp cp : Pos} {ck : Nat} (hg : Gl X "enumerate") (hm : X.mg "enumerate" = none) (ha : PA X [l] ta) (hs : starEach [l] X.env = [(false, eval l X.env)] := by rfl) :
    PI X (.Tuple elts x1 pt) (.Call (.Name "enumerate" p) [l] [⟨some "start", .Constant (.int 1) ck cp, kp⟩] pos) (iEnumS X.K ta) := by
  intro pins s σ H R I h
  refine wpAny_Call_Name_kw (ld_blt I hg hm boot_enumerate ?_)
  unfold callWith
  refine wpAny_bind (wpAny_holding ?_)
  have q0 := ha pos pins s σ H _ I h
  rw [hs] at q0 ⊢
  refine evalArgs_kwB (rest := []) rfl (thn q0 fun us s1 ⟨vs, H1, I1, r1, q1⟩ => ?_)
  refine kws_cons (thn (pe_int (X := X) pins s1 σ H1 (fun v H' => v = .int 1 ∧ H' = H1) I1 ⟨rfl, rfl⟩) fun u s2 ⟨v, H2, I2, rv, ev, eH⟩ => kws_nil (wpAny_bind (wpAny_standAt ?_)))
  subst ev eH
  obtain ⟨tk, rfl⟩ := (show ∃ t, u = Value.int 1 t from rv)
  obtain ⟨a, e, ⟨xs, hq⟩, q⟩ := q1
  subst e
  cases r1 with
  | cons r rr =>
    cases rr
    obtain rfl : _ = Value.ref a := r
    obtain ⟨its, rv, pl, hz⟩ := I2.list hq
    refine wpAny_bind (wpAny_pure (wpAny_bind (en_call (t := tk) pl.isList fun h' he hit hk => wpAny_bind (wpAny_holding (wpAny_point (wpAny_pure ?_))))))
    have I3 : Inv X pins σ H2 { s2 with heap := h' } := I2.kept (t' := s2.toks) hk
    refine wpAny_pyIter_enum (s := { s2 with heap := h' }) he ?_
    have hf : ∀ b, s2.heap.objs.size ≤ b → FpOk X pins H2 b := fun b hb => I2.fpOk hb (I2.hok.fresh hb)
    refine ⟨_, [s2.heap.objs.size + 1, s2.heap.objs.size], _, _, H2, rfl, I3, turn_enumS a _ _ (Nat.succ_ne_self _), ⟨⟨_, he⟩, hit⟩, fun b hb => ?_, q⟩
    rcases List.mem_cons.mp hb with z | z
    · rw [z]; exact hf _ (Nat.le_succ _)
    · have z' : b = s2.heap.objs.size := by simpa using z
      rw [z']; exact hf _ (Nat.le_refl _)
theorem forES {K : PySem.W.Frag} {a : Addr} {g : TG} {tb : TS} {σ : L2.St} {H : Hp} {n : L2.St → Hp → Prop} {r : VK} (xs : List V) (Pv : Nat → L2.St → Hp → Prop) (h0 : Pv 0 σ H) (hl : ∀ i σ H, i ≤ xs.length → Pv i σ H → SqL K H a xs)
    (hs : ∀ i x t σ H, xs[i]? = some x → Pv i σ H → H t = none → g (.ref t) σ (upd H t (.tup [.int (i + 1), x])) fun σ2 H2 => tb ⟨Pv (i + 1), r, n, Pv (i + 1)⟩ σ2 H2) (hd : ∀ σ H, Pv xs.length σ H → n σ H) :
    ∃ W : Nat → Nat → L2.St → Hp → Prop, (∃ m, W 0 m σ H) ∧ ∀ i m σ H, W i m σ H →
      ((Ites K a).stop i H ∧ n σ H) ∨ ((Ites K a).go i H ∧ ∃ N : L2.St → Hp → Prop, (∀ σ' H', N σ' H' → ∃ m', m' < m ∧ W (i + 1) m' σ' H') ∧ ∀ x H', (Ites K a).yld i H x H' → g x σ H' fun σ2 H2 => tb ⟨N, r, n, N⟩ σ2 H2) := by
  refine ⟨fun i m σ H => i ≤ xs.length ∧ m = xs.length - i ∧ Pv i σ H, ⟨xs.length, Nat.zero_le _, rfl, h0⟩, ?_⟩
  rintro i m σ H ⟨hi, rfl, p⟩
  have hq := hl i σ H hi p
  by_cases hk : i = xs.length
  · subst hk
    exact .inl ⟨⟨xs, hq, Nat.le_refl _⟩, hd σ H p⟩
  · have hlt : i < xs.length := by omega
    have hx : xs[i]? = some xs[i] := List.getElem?_eq_getElem hlt
    refine .inr ⟨⟨xs, _, hq, hx⟩, Pv (i + 1), fun σ' H' p' => ⟨xs.length - (i + 1), by omega, by omega, rfl, p'⟩, ?_⟩
    rintro x H' ⟨t, v, rfl, ht, rfl, hv⟩
    exact hs i v t σ H (hv xs hq) p ht
end G
namespace G
open PySem L2 PySem.Spec PyProof.Rows
section
variable {X : Cx} {i o : Expr} {ty td : TE}
end
end G
namespace G
open PySem L2 PySem.Spec PyProof.Rows
section
variable {X : Cx}
end
end G
namespace G
open PySem L2 PySem.Spec PyProof.Rows
def Dq (K : PySem.W.Frag) (H : Hp) : Nat → V → V → Prop
  | 0, x, y => x = y ∧ flatV x = true
  | d + 1, x, y => (x = y ∧ flatV x = true) ∨ ∃ a b, x = .ref a ∧ y = .ref b ∧ (a = b ∨ ∃ xs ys, ((SqL K H a xs ∧ SqL K H b ys) ∨ (SqT K H a xs ∧ SqT K H b ys)) ∧ Al (Dq K H d) xs ys)
theorem dq_flat {K : PySem.W.Frag} {H : Hp} {d : Nat} {x : V} (h : flatV x = true) : Dq K H d x x := by
  cases d with
  | zero => exact ⟨rfl, h⟩
  | succ d => exact .inl ⟨rfl, h⟩
theorem dq_flats {K : PySem.W.Frag} {H : Hp} {d : Nat} : ∀ {xs : List V}, xs.all flatV = true → Al (Dq K H d) xs xs
  | [], _ => .nil
  | x :: xs, h => by
    rw [List.all_cons, Bool.and_eq_true] at h
    exact .cons (dq_flat h.1) (dq_flats h.2)
def rEqN (K : PySem.W.Frag) (neg : Bool) : R2 := fun x y H Q => ∃ a b xs ys, x = .ref a ∧ y = .ref b ∧ ((SqL K H a xs ∧ SqL K H b ys) ∨ (SqT K H a xs ∧ SqT K H b ys)) ∧ Al (Dq K H 6) xs ys ∧ Q (.bl (!neg)) H
section
variable {X : Cx}
theorem eqV_self : ∀ {x : V}, flatV x = true → eqV x x = true
  | .non, _ => rfl
  | .bl b, _ => by cases b <;> rfl
  | .int i, _ => by simp [eqV]
  | .str z, _ => by simp [eqV]
theorem dq_at {pins : List (Addr × Obj)} {σ : L2.St} {H : Hp} {s : Shared} (I : Inv X pins σ H s) : ∀ (d : Nat) {A : Around} {x y : V} {u v : Value}, A.units + d < cLine → RelV x u → RelV y v → Dq X.K H d x y → SeqAt.EqAt A s u v true := by
  intro d
  induction d with
  | zero =>
    intro A x y u v hu rx ry h
    obtain ⟨rfl, hf⟩ := h
    have := eqAt_V (A := A) (s := s) rx ry hf hf
    rw [eqV_self hf] at this
    exact this
  | succ d ih =>
    intro A x y u v hu rx ry h
    rcases h with ⟨rfl, hf⟩ | ⟨a, b, rfl, rfl, h⟩
    · have := eqAt_V (A := A) (s := s) rx ry hf hf
      rw [eqV_self hf] at this
      exact this
    · obtain rfl : u = Value.ref a := rx
      obtain rfl : v = Value.ref b := ry
      by_cases e : a = b
      · subst e; exact SeqAt.EqAt.same _
      rcases h with rfl | ⟨xs, ys, hs, al⟩
      · exact absurd rfl e
      · refine SeqAt.EqAt.of_refs e ?_
        have hl := al.length
        have hu' : A.units < cLine := by omega
        have item : ∀ {us ws : List Value}, Vals xs us → Vals ys ws → ∀ (j : Nat) (h1 : j < us.toArray.size) (h2 : j < ws.toArray.size), SeqAt.EqAt A.in1 s us.toArray[j] ws.toArray[j] true := by
          intro us ws r1 r2 j h1 h2
          rw [List.size_toArray] at h1 h2
          have l1 := r1.length
          have l2 := r2.length
          have a1 : xs[j]? = some xs[j] := List.getElem?_eq_getElem (by omega)
          have a2 : ys[j]? = some ys[j] := List.getElem?_eq_getElem (by omega)
          obtain ⟨u', e1, q1⟩ := r1.get a1
          obtain ⟨w', e2, q2⟩ := r2.get a2
          rw [List.getElem?_eq_getElem h1] at e1
          rw [List.getElem?_eq_getElem h2] at e2
          cases e1
          cases e2
          obtain ⟨x', e3, dq⟩ := al.get a2
          rw [a1] at e3
          cases e3
          exact ih (A := A.in1) (by show A.units + 1 + d < cLine; omega) q1 q2 dq
        rcases hs with ⟨ha, hb⟩ | ⟨ha, hb⟩
        · obtain ⟨us, r1, pl1, _⟩ := I.list ha
          obtain ⟨ws, r2, pl2, _⟩ := I.list hb
          have := SeqAt.RcAt.lists (A := A) (e := fun _ => true) pl1.isList pl2.isList (by rw [List.size_toArray, List.size_toArray, ← r1.length, ← r2.length]; exact hl) hu' (fun j h1 h2 => item r1 r2 j h1 h2)
          rw [show (List.range us.toArray.size).all (fun _ => true) = true from by rw [List.all_eq_true]; intros; rfl] at this
          exact this
        · obtain ⟨us, r1, pl1, _⟩ := I.tuple ha
          obtain ⟨ws, r2, pl2, _⟩ := I.tuple hb
          have e0 : us.toArray.size = ws.toArray.size := by rw [List.size_toArray, List.size_toArray, ← r1.length, ← r2.length]; exact hl
          have := SeqAt.RcAt.tuples (A := A) (e := fun _ => true) pl1 pl2 hu' (fun j h1 h2 => item r1 r2 j h1 h2)
          rw [show (List.range (min us.toArray.size ws.toArray.size)).all (fun _ => true) = true from by rw [List.all_eq_true]; intros; rfl, e0] at this
          simpa using this
theorem eqN_items {pins : List (Addr × Obj)} {σ : L2.St} {H : Hp} {s : Shared} (I : Inv X pins σ H s) {A : Around} (hu : A.units + 8 < cLine) {xs ys : List V} {us ws : List Value} (al : Al (Dq X.K H 6) xs ys) (r1 : Vals xs us) (r2 : Vals ys ws) (j : Nat) (h1 : j < us.toArray.size) (h2 : j < ws.toArray.size) : SeqAt.EqAt A.in1 s us.toArray[j] ws.toArray[j] true := by
  rw [List.size_toArray] at h1 h2
  have l1 := r1.length
  have l2 := r2.length
  have a1 : xs[j]? = some xs[j] := List.getElem?_eq_getElem (by omega)
  have a2 : ys[j]? = some ys[j] := List.getElem?_eq_getElem (by omega)
  obtain ⟨u', e1, q1⟩ := r1.get a1
  obtain ⟨w', e2, q2⟩ := r2.get a2
  rw [List.getElem?_eq_getElem h1] at e1
  rw [List.getElem?_eq_getElem h2] at e2
  cases e1
  cases e2
  obtain ⟨x', e3, dq⟩ := al.get a2
  rw [a1] at e3
  cases e3
  exact dq_at I 6 (A := A.in1) (by show A.units + 1 + 6 < cLine; omega) q1 q2 dq
theorem op_eqN (hu : X.A.units + 64 < cLine) : OpR X (compareOp .Eq) (rEqN X.K false) := by
  intro pins s σ H x y v u Q I rx ry h
  obtain ⟨p, q', xs, ys, rfl, rfl, hs, al, q⟩ := h
  obtain rfl : v = Value.ref p := rx
  obtain rfl : u = Value.ref q' := ry
  have hl := al.length
  rcases hs with ⟨ha, hb⟩ | ⟨ha, hb⟩
  · obtain ⟨us, r1, pl1, _⟩ := I.list ha
    obtain ⟨ws, r2, pl2, _⟩ := I.list hb
    refine SeqAt.eq_listAt (e := fun _ => true) pl1.isList pl2.isList (by rw [List.size_toArray, List.size_toArray, ← r1.length, ← r2.length]; exact hl) (by omega) (eqN_items I (by omega) al r1 r2) ?_
    rw [show (List.range us.toArray.size).all (fun _ => true) = true from by rw [List.all_eq_true]; intros; rfl]
    exact ⟨.bl _, H, I, rfl, q⟩
  · obtain ⟨us, r1, pl1, _⟩ := I.tuple ha
    obtain ⟨ws, r2, pl2, _⟩ := I.tuple hb
    have e0 : us.toArray.size = ws.toArray.size := by rw [List.size_toArray, List.size_toArray, ← r1.length, ← r2.length]; exact hl
    refine SeqAt.eq_tupleAt (e := fun _ => true) pl1 pl2 (by omega) (eqN_items I (by omega) al r1 r2) ?_
    rw [show (List.range (min us.toArray.size ws.toArray.size)).all (fun _ => true) = true from by rw [List.all_eq_true]; intros; rfl, e0]
    simp only [beq_self_eq_true, Bool.and_self]
    exact ⟨.bl _, H, I, rfl, q⟩
theorem op_neN (hu : X.A.units + 64 < cLine) : OpR X (compareOp .NotEq) (rEqN X.K true) := by
  intro pins s σ H x y v u Q I rx ry h
  obtain ⟨p, q', xs, ys, rfl, rfl, hs, al, q⟩ := h
  obtain rfl : v = Value.ref p := rx
  obtain rfl : u = Value.ref q' := ry
  have hl := al.length
  rcases hs with ⟨ha, hb⟩ | ⟨ha, hb⟩
  · obtain ⟨us, r1, pl1, _⟩ := I.list ha
    obtain ⟨ws, r2, pl2, _⟩ := I.list hb
    have := SeqAt.RcNeAt.lists (A := X.A) (s := s) (e := fun _ => true) pl1.isList pl2.isList (by rw [List.size_toArray, List.size_toArray, ← r1.length, ← r2.length]; exact hl) (by omega) (eqN_items I (by omega) al r1 r2)
    rw [show (List.range us.toArray.size).all (fun _ => true) = true from by rw [List.all_eq_true]; intros; rfl] at this
    exact this _ _ _ _ ⟨.bl _, H, I, rfl, q⟩
  · obtain ⟨us, r1, pl1, _⟩ := I.tuple ha
    obtain ⟨ws, r2, pl2, _⟩ := I.tuple hb
    have e0 : us.toArray.size = ws.toArray.size := by rw [List.size_toArray, List.size_toArray, ← r1.length, ← r2.length]; exact hl
    have := SeqAt.RcNeAt.tuples (A := X.A) (s := s) (e := fun _ => true) pl1 pl2 (by omega) (eqN_items I (by omega) al r1 r2)
    rw [show (List.range (min us.toArray.size ws.toArray.size)).all (fun _ => true) = true from by rw [List.all_eq_true]; intros; rfl, e0] at this
    simp only [beq_self_eq_true, Bool.and_self] at this
    exact this _ _ _ _ ⟨.bl _, H, I, rfl, q⟩
theorem i_eqN {K : PySem.W.Frag} {neg : Bool} {H : Hp} {Q : VK} {a b : Addr} {xs ys : List V} (hs : (SqL K H a xs ∧ SqL K H b ys) ∨ (SqT K H a xs ∧ SqT K H b ys)) (al : Al (Dq K H 6) xs ys) (q : Q (.bl (!neg)) H) : rEqN K neg (.ref a) (.ref b) H Q := ⟨a, b, xs, ys, rfl, rfl, hs, al, q⟩
end
end G
namespace G
open PySem L2 PySem.Spec PyProof.Rows PySem.Builtin PySem.Builtin.Str
theorem vals_strs : ∀ l : List (Str × Tok), Vals ((l.map (·.1)).map V.str) (strValues l)
  | [] => .nil
  | p :: l => .cons ⟨p.2, rfl⟩ (vals_strs l)
theorem strs_are : ∀ {ys : List Str} {us : List Value}, Vals (ys.map V.str) us → StrsAre us ys
  | [], _, .nil => .nil
  | y :: ys, _, .cons ⟨t, e⟩ r => by subst e; exact .cons y t (strs_are r)
theorem split_raw {prog : Program} {w : World} {A : Around} {E : Value → Shared → Prop} {s : Shared} {x y : Str} {t u : Tok} {Q : Value → Shared → Prop} (hy : (y.length == 0) = false)
    (h : ∀ (l : List (Str × Tok)) (k : Nat), l.map (·.1) = Txt.split x y → Q (.ref s.heap.objs.size) { s with heap := s.heap.push { cls := .type "list", data := .seq (strValues l).toArray }, toks := k })
    (hsz : x.length + 2 ≤ sizeLine) : wpAny (model prog w) A (call (.builtin "str.split") [.str x t, .str y u]) Q E s := by
  have hn : (partsBetween x (occurrences x y 0 x.length (x.length + 1)) y.length).length ≤ sizeLine := by
    have := StrLaws.occ_length_le x y 0 x.length (x.length + 1)
    rw [length_partsBetween]; omega
  cases h1 : (decide (x.length < y.length) || decide (strKind x < strKind y)) with
  | false =>
    cases hf : (occurrences x y 0 x.length (x.length + 1)).isEmpty with
    | false =>
      refine call_meets PySem.F.slot_str_split (typeIs_str _ _ _) PySem.F.entry_str_split (PySem.F.args_str_split_2 _ _) (meets_str_split_sep x y t u h1 hy hf (by omega) hn) ?_
      show wants Q E _ { s with toks := _, heap := s.heap.push { cls := .type "list", data := .seq (strsFrom s.toks (partsBetween x (occurrences x y 0 x.length (x.length + 1)) y.length)).toArray } }
      rw [strsFrom_eq]
      exact h (numbered s.toks _) _ ((numbered_texts _ _).trans ((if_neg (ne_true_of_eq_false h1)).trans (if_neg (ne_true_of_eq_false hf))).symm)
    | true =>
      exact call_meets PySem.F.slot_str_split (typeIs_str _ _ _) PySem.F.entry_str_split (PySem.F.args_str_split_2 _ _) (meets_str_split_not_found x y t u h1 hy hf)
        (h [(x, t)] s.toks ((if_neg (ne_true_of_eq_false h1)).trans (if_pos hf)).symm)
  | true =>
    exact call_meets PySem.F.slot_str_split (typeIs_str _ _ _) PySem.F.entry_str_split (PySem.F.args_str_split_2 _ _) (meets_str_split_cannot_occur x y t u h1)
      (h [(x, t)] s.toks (if_pos h1).symm)
def r_split : V → List V → Hp → VK → Prop := fun x xs H Q => ∃ z y, x = .str z ∧ xs = [.str y] ∧ (y.length == 0) = false ∧ z.length ≤ 1000000 ∧ ∀ l, H l = none → Q (.ref l) (upd H l (.lst ((Txt.split z y).map V.str)))
def r_join (K : PySem.W.Frag) : V → List V → Hp → VK → Prop := fun x xs H Q => ∃ z a ys, x = .str z ∧ xs = [.ref a] ∧ SqL K H a (ys.map V.str) ∧ z.length ≤ 16 ∧ (ys.map (·.length)).sum + ys.length ≤ 1048576 ∧ Q (.str (Txt.join z ys)) H
section
variable {X : Cx}
theorem mt_split : MtM X "str.split" r_split := by
  intro pins s σ H x xs v us Q I rx rv h
  obtain ⟨z, y, rfl, rfl, hy, hz, q⟩ := h
  obtain ⟨t, rfl⟩ := rx
  obtain ⟨u, rfl, ru⟩ := rv.one
  obtain ⟨t', rfl⟩ := ru
  have hsz : z.length + 2 ≤ sizeLine := by rw [sizeLine_eq]; omega
  refine split_raw hy (fun l k e => ?_) hsz
  have hn := I.hok.fresh (Nat.le_refl s.heap.objs.size)
  have hl := split_le z y
  have I1 : Inv X pins σ (upd H s.heap.objs.size (.lst ((Txt.split z y).map V.str))) { s with heap := s.heap.push { cls := .type "list", data := .seq (strValues l).toArray }, toks := k } :=
    I.laid (fun b u e => Heap.get?_push_of_some _ e) (Nat.le_refl _) ⟨by rw [List.length_map]; omega, strValues l, 0, by rw [← e]; exact vals_strs l, Heap.get?_push_size _ rfl⟩
  exact ⟨.ref s.heap.objs.size, _, I1, rfl, q _ hn⟩
theorem mt_join : MtM X "str.join" (r_join X.K) := by
  intro pins s σ H x xs v us Q I rx rv h
  obtain ⟨z, a, ys, rfl, rfl, hq, hz, hw, q⟩ := h
  obtain ⟨t, rfl⟩ := rx
  obtain ⟨u, rfl, ru⟩ := rv.one
  obtain rfl : u = Value.ref a := ru
  obtain ⟨its, r, pl, _⟩ := I.list hq
  exact join_listW pl.isList (strs_are r) hz hw fun t' k => ⟨.str (Txt.join z ys), H, I.tok _, ⟨t', rfl⟩, q⟩
end
def cStrV : List V → Hp → VK → Prop := fun xs H Q => cStrI xs H Q ∨ ∃ z, xs = [.str z] ∧ Q (.str z) H
theorem call_strV {X : Cx} : CallR X (.type "str") cStrV := by
  intro pins s σ H xs us Q I r h
  rcases h with h | ⟨z, rfl, q⟩
  · exact call_strI pins s σ H xs us Q I r h
  · obtain ⟨u, rfl, t, rfl⟩ := vals1 r
    exact PySem.P.str_of_str ⟨.str z, H, I, ⟨t, rfl⟩, q⟩
def TupG (K : PySem.W.Frag) (a : Addr) (xs : List V) : Prop := ∀ H, SqT K H a xs
def jl (c : Nat) : List Str → List Nat
  | [] => []
  | [x] => x.cps.toList
  | x :: y :: r => x.cps.toList ++ c :: jl c (y :: r)
theorem join_jl (c : Nat) : ∀ ps : List Str, (Str.join ⟨#[c]⟩ ps).cps.toList = jl c ps
  | [] => rfl
  | [x] => rfl
  | x :: y :: r => by
    show (x ++ ⟨#[c]⟩ ++ Str.join ⟨#[c]⟩ (y :: r)).cps.toList = _
    rw [show (x ++ ⟨#[c]⟩ ++ Str.join ⟨#[c]⟩ (y :: r)).cps.toList = x.cps.toList ++ [c] ++ (Str.join ⟨#[c]⟩ (y :: r)).cps.toList from by rw [cps_toList_append, cps_toList_append], join_jl c (y :: r)]
    show _ = x.cps.toList ++ c :: jl c (y :: r)
    rw [List.append_assoc]; rfl
theorem cut_uniq {c : Nat} : ∀ {a b r r' : List Nat}, c ∉ a → c ∉ b → a ++ c :: r = b ++ c :: r' → a = b ∧ r = r'
  | [], [], _, _, _, _, e => ⟨rfl, (List.cons.inj e).2⟩
  | [], y :: b, _, _, _, hb, e => absurd (List.cons.inj e).1 (fun z => hb (by rw [z]; simp))
  | x :: a, [], _, _, ha, _, e => absurd (List.cons.inj e).1 (fun z => ha (by rw [← z]; simp))
  | x :: a, y :: b, _, _, ha, hb, e => by
    obtain ⟨e1, e2⟩ := List.cons.inj e
    obtain ⟨h1, h2⟩ := cut_uniq (fun z => ha (by simp [z])) (fun z => hb (by simp [z])) e2
    exact ⟨by rw [e1, h1], h2⟩
theorem str_ext {p q : Str} (h : p.cps.toList = q.cps.toList) : p = q := by
  cases p; cases q
  congr 1
  exact Array.toList_inj.mp h
theorem join_uniq (c : Nat) : ∀ {ps qs : List Str}, ps ≠ [] → qs ≠ [] → (∀ p ∈ ps, c ∉ p.cps.toList) → (∀ p ∈ qs, c ∉ p.cps.toList) → jl c ps = jl c qs → ps = qs
  | [], _, h, _, _, _, _ => absurd rfl h
  | _ :: _, [], _, h, _, _, _ => absurd rfl h
  | [p], [q], _, _, _, _, e => by rw [str_ext e]
  | [p], q :: q' :: qs, _, _, hp, _, e => by
    have e : p.cps.toList = q.cps.toList ++ c :: jl c (q' :: qs) := e
    exact absurd (by rw [e]; simp) (hp p (by simp))
  | p :: p' :: ps, [q], _, _, _, hq, e => by
    have e : p.cps.toList ++ c :: jl c (p' :: ps) = q.cps.toList := e
    exact absurd (by rw [← e]; simp) (hq q (by simp))
  | p :: p' :: ps, q :: q' :: qs, _, _, hp, hq, e => by
    obtain ⟨h1, h2⟩ := cut_uniq (hp p (by simp)) (hq q (by simp)) (show p.cps.toList ++ c :: jl c (p' :: ps) = q.cps.toList ++ c :: jl c (q' :: qs) from e)
    rw [str_ext h1, join_uniq c (by simp) (by simp) (fun x hx => hp x (by simp [hx])) (fun x hx => hq x (by simp [hx])) h2]
theorem split_join {c : Nat} {ps : List Str} (hn : ps ≠ []) (h : ∀ p ∈ ps, c ∉ p.cps.toList) : Txt.split (Str.join ⟨#[c]⟩ ps) ⟨#[c]⟩ = ps := by
  refine join_uniq c (fun z => ?_) hn (StrLaws.split_free _ c) h ?_
  · have := split_pos (Str.join ⟨#[c]⟩ ps) ⟨#[c]⟩
    rw [z] at this
    cases this
  · rw [← join_jl, ← join_jl, StrLaws.join_split]
end G
namespace G
open PySem L2 PySem.Spec PyProof.Rows PySem.Builtin PySem.Builtin.Str
theorem gives_repl1 (x y z : Str) (t u v k : Tok) (h0 : (u == 0 || v == 0) = false) (huv : (u == v) = false) (hyz : (y == z) = false) (hl : tooLong (x.length + (occurrences x y 0 x.length 1).length * z.length) = false) :
    Gives («str.replace» ⟨[.str x t, .str y u, .str z v, .int 1 k], []⟩) (if ((occurrences x y 0 x.length 1).isEmpty || (y.length == 0 && z.length == 0)) = true then .val (.str x t) else .str (glued z (partsBetween x (occurrences x y 0 x.length 1) y.length))) := by
  show Gives (if ((occurrences x y 0 x.length 1).isEmpty || (y.length == 0 && z.length == 0)) = true then (do rule "str.replace.nothing"; ret (.str x t)) else
          (do let same ← isSame (.str y u) (.str z v)
              if same = true then (do rule "str.replace.old-is-new"; ret (.str x t)) else
              if tooLong (x.length + (occurrences x y 0 x.length 1).length * z.length) = true then unsupported "str.replace:memory" else
              retStr (glued z (partsBetween x (occurrences x y 0 x.length 1) y.length)))) _
  cases hc : ((occurrences x y 0 x.length 1).isEmpty || (y.length == 0 && z.length == 0))
  · rw [isSame_str_other y z u v h0 huv hyz, hl]
    exact .of_eq rfl
  · exact .rule (.of_eq rfl)
theorem repl1_len (x y z : Str) : (glued z (partsBetween x (occurrences x y 0 x.length 1) y.length)).length ≤ x.length + z.length := by
  have h1 := size_glued z (partsBetween x (occurrences x y 0 x.length 1) y.length)
  have h2 := size_glued y (partsBetween x (occurrences x y 0 x.length 1) y.length)
  rw [StrLaws.glued_between_self] at h2
  have h3 := StrLaws.occ_length_le x y 0 x.length 1
  have h4 : (partsBetween x (occurrences x y 0 x.length 1) y.length).length - 1 ≤ 1 := by rw [length_partsBetween]; omega
  rw [h1]
  have h5 : ((partsBetween x (occurrences x y 0 x.length 1) y.length).length - 1) * z.length ≤ 1 * z.length := Nat.mul_le_mul_right _ h4
  omega
section
variable {X : Cx}
theorem ld_var {i : Nat} {x : Str} {pos : Pos} {pins : List (Addr × Obj)} {s : Shared} {σ : L2.St} {H : Hp} {v : V} {Q : Value → Shared → Prop} {E : Value → Shared → Prop} (hN : X.N[i]? = some x) (hv : Vis X.env.scope x) (I : Inv X pins σ H s) (e : σ[i]? = some (some v)) (h : ∀ u, RelV v u → Q u s)
    (hd : (x == ("__debug__" : Str)) = false) (hcd : (x == ("__classdict__" : Str)) = false) : wpAny (model X.prog X.w) X.A (eval (.Name x pos) X.env) Q E s := by
  obtain ⟨m, hn, hl⟩ := I.loc
  obtain ⟨u, r, l⟩ := hl i x v hN e hv
  rcases l with ⟨hk, hm⟩ | ⟨hk, c, hc, hcell⟩
  · exact wpAny_Name (wpAny_loadName_local I.ok.kind hk hn hm (h u r)) hd
  · rcases hk with hk | hk
    · exact wpAny_Name (wpAny_loadName_cell I.ok.kind hk hc hcell (h u r)) hd
    · exact wpAny_Name (wpAny_loadName_free I.ok.kind hk hc hcell (h u r) hcd) hd
end
end G
namespace G
open PySem L2 PySem.Spec PyProof.Rows PySem.Builtin PySem.Builtin.Str
def r_part : V → List V → Hp → VK → Prop := fun x xs H Q => ∃ z y, x = .str z ∧ xs = [.str y] ∧ (y.length == 0) = false ∧ z.length ≤ 1000000 ∧ ∀ l, H l = none → Q (.ref l) (upd H l (.tup [.str (Txt.partition z y).1, .str (Txt.partition z y).2.1, .str (Txt.partition z y).2.2]))
theorem part_raw {prog : Program} {w : World} {A : Around} {E : Value → Shared → Prop} {s : Shared} {x y : Str} {t u : Tok} {Q : Value → Shared → Prop} (hy : (y.length == 0) = false)
    (h : ∀ ta tb tc k, Q (.ref s.heap.objs.size) { s with heap := s.heap.push { cls := .type "tuple", data := .seq #[.str (Txt.partition x y).1 ta, .str (Txt.partition x y).2.1 tb, .str (Txt.partition x y).2.2 tc] }, toks := k })
    (hsz : x.length ≤ sizeLine) : wpAny (model prog w) A (call (.builtin "str.partition") [.str x t, .str y u]) Q E s := by
  refine call_meets PySem.F.slot_str_partition (typeIs_str _ _ _) PySem.F.entry_str_partition (PySem.F.args_str_partition_2 _ _) (meets_str_partition x y t u hy hsz) ?_
  have h' := h
  unfold Txt.partition at h'
  revert h'
  cases occurrences x y 0 x.length 1 with
  | nil => intro h'; exact h' _ _ _ _
  | cons i r => intro h'; exact h' _ _ _ _
theorem mt_part {X : Cx} : MtM X "str.partition" r_part := by
  intro pins s σ H x xs v us Q I rx rv h
  obtain ⟨z, y, rfl, rfl, hy, hz, q⟩ := h
  obtain ⟨t, rfl⟩ := rx
  obtain ⟨u, rfl, ru⟩ := rv.one
  obtain ⟨t', rfl⟩ := ru
  refine part_raw hy (fun ta tb tc k => ?_) (by rw [sizeLine_eq]; omega)
  have hn := I.hok.fresh (Nat.le_refl s.heap.objs.size)
  refine ⟨.ref s.heap.objs.size, _, I.laid (t' := k) (o := .tup [.str (Txt.partition z y).1, .str (Txt.partition z y).2.1, .str (Txt.partition z y).2.2]) (fun b u e => Heap.get?_push_of_some _ e) (Nat.le_refl _) ⟨by show 3 ≤ _; decide, _, .cons ⟨ta, rfl⟩ (.cons ⟨tb, rfl⟩ (.cons ⟨tc, rfl⟩ .nil)), ⟨_, Heap.get?_push_size _ rfl, rfl, _, rfl⟩⟩, rfl, q _ hn⟩
end G
namespace G
open PySem L2 PySem.Spec PyProof.Rows PySem.Builtin PySem.Builtin.Str
def rep1 (z y1 y2 : Str) : Str := if ((occurrences z y1 0 z.length 1).isEmpty || (y1.length == 0 && y2.length == 0)) = true then z else glued y2 (partsBetween z (occurrences z y1 0 z.length 1) y1.length)
section
variable {X : Cx}
theorem repl_evX {i : Nat} {x y1 y2 : Str} {px ap cpos p1 p2 p3 : Pos} {k1 k2 k3 : Nat} {pins : List (Addr × Obj)} {s : Shared} {σ : L2.St} {H : Hp} {z : Str} {Q : Value → Shared → Prop} (hN : X.N[i]? = some x) (hv : Vis X.env.scope x) (I : Inv X pins σ H s) (e : σ[i]? = some (some (.str z)))
    (hp : 0 < s.toks) (hy : (y1 == y2) = false) (hz : z.length ≤ 1000000) (hz2 : y2.length ≤ 1000)
    (h : ∀ s' (t : Tok), Inv X pins σ H s' → Q (.str (rep1 z y1 y2) t) s')
    (hd : (x == ("__debug__" : Str)) = false) (hcd : (x == ("__classdict__" : Str)) = false)
    (hbase : attributeBase (.Name x px) "replace" X.env (eval (.Name x px) X.env) = eval (.Name x px) X.env) (hline : (ap.endLine == cpos.line) = true) :
    wpAny (model X.prog X.w) X.A (eval (.Call (.Attribute (.Name x px) "replace" ap) [.Constant (.str y1) k1 p1, .Constant (.str y2) k2 p2, .Constant (.int 1) k3 p3] [] cpos) X.env) Q X.xe s := by
  refine wpAny_Call_method_late hbase rfl hline rfl (ld_var hN hv I e (fun u ru => ?_) hd hcd)
  obtain ⟨t, rfl⟩ := ru
  refine ⟨"str", "str.replace", PySem.F.plainAttrs_str, PySem.F.slot_str_replace, PySem.F.type_str_replace, typeIs_str _ _ _, fun b q => (nomatch q), ?_⟩
  refine Calls.callWith_builtin rfl (Calls.evalArgs_plain ?_)
  show wpAny _ _ (spliced [(false, eval (.Constant (.str y1) k1 p1) X.env), (false, eval (.Constant (.str y2) k2 p2) X.env), (false, eval (.Constant (.int 1) k3 p3) X.env)]) _ _ s
  refine Calls.spliced_cons (Calls.Constant_str (Calls.spliced_cons (Calls.Constant_str (Calls.spliced_cons (wpAny_Constant_int (Calls.spliced_nil ?_))))))
  have hl : tooLong (z.length + (occurrences z y1 0 z.length 1).length * y2.length) = false := by
    have h3 := StrLaws.occ_length_le z y1 0 z.length 1
    have h5 : (occurrences z y1 0 z.length 1).length * y2.length ≤ 1 * y2.length := Nat.mul_le_mul_right _ h3
    unfold tooLong
    simp only [decide_eq_false_iff_not, sizeLine_eq]
    omega
  have hu : (s.toks == 0 || s.toks + 1 == 0) = false := by
    have a : (s.toks == 0) = false := by simpa using Nat.ne_of_gt hp
    rw [a]; rfl
  refine call_gives PySem.F.slot_str_replace (typeIs_str _ _ _) PySem.F.entry_str_replace (PySem.F.args_str_replace_4 _ _ _ _) (gives_repl1 z y1 y2 t s.toks (s.toks + 1) _ hu (by simp) hy hl) ?_
  have hlen := repl1_len z y1 y2
  unfold rep1 at h
  split
  · rename_i c; rw [if_pos c] at h; exact h _ _ (I.tok _)
  · rename_i c; rw [if_neg c] at h; exact ⟨by rw [sizeLine_eq]; omega, h _ _ (I.tok _)⟩
def tIfRepl (ta : TE) (c : Int) (j : Nat) (y1 y2 : Str) : TS := fun D σ H => ta σ H fun v H1 => ∃ k, v = .int k ∧ if k = c then ∃ z, σ[j]? = some (some (.str z)) ∧ z.length ≤ 1000000 ∧ D.rt (.str (rep1 z y1 y2)) H1 else D.nx σ H1
theorem i_ifrepl {ta : TE} {c : Int} {j : Nat} {y1 y2 : Str} {σ : L2.St} {H : Hp} {n : L2.St → Hp → Prop} {r : VK} {b ct : L2.St → Hp → Prop} (h : ta σ H fun v H1 => ∃ k, v = .int k ∧ if k = c then ∃ z, σ[j]? = some (some (.str z)) ∧ z.length ≤ 1000000 ∧ r (.str (rep1 z y1 y2)) H1 else n σ H1) : tIfRepl ta c j y1 y2 ⟨n, r, b, ct⟩ σ H := h
theorem ps_ifrepl {a : Expr} {ta : TE} {c : Int} {j : Nat} {x y1 y2 : Str} {px ap cpos p1 p2 p3 cp pc pr pos : Pos} {k1 k2 k3 ck : Nat} (ha : PE X a ta) (hN : X.N[j]? = some x := by rfl) (hv : Vis X.env.scope x := by first | exact Or.inl rfl | exact Or.inr (Or.inl rfl) | exact Or.inr (Or.inr rfl))
    (hm : behindInMarks .Eq (.Constant (.int c) ck cp) = false := by exact nomark _) (hy : (y1 == y2) = false := by decide) (hz2 : y2.length ≤ 1000 := by decide)
    (hd : (x == ("__debug__" : Str)) = false := by decide) (hcd : (x == ("__classdict__" : Str)) = false := by decide)
    (hbase : attributeBase (.Name x px) "replace" X.env (eval (.Name x px) X.env) = eval (.Name x px) X.env := by rfl) (hline : (ap.endLine == cpos.line) = true := by rfl) :
    PS X (.If (.Compare a [.Eq] [.Constant (.int c) ck cp] pc) [.Return (some (.Call (.Attribute (.Name x px) "replace" ap) [.Constant (.str y1) k1 p1, .Constant (.str y2) k2 p2, .Constant (.int 1) k3 p3] [] cpos)) pr] [] pos) (tIfRepl ta c j y1 y2) := by
  intro pins s σ H D I h
  refine wpAny_If (wpAny_isTrue_Compare1 (thn (ha pins s σ H _ I h) fun v s1 ⟨x, H1, I1, r1, k, ev, q1⟩ => wpAny_Constant_int (wpAny_mono (wpAny_toks (op_eq pins _ σ H1 x (.int c) v _ (fun z H2 => z = .bl (decide (k = c)) ∧ H2 = H1) (I1.tok _) r1 ⟨s1.toks, rfl⟩ ?_)) (fun b s2 ⟨ht, z, H2, I2, rz, ez, eH⟩ => ?_) fun _ _ z => z.2)) hm)
  · subst ev
    refine ⟨rfl, ?_, rfl⟩
    by_cases e : k = c
    · subst e; simp
    · simp [e]
  subst ev ez eH
  obtain rfl : b = Value.bool (decide (k = c)) := rz
  have hp : 0 < s2.toks := Nat.lt_of_lt_of_le (Nat.succ_pos _) ht
  refine wpAny_truthy_bool ?_
  by_cases e : k = c
  · rw [if_pos e] at q1
    rw [decide_eq_true e]
    obtain ⟨z, ez, hz, q⟩ := q1
    refine wpAny_execs_cons ?_
    refine wpAny_Return_some (repl_evX hN hv I2 ez hp hy hz hz2 (fun s' t I3 => ?_) hd hcd hbase hline)
    exact ⟨.str (rep1 z y1 y2), σ, _, I3, ⟨t, rfl⟩, q⟩
  · rw [if_neg e] at q1
    rw [decide_eq_false e]
    exact wpAny_execs_nil ⟨σ, _, I2, q1⟩
end
end G
namespace G
open PySem L2 PySem.Spec PyProof.Rows
def Itz (K : PySem.W.Frag) (a b : Addr) : It :=
  ⟨fun i H => ∃ xs ys x y, SqL K H a xs ∧ SqL K H b ys ∧ xs[i]? = some x ∧ ys[i]? = some y,
   fun i H v H' => ∃ t x y, v = .ref t ∧ H t = none ∧ H' = upd H t (.tup [x, y]) ∧ (∀ xs, SqL K H a xs → xs[i]? = some x) ∧ ∀ ys, SqL K H b ys → ys[i]? = some y,
   fun i H => ∃ xs ys, SqL K H a xs ∧ SqL K H b ys ∧ (xs.length ≤ i ∨ ys.length ≤ i)⟩
def iZip (K : PySem.W.Frag) (ta : TA) : TI := fun σ H R => ta σ H fun vs H1 => ∃ a b, vs = [.ref a, .ref b] ∧ (∃ xs, SqL K H1 a xs) ∧ (∃ ys, SqL K H1 b ys) ∧ R (Itz K a b) H1
theorem i_iZ {K : PySem.W.Frag} {ta : TA} {σ : L2.St} {H : Hp} {R : It → Hp → Prop} (h : ta σ H fun vs H1 => ∃ a b, vs = [.ref a, .ref b] ∧ (∃ xs, SqL K H1 a xs) ∧ (∃ ys, SqL K H1 b ys) ∧ R (Itz K a b) H1) : iZip K ta σ H R := h
section
variable {X : Cx} {pins : List (Addr × Obj)} {σ : L2.St} {H : Hp} {s : Shared} {h' : Heap} {t' : Nat} {ch : List Addr}
theorem inv_turns (I : Inv X pins σ H s) (k : ∀ b u, b ∉ ch → s.heap.get? b = some u → h'.get? b = some u) (f : ∀ e ∈ ch, FpOk X pins H e) : Inv X pins σ H { s with heap := h', toks := t' } := by
  have ne : ∀ b u, H b = some u → b ∉ ch := fun b u q z => by rw [(f b z).1] at q; cases q
  refine I.step (g' := s.gens) (d' := s.drawn) (ch := ch) (fun b hb => ⟨(f b hb).2.2.2.1, (f b hb).2.1, (f b hb).2.2.2.2.1, (f b hb).2.2.2.2.2⟩) (fun b o _ _ hc q _ => k b o hc q) (fun b o _ _ hc q _ => ⟨o.slots, k b o hc q⟩) (fun _ _ _ _ n => n)
    (fun b o hc q => ⟨o, k b o hc q⟩) (fun _ _ q => q) (fun _ _ _ q => q) (fun b ps q => ⟨#[], by rw [q]; simp⟩) (fun m hm => ?_) (fun b u q => ?_) I.bare
  · obtain ⟨o, es, ep, ho, r⟩ := hm
    exact ⟨o, es, ep, k _ o (fun z => (f _ z).2.1 rfl) ho, r⟩
  · refine (I.hok b u q).stay (fun c v hc z => ?_) (fun _ z => z) fun _ _ z => z
    rcases hc with y | y
    · rw [y] at z ⊢; exact k b v (ne b u q) z
    · exact k c v (ne c _ y) z
theorem inv_turns_laid {a : Addr} {o : HO} (I : Inv X pins σ H s) (k : ∀ b u, b ∉ ch → s.heap.get? b = some u → h'.get? b = some u) (f : ∀ e ∈ ch, FpOk X pins H e) (ha : s.heap.objs.size ≤ a) (new : ObjOk X.prog X.w (upd H a o) h' a o) : Inv X pins σ (upd H a o) { s with heap := h', toks := t' } := by
  have hn := I.hok.fresh ha
  have ne : ∀ b u, H b = some u → b ∉ ch := fun b u q z => by rw [(f b z).1] at q; cases q
  have na : ∀ b u, s.heap.get? b = some u → b ≠ a := fun b u q => Nat.ne_of_lt (Nat.lt_of_lt_of_le (Heap.lt_size q) ha)
  refine I.step (g' := s.gens) (d' := s.drawn) (ch := ch) (fun b hb => ⟨(f b hb).2.2.2.1, (f b hb).2.1, (f b hb).2.2.2.2.1, (f b hb).2.2.2.2.2⟩) (fun b o _ _ hc q _ => k b o hc q) (fun b o _ _ hc q _ => ⟨o.slots, k b o hc q⟩) (fun b u _ q n => (upd_ne (na b u q)).trans n)
    (fun b o hc q => ⟨o, k b o hc q⟩) (fun b xs q => (upd_ne (ne_of_none q hn)).trans q) (fun b o xs q => (upd_ne (ne_of_none q hn)).trans q) (fun b ps q => ⟨#[], by rw [upd_ne (ne_of_none q hn), q]; simp⟩) (fun m hm => ?_) (fun b u q => ?_) I.bare
  · obtain ⟨o, es, ep, ho, r⟩ := hm
    exact ⟨o, es, ep, k _ o (fun z => (f _ z).2.1 rfl) ho, r⟩
  · by_cases hb : b = a
    · subst hb; rw [upd_same] at q; cases q; exact new
    · rw [upd_ne hb] at q
      refine (I.hok b u q).stay (fun c v hc z => ?_) (fun c z => by rw [upd_ne (ne_of_none z hn)]; exact z) fun c xs z => by rw [upd_ne (ne_of_none z hn)]; exact z
      rcases hc with y | y
      · rw [y] at z ⊢; exact k b v (ne b u q) z
      · exact k c v (ne c _ y) z
end
structure Zd (z TI TO i1 i2 : Addr) : Prop where
  TIz : TI ≠ z
  TOz : TO ≠ z
  i1z : i1 ≠ z
  i2z : i2 ≠ z
  TITO : TI ≠ TO
  TIi1 : TI ≠ i1
  TIi2 : TI ≠ i2
  TOi1 : TO ≠ i1
  TOi2 : TO ≠ i2
  i12 : i1 ≠ i2
def ZipSt (a b z TI TO i1 i2 : Addr) (i : Nat) (h : Heap) : Prop := IsZip h z TI TO .none ∧ IsPair h TI (.ref i1) (.ref i2) ∧ (∃ u v, IsPair h TO u v) ∧ h.IsListIter i1 a i ∧ h.IsListIter i2 b i
theorem zip_apart {a b z TI TO i1 i2 : Addr} {i : Nat} {h : Heap} {xs ys : Array Value} (d : Zd z TI TO i1 i2) (st : ZipSt a b z TI TO i1 i2 i h) (ha : h.IsList a xs) (hb : h.IsList b ys) : ZipApart z TI TO i1 i2 a b := by
  obtain ⟨hz, hTI, ⟨u, v, hTO⟩, h1, h2⟩ := st
  have A : ∀ {c : Addr} {vs : Array Value}, h.IsList c vs → c ≠ z ∧ c ≠ TO ∧ c ≠ i1 ∧ c ≠ i2 := fun {c vs} hc => by
    obtain ⟨o, ho, hcl, hd⟩ := hc
    refine ⟨fun e => ?_, fun e => ?_, fun e => ?_, fun e => ?_⟩
    · subst e; rw [hz] at ho; cases ho; simp at hcl
    · subst e; rw [hTO] at ho; cases ho; simp at hcl
    · subst e; obtain ⟨o2, q, c2, d2⟩ := h1; rw [q] at ho; cases ho; rw [hcl] at c2; simp at c2
    · subst e; obtain ⟨o2, q, c2, d2⟩ := h2; rw [q] at ho; cases ho; rw [hcl] at c2; simp at c2
  have a1 := A ha
  have b1 := A hb
  exact ⟨d.TIz, d.TOz, d.i1z, d.i2z, d.TITO, d.TIi1, d.TIi2, d.TOi1, d.TOi2, d.i12, a1.1, a1.2.1, a1.2.2.1, a1.2.2.2, b1.1, b1.2.1, b1.2.2.1, b1.2.2.2⟩
theorem turn_zip {P : Program} {w : World} {K : PySem.W.Frag} {elts : List Expr} {x1 : Nat} {pt : Pos} (a b z TI TO i1 i2 : Addr) (D : Zd z TI TO i1 i2) :
    Turn P w K (.Tuple elts x1 pt) (Itz K a b) [z, TI, TO, i1, i2] z (ZipSt a b z TI TO i1 i2) where
  mem := by simp
  obj := fun i h st c hc => by
    obtain ⟨hz, hTI, ⟨u, v, hTO⟩, ⟨o1, q1, c1, d1⟩, ⟨o2, q2, c2, d2⟩⟩ := st
    simp only [List.mem_cons, List.not_mem_nil, or_false] at hc
    rcases hc with e | e | e | e | e
    · rw [e]; exact ⟨_, hz, fun v z => by cases z⟩
    · rw [e]; exact ⟨_, hTI, fun v z => by cases z⟩
    · rw [e]; exact ⟨_, hTO, fun v z => by cases z⟩
    · rw [e]; exact ⟨o1, q1, fun v z => by rw [d1] at z; cases z⟩
    · rw [e]; exact ⟨o2, q2, fun v z => by rw [d2] at z; cases z⟩
  keep := fun i h h' st k => by
    obtain ⟨hz, hTI, ⟨u, v, hTO⟩, h1, h2⟩ := st
    exact ⟨k z (by simp) _ hz, k TI (by simp) _ hTI, ⟨u, v, k TO (by simp) _ hTO⟩, h1.at fun o q => k i1 (by simp) o q, h2.at fun o q => k i2 (by simp) o q⟩
  item := by
    intro X hP hw hK hc i pins s σ H E I hf st hg
    subst hP hw hK
    obtain ⟨xs, ys, x, y, hq, hr, hx, hy⟩ := hg
    obtain ⟨its, rv, p, hzl⟩ := I.list hq
    obtain ⟨jts, rw', p2, hzl2⟩ := I.list hr
    obtain ⟨u, hu, ru⟩ := rv.get hx
    obtain ⟨v, hv, rv2⟩ := rw'.get hy
    have AP := zip_apart D st p.isList p2.isList
    obtain ⟨hz, hTI, ⟨o1, o2, hTO⟩, h1, h2⟩ := st
    have lt : ∀ {c o}, s.heap.get? c = some o → c < s.heap.objs.size := fun e => Heap.lt_size e
    have l1 : i1 < s.heap.objs.size := by obtain ⟨_, e, _⟩ := h1; exact lt e
    have l2 : i2 < s.heap.objs.size := by obtain ⟨_, e, _⟩ := h2; exact lt e
    refine wpAny_pyNext_zip_item AP hz hTI hTO h1 h2 p.isList p2.isList (x := u) (y := v) (by simpa using hu) (by simpa using hv) fun h' a1 a2 a3 a4 a5 a6 hk => ?_
    refine ⟨_, rfl, wpAny_letOwnedTupleGo_zip (s := { s with heap := h' }) a1 fun h2' hz2 hs2 => ?_⟩
    replace hs2 : Heap.SameBut z h' h2' := hs2
    have hn : H s.heap.objs.size = none := I.hok.fresh (Nat.le_refl _)
    have I2 : Inv X pins σ (upd H s.heap.objs.size (.tup [x, y])) { s with heap := h2', toks := s.toks } := by
      refine inv_turns_laid (ch := [z, TI, TO, i1, i2]) I (fun c o hcn q => ?_) hf (Nat.le_refl _) ?_
      · simp only [List.mem_cons, List.not_mem_nil, or_false, not_or] at hcn
        exact hs2.extBut c o hcn.1 (hk c o hcn.1 hcn.2.2.1 hcn.2.2.2.1 hcn.2.2.2.2 q)
      · exact ⟨by show 2 ≤ sizeLine; decide, [u, v], .cons ru (.cons rv2 .nil), ⟨_, hs2.extBut _ _ (Nat.ne_of_gt (lt hz)) a5, rfl, _, rfl⟩⟩
    refine ⟨.ref s.heap.objs.size, _, I2, rfl, ⟨_, x, y, rfl, hn, rfl, fun zs h => by rw [I.list_inj h hq]; exact hx, fun zs h => by rw [I.list_inj h hr]; exact hy⟩, ⟨hz2, ?_, ?_, ?_, ?_⟩, fun c hcm => ?_⟩
    · exact hs2.extBut _ _ D.TIz (hk TI _ D.TIz D.TITO D.TIi1 D.TIi2 hTI)
    · exact ⟨u, v, hs2.extBut _ _ D.TOz a2⟩
    · exact a3.extBut hs2.extBut D.i1z
    · exact a4.extBut hs2.extBut D.i2z
    · have lc : c < s.heap.objs.size := by
        simp only [List.mem_cons, List.not_mem_nil, or_false] at hcm
        rcases hcm with e | e | e | e | e
        · rw [e]; exact lt hz
        · rw [e]; exact lt hTI
        · rw [e]; exact lt hTO
        · rw [e]; exact l1
        · rw [e]; exact l2
      rw [upd_ne (Nat.ne_of_lt lc)]; exact (hf c hcm).1
  done := by
    intro X hP hw hK hc i pins s σ H E I hf st hg
    subst hP hw hK
    obtain ⟨xs, ys, hq, hr, hx⟩ := hg
    obtain ⟨its, rv, p, hzl⟩ := I.list hq
    obtain ⟨jts, rw', p2, hzl2⟩ := I.list hr
    have AP := zip_apart D st p.isList p2.isList
    obtain ⟨hz, hTI, ⟨o1, o2, hTO⟩, h1, h2⟩ := st
    have e1 := rv.length
    have e2 := rw'.length
    refine wpAny_pyNext_zip_end (I.ok.hd hc) AP hz hTI hTO h1 h2 p.isList p2.isList ?_ fun h' hk => ⟨rfl, inv_turns (ch := [z, TI, TO, i1, i2]) (t' := s.toks) I (fun c o hcn q => ?_) hf⟩
    · rcases hx with hx | hx
      · exact .inl (by simp; omega)
      · exact .inr (by simp; omega)
    · simp only [List.mem_cons, List.not_mem_nil, or_false, not_or] at hcn
      exact hk c o hcn.1 hcn.2.2.1 hcn.2.2.2.1 hcn.2.2.2.2 q
  self := fun A i s Q E st h => wpAny_pyIter_zip st.1 h
theorem zd_of (n : Nat) : Zd (n + 4) (n + 2) (n + 3) n (n + 1) := ⟨(by omega : ((n + 2 : Nat) ≠ (n + 4 : Nat))), (by omega : ((n + 3 : Nat) ≠ (n + 4 : Nat))), (by omega : ((n : Nat) ≠ (n + 4 : Nat))), (by omega : ((n + 1 : Nat) ≠ (n + 4 : Nat))), (by omega : ((n + 2 : Nat) ≠ (n + 3 : Nat))), (by omega : ((n + 2 : Nat) ≠ (n : Nat))), (by omega : ((n + 2 : Nat) ≠ (n + 1 : Nat))), (by omega : ((n + 3 : Nat) ≠ (n : Nat))), (by omega : ((n + 3 : Nat) ≠ (n + 1 : Nat))), (by omega : ((n : Nat) ≠ (n + 1 : Nat)))⟩
theorem pi_zip {X : Cx} {elts : List Expr} {x1 : Nat} {pt : Pos} {l r : Expr} {ta : TA} {p pos : Pos} (hg : Gl X "zip") (hm : X.mg "zip" = none) (ha : PA X [l, r] ta) (hs : starEach [l, r] X.env = (false, eval l X.env) :: starEach [r] X.env := by rfl) (hp : (backTo pos (starEach [r] X.env)).any (·.1) = false := by rfl) :
    PI X (.Tuple elts x1 pt) (.Call (.Name "zip" p) [l, r] [] pos) (iZip X.K ta) := by
  intro pins s σ H R I h
  refine Call_ (ld_blt I hg hm boot_zip (PyProof.Rows.callWith_type1 (thn (ha pos pins s σ H _ I h) fun us s1 ⟨vs, H1, I1, r1, q1⟩ => ?_) hs hp))
  obtain ⟨a, b, e, ⟨xs, hq⟩, ⟨ys, hr⟩, q⟩ := q1
  subst e
  cases r1 with
  | cons ra rr =>
    cases rr with
    | cons rb rr =>
      cases rr
      obtain rfl : _ = Value.ref a := ra
      obtain rfl : _ = Value.ref b := rb
      obtain ⟨its, rv, pl, hz⟩ := I1.list hq
      obtain ⟨jts, rv2, pl2, hz2⟩ := I1.list hr
      refine call_zip_2 pl.isList pl2.isList fun h' hzp hTI hTO h1 h2 hsz hk => ?_
      have I2 : Inv X pins σ H1 { s1 with heap := h' } := I1.kept (t' := s1.toks) hk
      refine wpAny_pyIter_zip (s := { s1 with heap := h' }) hzp ?_
      have hf : ∀ b, s1.heap.objs.size ≤ b → FpOk X pins H1 b := fun b hb => I1.fpOk hb (I1.hok.fresh hb)
      refine ⟨_, [s1.heap.objs.size + 4, s1.heap.objs.size + 2, s1.heap.objs.size + 3, s1.heap.objs.size, s1.heap.objs.size + 1], _, _, H1, rfl, I2, turn_zip a b _ _ _ _ _ (zd_of _), ⟨hzp, hTI, ⟨_, _, hTO⟩, h1, h2⟩, fun c hc => ?_, q⟩
      simp only [List.mem_cons, List.not_mem_nil, or_false] at hc
      have hc2 : (s1.heap.objs.size : Nat) ≤ (c : Nat) := by
        rcases hc with e | e | e | e | e <;> rw [e]
        · exact Nat.le_add_right _ _
        · exact Nat.le_add_right _ _
        · exact Nat.le_add_right _ _
        · exact Nat.le_refl _
        · exact Nat.le_add_right _ _
      exact hf c hc2
section
variable {K : PySem.W.Frag} {a b : Addr} {g : TG} {tb : TS} {σ : L2.St} {H : Hp} {n : L2.St → Hp → Prop} {r : VK}
theorem forZ (xs ys : List V) (hlen : xs.length = ys.length) (Pv : Nat → L2.St → Hp → Prop) (h0 : Pv 0 σ H) (hl : ∀ i σ H, i ≤ xs.length → Pv i σ H → SqL K H a xs ∧ SqL K H b ys)
    (hs : ∀ i x y t σ H, xs[i]? = some x → ys[i]? = some y → Pv i σ H → H t = none → g (.ref t) σ (upd H t (.tup [x, y])) fun σ2 H2 => tb ⟨Pv (i + 1), r, n, Pv (i + 1)⟩ σ2 H2) (hd : ∀ σ H, Pv xs.length σ H → n σ H) :
    ∃ W : Nat → Nat → L2.St → Hp → Prop, (∃ m, W 0 m σ H) ∧ ∀ i m σ H, W i m σ H →
      ((Itz K a b).stop i H ∧ n σ H) ∨ ((Itz K a b).go i H ∧ ∃ N : L2.St → Hp → Prop, (∀ σ' H', N σ' H' → ∃ m', m' < m ∧ W (i + 1) m' σ' H') ∧ ∀ x H', (Itz K a b).yld i H x H' → g x σ H' fun σ2 H2 => tb ⟨N, r, n, N⟩ σ2 H2) := by
  refine ⟨fun i m σ H => i ≤ xs.length ∧ m = xs.length - i ∧ Pv i σ H, ⟨xs.length, Nat.zero_le _, rfl, h0⟩, ?_⟩
  rintro i m σ H ⟨hi, rfl, p⟩
  obtain ⟨hq, hr⟩ := hl i σ H hi p
  by_cases hk : i = xs.length
  · subst hk
    exact .inl ⟨⟨xs, ys, hq, hr, .inl (Nat.le_refl _)⟩, hd σ H p⟩
  · have hlt : i < xs.length := by omega
    have hx : xs[i]? = some xs[i] := List.getElem?_eq_getElem hlt
    have hy : ys[i]? = some (ys[i]'(by omega)) := List.getElem?_eq_getElem (by omega)
    refine .inr ⟨⟨xs, ys, _, _, hq, hr, hx, hy⟩, Pv (i + 1), fun σ' H' p' => ⟨xs.length - (i + 1), by omega, by omega, rfl, p'⟩, ?_⟩
    rintro v H' ⟨t, x, y, rfl, ht, rfl, h1, h2⟩
    exact hs i x y t σ H (h1 xs hq) (h2 ys hr) p ht
end
end G
namespace G
open PySem L2 PySem.Spec PyProof.Rows
section
variable {X : Cx}
def tFmt (t : TE) : TE := fun σ H Q => t σ H fun v H' => (∃ i : Int, v = .int i ∧ i.natAbs.log2 < 1920 ∧ Q (.str (Str.ofString (toString i))) H') ∨ ∃ z : Str, v = .str z ∧ z.length ≤ sizeLine ∧ Q (.str z) H'
def tFs : List TE → Str → TE
  | [], acc => fun _ H Q => acc.length ≤ sizeLine ∧ Q (.str acc) H
  | t :: ts, acc => fun σ H Q => t σ H fun v H' => ∃ z : Str, v = .str z ∧ (acc ++ z).length ≤ sizeLine ∧ tFs ts (acc ++ z) σ H' Q
inductive PL (X : Cx) : List Expr → List TE → Prop
  | nil : PL X [] []
  | cons {e : Expr} {t : TE} {es : List Expr} {ts : List TE} : PE X e t → PL X es ts → PL X (e :: es) (t :: ts)
theorem pe_fmt {e : Expr} {t : TE} {pos : Pos} (h : PE X e t) : PE X (.FormattedValue e (-1) none pos) (tFmt t) := by
  intro pins s σ H Q I q
  refine FormattedValue_plain (thn (h pins s σ H _ I q) fun v s1 ⟨x, H1, I1, r1, q1⟩ => ?_)
  rcases q1 with ⟨i, rfl, hd, q⟩ | ⟨z, rfl, hz, q⟩
  · obtain ⟨k, rfl⟩ := r1
    exact formatField_int_small hd ⟨.str _, H1, I1.tok _, ⟨_, rfl⟩, q⟩
  · obtain ⟨k, rfl⟩ := r1
    exact formatField_str (fun t' tk => ⟨.str z, H1, I1.tok tk, ⟨_, rfl⟩, q⟩) hz
theorem joinE {es : List Expr} {ts : List TE} (h : PL X es ts) : ∀ (acc : Str) (pins : List (Addr × Obj)) (s : Shared) (σ : L2.St) (H : Hp) (Q : VK), Inv X pins σ H s → tFs ts acc σ H Q → wpAny (model X.prog X.w) X.A (joinParts acc (evalEach es X.env)) (EP X pins σ Q) X.xe s := by
  induction h with
  | nil =>
    intro acc pins s σ H Q I q
    exact joinParts_nil ⟨.str acc, H, I.tok _, ⟨_, rfl⟩, q.2⟩ q.1
  | @cons e t es ts he _ ih =>
    intro acc pins s σ H Q I q
    refine joinParts_cons (thn (he pins s σ H _ I q) fun v s1 ⟨x, H1, I1, r1, q1⟩ => ?_)
    obtain ⟨z, rfl, hz, q2⟩ := q1
    obtain ⟨k, rfl⟩ := r1
    exact ⟨hz, ih _ pins s1 σ H1 Q I1 q2⟩
theorem pe_fs {e1 e2 : Expr} {es : List Expr} {ts : List TE} {pos : Pos} (h : PL X (e1 :: e2 :: es) ts) : PE X (.JoinedStr (e1 :: e2 :: es) pos) (tFs ts Str.empty) := by
  intro pins s σ H Q I q
  exact JoinedStr_many (joinE h Str.empty pins s σ H Q I q)
theorem i_fs {t : TE} {ts : List TE} {acc : Str} {σ : L2.St} {H : Hp} {Q : VK} (h : t σ H fun v H' => ∃ z : Str, v = .str z ∧ (acc ++ z).length ≤ sizeLine ∧ tFs ts (acc ++ z) σ H' Q) : tFs (t :: ts) acc σ H Q := h
theorem i_fs0 {acc : Str} {σ : L2.St} {H : Hp} {Q : VK} (h1 : acc.length ≤ sizeLine) (h : Q (.str acc) H) : tFs [] acc σ H Q := ⟨h1, h⟩
theorem i_fmt {t : TE} {σ : L2.St} {H : Hp} {Q : VK} (h : t σ H fun v H' => (∃ i : Int, v = .int i ∧ i.natAbs.log2 < 1920 ∧ Q (.str (Str.ofString (toString i))) H') ∨ ∃ z : Str, v = .str z ∧ z.length ≤ sizeLine ∧ Q (.str z) H') : tFmt t σ H Q := h
end
end G
namespace G
open PySem L2 PySem.Spec PyProof.Rows
def XObj (K : PySem.W.Frag) (C : Addr) : Prop := ∃ (nm q : Str) (N : Addr) (bs : List Value) (rs : List Addr) (sn : List Str) (sub : List Value) (ab : Bool) (col : Option Bool) (dd : Option Addr) (k0 k1 k2 k3 k5 : Option Value),
  K.lookup C = some (excClassObj nm q C N bs (rs.map Value.ref ++ bmVE) true sn sub ab col dd k0 k1 k2 k3 k5 "ValueError.__new__")
theorem xo_has (T : String) : ∀ rs : List Addr, (rs.map Value.ref ++ bmVE).contains (.type T) = bmVE.contains (.type T)
  | [] => rfl
  | a :: r => by rw [List.map_cons, List.cons_append, List.contains_cons, xo_has T r]; rfl
theorem xo_pass (self : Value) : ∀ rs : List Addr, refuseLoop self "__setattr__" (rs.map Value.ref ++ bmVE) = pure ()
  | [] => PySem.F.store_ValueError.passes self
  | a :: r => by rw [List.map_cons, List.cons_append, refuseLoop_ref]; exact xo_pass self r
structure XInit (K : PySem.W.Frag) (C f : Addr) : Prop where
  xo : XObj K C
  init : PySem.W.findIn K (.ref C) "__init__" = some (some (.ref f))
  fn : PySem.W.isFn K (.ref f) = true
section
variable {prog : Program} {w : World} {A : Around} {E : Value → Shared → Prop} {h : Heap} {g : Array GenState} {d : Drawn} {t : Nat} {os : OsState} {K : PySem.W.Frag}
variable {nm q : Str} {C N : Addr} {bs bm : List Value} {hdct : Bool} {sn : List Str} {sub : List Value} {ab : Bool} {col : Option Bool} {dd : Option Addr} {k0 k1 k2 k3 k5 : Option Value} {rs : List Addr} {rest : List Value}
abbrev xTup (rest : List Value) : Obj := { cls := .type "tuple", data := .seq rest.toArray }
abbrev xExc (C t : Addr) : Obj := { cls := .ref C, data := .fields #[.ref t, .none, .none, .none, .bool false, .none] }
theorem xi_new {R : Result → Shared → Prop} (hC : h.get? C = some (excClassObj nm q C N bs (rs.map Value.ref ++ bmVE) hdct sn sub ab col dd k0 k1 k2 k3 k5 "ValueError.__new__"))
    (hq : R (.ok (.ret (.ref (h.objs.size + 1)))) ⟨(h.push (xTup rest)).push (xExc C h.objs.size), g, d, t, os⟩) (hr : rest.length ≤ sizeLine) :
    codeAny (model prog w) A (.builtin "ValueError.__new__" ⟨.ref C :: rest, []⟩) R ⟨h, g, d, t, os⟩ := by
  have F := PySem.F.excBase_ValueError
  have e0 := F.ends
  have e1 : (Value.ref C :: (rs.map Value.ref ++ bmVE)).contains (.type "ValueError") = true := by rw [List.contains_cons, xo_has]; rfl
  have e2 : (Value.ref C :: (rs.map Value.ref ++ bmVE)).contains (.type "AttributeError") = false := by rw [List.contains_cons, xo_has]; rfl
  have e3 : (Value.ref C :: (rs.map Value.ref ++ bmVE)).contains (.type "NameError") = false := by rw [List.contains_cons, xo_has]; rfl
  refine codeAny_builtinAt F.entry ?_
  unfold Builtin.«BaseException.__new__»
  refine PySem.wpAt_bind ?_
  show PySem.wpAt _ _ _ (stack >>= _) _ _ _
  refine PySem.wpAt_bind (PySem.wpAt_stack fun p below => PySem.wpAt_of_wpAny ?_)
  wp_walk
  refine PySem.wpAt_of_wpAny ?_
  rw [F.owner]
  repeat (first | with_reducible refine wpAny_madeHere_exc F.canon hC ?_ | with_reducible refine wpAny_loadPart_at hC ?_ | (with_reducible refine wpAny_isSubtype_exc hC ?_; first | rw [e1] | rw [e2] | rw [e3]) | wp_step)
  show R _ _
  rw [Heap.size_push]
  exact hq
theorem xi_chk {M : Model} {Q : Unit → Shared → Prop} (hC : h.get? C = some (excClassObj nm q C N bs (rs.map Value.ref ++ bmVE) hdct sn sub ab col dd k0 k1 k2 k3 k5 "ValueError.__new__"))
    (hq : Q () ⟨h, g, d, t, os⟩) : wpAny M A (checkBuiltinCall "ValueError.__new__" ⟨.ref C :: rest, []⟩) Q E ⟨h, g, d, t, os⟩ := by
  have F := PySem.F.excBase_ValueError
  have e1 : (Value.ref C :: (rs.map Value.ref ++ bmVE)).contains (.type "ValueError") = true := by rw [List.contains_cons, xo_has]; rfl
  have e0 := F.noStar
  simp only [checkBuiltinCall, F.newKind, F.newSplit, F.newRow]
  repeat (first | refine wpAny_loadPart_at hC ?_ | (refine wpAny_isSubtype_exc hC ?_; rw [e1]) | refine wpAny_staticBase_exc hC ?_ | refine wpAny_madeBy_exc hC ?_ | simp only [bne_self_eq_false, Bool.false_eq_true, if_false] | wp_step)
  exact hq
theorem xi_call {f : Addr} {Q : Value → Shared → Prop} (X : K.In h) (F : XInit K C f)
    (hq : wpAny (model prog w) (A.under (.builtin "type.__call__" ⟨.ref C :: rest, []⟩)) (call (.ref f) (.ref (h.objs.size + 1) :: rest)) (fun r s' => r = .none ∧ Q (.ref (h.objs.size + 1)) s') E ⟨(h.push (xTup rest)).push (xExc C h.objs.size), g, d, t, os⟩)
    (hr : rest.length ≤ sizeLine) : wpAny (model prog w) A (call (.ref C) rest) Q E ⟨h, g, d, t, os⟩ := by
  obtain ⟨nm, q, N, bs, rs, sn, sub, ab, col, dd, k0, k1, k2, k3, k5, lk⟩ := F.xo
  have hC := X _ _ lk
  have f1 := tc_lookup
  have f2 := tc_bind (.ref C)
  have hT : (⟨h, g, d, t, os⟩ : Shared).TypeIs (.ref C) "type" := ⟨_, hC, rfl⟩
  have kp : ∀ b o, h.get? b = some o → ((h.push (xTup rest)).push (xExc C h.objs.size)).get? b = some o := fun b o e => Heap.get?_push_of_some _ (Heap.get?_push_of_some _ e)
  have X1 : K.In ((h.push (xTup rest)).push (xExc C h.objs.size)) := fun b o e => kp _ _ (X b o e)
  have hC1 := kp _ _ hC
  have hge : ((h.push (xTup rest)).push (xExc C h.objs.size)).get? (h.objs.size + 1) = some (xExc C h.objs.size) := by heap_get
  have ec : (Value.ref C :: (rs.map Value.ref ++ bmVE)).contains (.ref C) = true := by simp
  refine wpAny_call (codeAny_of_tree ?_)
  show wpAny _ _ (callAny (.ref C) _) _ _ _
  repeat (any_goals (first | assumption | with_reducible refine wpAny_loadPart_at hC ?_ | wp_step))
  refine ⟨rfl, ?_⟩
  refine codeAny_call_builtin_at (Code.quiet_builtin _ (by decide +kernel)) entry_typeCall (wpAny_check_type_call_sub hC ?_)
  repeat (first | with_reducible refine wpAny_loadPart_at hC ?_ | with_reducible refine wpAny_madeBy_exc hC ?_ | wp_step)
  refine codeAny_call_builtin_code (Code.quiet_builtin _ PySem.F.excBase_ValueError.quiet) (xi_chk hC ?_)
  refine xi_new hC ?_ hr
  show wpAny _ _ _ _ _ _
  unfold isInstance
  repeat (first | with_reducible refine wpAny_loadPart_at hge ?_ | wp_step)
  refine wpAny_isSubtype_exc hC1 ?_
  rw [ec]
  repeat (first | with_reducible refine wpAny_loadPart_at hge ?_ | wp_step)
  show wpAny _ _ (typeLookup (.ref C) _) _ _ _
  refine xc_tl X1 F.init ?_
  refine wpAny_holding (wpAny_bind ((PySem.W.bind_fn X1 _ (beq_iff_eq.mp F.fn)).here ?_))
  refine wpAny_bind (wpAny_mono hq (fun r s' z => ?_) fun _ _ z => z)
  obtain ⟨rfl, z⟩ := z
  wp_walk
  exact z
end
end G
namespace G
open PySem L2 PySem.Spec PyProof.Rows
def del (H : Hp) (e : Addr) : Hp := fun b => if b = e then none else H b
theorem del_ne {H : Hp} {e b : Addr} (n : b ≠ e) : del H e b = H b := by unfold del; rw [if_neg n]
theorem del_same {H : Hp} {e : Addr} : del H e e = none := by unfold del; rw [if_pos rfl]
theorem drop_ok {X : Cx} {pins : List (Addr × Obj)} {σ : L2.St} {H : Hp} {s : Shared} {e : Addr} {φ : Heap → Prop} (I : Inv X pins σ H s) (he : H e = some (.ext φ)) : Inv X pins σ (del H e) s := by
  have k0 : ∀ b, H b = none → del H e b = none := fun b z => by unfold del; split <;> first | rfl | exact z
  have k1 : ∀ b u, H b = some u → (∀ ψ, u ≠ .ext ψ) → del H e b = some u := fun b u z n => by
    rw [del_ne (fun q => ?_)]; exact z
    subst q; rw [he] at z; cases z; exact n _ rfl
  refine ⟨I.ok, I.os, I.bare, ⟨I.base.keep, I.base.slot, fun b u q n hx => k0 b (I.base.free b u q n hx), I.base.there, fun b xs q => k1 _ _ (I.base.tups b xs q) (fun _ z => nomatch z), fun b u xs q => k1 _ _ (I.base.frzs b u xs q) (fun _ z => nomatch z), fun b ps q => ?_⟩, I.loc, I.cell, k0 _ I.free, fun y c q => k0 _ (I.freeC y c q), fun p hp => ?_, fun b u q => ?_, I.len⟩
  · obtain ⟨m, z⟩ := I.base.tbls b ps q
    exact ⟨m, k1 _ _ z (fun _ z => nomatch z)⟩
  · obtain ⟨p1, p2, p3⟩ := I.pin p hp
    exact ⟨p1, k0 _ p2, p3⟩
  · have n : b ≠ e := fun z => by subst z; rw [del_same] at q; cases q
    rw [del_ne n] at q
    exact (I.hok b u q).stay (fun _ _ _ z => z) (fun c z => k1 _ _ z (fun _ z => nomatch z)) fun c xs z => k1 _ _ z (fun _ z => nomatch z)
section
variable {P : Program} {w : World} {K : PySem.W.Frag} {mg : Str → Option Value} {base : Heap} {N : List Str} {qual : Str} {scope : Scope} {f : Addr} {cd : Value} {A : Around} {outer : List Env} {s : Shared} {H : Hp} {E : XK}
theorem raiseD {pins : List (Addr × Obj)} {σ : L2.St} {H1 : Hp} {s1 : Shared} {e : Addr} {c : Value} {dx : Option Addr} {o : Obj} {vs : Array Value} (I : Inv (cxOf (CXe P w) P w K mg base N qual scope f cd A outer s H E) pins σ H1 s1)
    (h0 : H1 e = none) (hn : s.heap.get? e = none) (he : s1.heap.get? e = some o) (hc : o.cls = c) (hd : o.dict = dx) (hf : o.data = .fields vs) (h1 : vs[1]? = some .none) (hE : E c dx H1) :
    (cxOf (CXe P w) P w K mg base N qual scope f cd A outer s H E).xe (.ref e) s1 := by
  subst hc hd
  have L0 : ∀ b o, s.heap.get? b = some o → b ≠ (envOfC qual scope s.heap.objs.size f cd).locals := fun b o e => Nat.ne_of_lt (Nat.lt_of_lt_of_le (Heap.lt_size e) I.ok.above)
  have nin : ∀ b, ((∃ v, s.heap.get? b = some v) ∨ ∃ v, H1 b = some v) → b ∉ frs outer → b ∉ e :: frs (envOfC qual scope s.heap.objs.size f cd :: outer) := fun b hb hn' hm => by
    rcases List.mem_cons.mp hm with z | hm
    · subst z
      rcases hb with ⟨v, q⟩ | ⟨v, q⟩
      · rw [hn] at q; cases q
      · rw [h0] at q; cases q
    rcases List.mem_cons.mp (I.stkSub b hm) with z | z
    · rcases hb with ⟨v, e⟩ | ⟨v, e⟩
      · exact L0 b v e z
      · rw [z] at e
        have := I.free
        rw [e] at this; cases this
    · exact hn' z
  have fh : s1.heap.FunFrames (PySem.W.hideAll s1.heap (e :: frs (envOfC qual scope s.heap.objs.size f cd :: outer))) (envOfC qual scope s.heap.objs.size f cd :: outer) :=
    PySem.W.funFrames_hide I.stack fun env he b hb => List.mem_cons_of_mem _ (List.mem_filterMap.mpr ⟨env, he, hb⟩)
  have nB : (PySem.W.hideAll s1.heap (e :: frs (envOfC qual scope s.heap.objs.size f cd :: outer))).get? e = none := PySem.W.hideAll_none _ (.head _)
  refine wpAny_bind (fly_note1 (B := PySem.W.hideAll s1.heap (e :: frs (envOfC qual scope s.heap.objs.size f cd :: outer))) I.ok.frames fh rfl he (fun b o q => PySem.W.of_hideAll _ q) nB hf h1 fun h2 y k1 => fly_set (s := { s1 with heap := h2 }) y fun h' z k2 => ?_)
  have fl := z.ftail
  have sm := k1.trans k2
  have inB : ∀ b o, s1.heap.get? b = some o → ((∃ v, s.heap.get? b = some v) ∨ ∃ v, H1 b = some v) → b ∉ frs outer → (PySem.W.hideAll s1.heap (e :: frs (envOfC qual scope s.heap.objs.size f cd :: outer))).get? b = some o :=
    fun b o e hb hn => PySem.W.hideAll_get _ e (nin b hb hn)
  have dat : ∀ b o, s1.heap.get? b = some o → b ∈ frs outer → ∀ vs, o.data ≠ .fields vs := fun b o e hb => by
    obtain ⟨_, o', ho', hd⟩ := I.funs.mem hb
    rw [e] at ho'; cases ho'; exact hd
  have U := un_step (P := P) (w := w) (h2 := h') I.base I.hok (fun b hb => by
      obtain ⟨_, o, ho, _⟩ := I.ok.funs.mem hb
      exact I.base.free b o ho (I.ok.frf b hb) (fun z => nomatch z)) (fun b o e hb hn => fl.st _ _ (inB b o e hb hn)) fun b o e hb => sm b o e (dat b o e hb)
  refine ⟨e, o.cls, o.dict, _, H1, rfl, I.os, I.bare, U.1, U.2, fl, fun b o q hb hn => ?_, hE⟩
  have there : ∃ v, s1.heap.get? b = some v := by
    rcases hb with ⟨v, z⟩ | ⟨v, z⟩
    · exact I.base.there b v z (fun z => nomatch z)
    · exact obj_there (I.hok b v z)
  obtain ⟨v, z⟩ := there
  have q2 := inB b v z hb hn
  have := fl.st _ _ q2
  rw [q] at this; cases this
  exact q2
end
def xnew (a : Addr) (cls : Value) (d : Option Addr) : HO := .ext fun h => ∃ o vs, h.get? a = some o ∧ o.cls = cls ∧ o.data = .fields vs ∧ o.dict = d ∧ vs[1]? = some .none
def tRaiseI (C : Addr) (sp : Sp) (E : XK) (t : TA) : TS := fun _ σ H => t σ H fun vs H1 => vs.length ≤ 100 ∧ ∀ e, H1 e = none → sp (.ref e :: vs) (upd H1 e (xnew e (.ref C) none)) (fun v H2 => v = .non ∧ ∃ dx, H2 e = some (xnew e (.ref C) dx) ∧ E (.ref C) dx (del H2 e)) E0
theorem i_raiseI {C : Addr} {sp : Sp} {E : XK} {t : TA} {σ : L2.St} {H : Hp} {n : L2.St → Hp → Prop} {r : VK} {b c : L2.St → Hp → Prop}
    (h : t σ H fun vs H1 => vs.length ≤ 100 ∧ ∀ e, H1 e = none → sp (.ref e :: vs) (upd H1 e (xnew e (.ref C) none)) (fun v H2 => v = .non ∧ ∃ dx, H2 e = some (xnew e (.ref C) dx) ∧ E (.ref C) dx (del H2 e)) E0) : tRaiseI C sp E t ⟨n, r, b, c⟩ σ H := h
theorem xi_raise {M : Model} {A : Around} {E : Value → Shared → Prop} {s : Shared} {K : PySem.W.Frag} {C : Addr} {env : Env} {x : Sem Value} {Q : Flow → Shared → Prop} (hh : A.handled = none) (F : XObj K C)
    (h : wpAny M A x (fun v s1 => ∃ e o vs, v = .ref e ∧ K.In s1.heap ∧ s1.heap.get? e = some o ∧ o.cls = .ref C ∧ o.data = .fields vs ∧ vs[1]? = some .none ∧ E (.ref e) s1) E s) : wpAny M A (raiseStmt env (some x) none) Q E s := by
  obtain ⟨nm, q, N, bs, rs, sn, sub, ab, col, dd, k0, k1, k2, k3, k5, lk⟩ := F
  have e1 : (Value.ref C :: (rs.map Value.ref ++ bmVE)).contains (.type "BaseException") = true := by rw [List.contains_cons, xo_has]; rfl
  unfold raiseStmt
  refine wpAny_bind (wpAny_mono h (fun v s1 z => ?_) fun _ _ z => z)
  obtain ⟨e, ⟨oc, od, dt, sl⟩, vs, rfl, X, he, hc, hdt, h1, hE⟩ := z
  dsimp only at hc hdt
  subst hc hdt
  have hC := X _ _ lk
  obtain ⟨hp, g, d, tk, os⟩ := s1
  repeat (first | with_reducible refine wpAny_loadPart_at he ?_ | with_reducible refine wpAny_field he rfl h1 ?_ | with_reducible refine wpAny_loadPart_at hC ?_ | (with_reducible refine wpAny_isSubtype_exc hC ?_; rw [e1]) | wp_step)
  exact wpAny_raiseNew_none hh hE
section
variable {X : Cx} {CX : CXT} {k : Nat} {f C : Addr} {fd : FuncData} {ps : List Str} {sp : Sp} {E : XK} {x : Str} {np cpos pos : Pos} {e : Expr} {es : List Expr} {t : TA}
theorem ps_raiseI (hc : X.calm = true) (hg : Gl X x) (hm : X.mg x = some (.ref C)) (hx : XInit X.K C f) (F : FnOk X.prog X.w X.K X.mg X.base CX k f fd ps sp) (hr : Room (k + 1) X.A) (hb : Binds X.K fd ps []) (hp0 : Passes CX X E0) (ha : PA X (e :: es) t)
    (hE : ∀ (pins : List (Addr × Obj)) (σ : L2.St) (H : Hp) (s : Shared) (ea : Addr) (dx : Option Addr) (o : Obj) (vs : Array Value), Inv X pins σ H s → H ea = none → X.s₀.heap.get? ea = none → s.heap.get? ea = some o → o.cls = .ref C → o.dict = dx → o.data = .fields vs → vs[1]? = some .none → E (.ref C) dx H → X.xe (.ref ea) s)
    (hs : starEach (e :: es) X.env = (false, eval e X.env) :: starEach es X.env := by rfl) (hpl : (backTo cpos (starEach es X.env)).any (·.1) = false := by rfl) (hd : (x == ("__debug__" : Str)) = false := by decide) :
    PS X (.Raise (some (.Call (.Name x np) (e :: es) [] cpos)) none pos) (tRaiseI C sp E t) := by
  intro pins s σ H D I h
  obtain ⟨nm, q, N, bs, rs, sn, sub, ab, col, dd, k0, k1, k2, k3, k5, lk⟩ := id hx.xo
  have hpl2 : (backTo cpos (starEach (e :: es) X.env)).any (·.1) = false := by
    rw [hs]
    show (false || (backTo cpos (starEach es X.env)).any (·.1)) = false
    rw [hpl]; rfl
  rw [arm_exec_Raise]
  refine wpAny_bind (wpAny_standAt ?_)
  refine xi_raise (I.ok.hd hc) hx.xo (wpAny_bind (wpAny_mono (wpAny_Call_ofName (ld_glob I hg hm ?_ hd)) (fun v s3 h3 => wpAny_bind (wpAny_standAt (wpAny_pure h3))) fun _ _ z => z))
  unfold callWith
  refine wpAny_bind (wpAny_holding ?_)
  have q0 := ha cpos pins s σ H _ I h
  rw [hs] at q0 ⊢
  refine Calls.evalArgs_plain (thn q0 fun us s1 ⟨vs, H1, I1, r, l1, q1⟩ => wpAny_bind (wpAny_standAt ?_))
  rw [hs] at hpl2
  simp only [hpl2]
  have hl : us.length ≤ sizeLine := by rw [← r.length]; exact Nat.le_trans l1 (by decide)
  have hC := I1.kIn _ _ lk
  obtain ⟨h1, g1, d1, t1, os1⟩ := s1
  refine wpAny_bind (wpAny_keeperOf_exc hC (wpAny_bind (xi_call I1.kIn hx ?_ hl)))
  have kp : ∀ b o, h1.get? b = some o → ((h1.push (xTup us)).push (xExc C h1.objs.size)).get? b = some o := fun b o e => Heap.get?_push_of_some _ (Heap.get?_push_of_some _ e)
  have hge : ((h1.push (xTup us)).push (xExc C h1.objs.size)).get? (h1.objs.size + 1) = some (xExc C h1.objs.size) := by heap_get
  have I2 : Inv X pins σ (upd H1 (h1.objs.size + 1) (xnew (h1.objs.size + 1) (.ref C) none)) ⟨(h1.push (xTup us)).push (xExc C h1.objs.size), g1, d1, t1, os1⟩ :=
    I1.laid (t' := t1) kp (Nat.le_succ _) ⟨⟨_, _, hge, rfl, rfl, rfl, rfl⟩, ⟨_, hge⟩, fun g1 g2 ⟨o2, v2, a1, a2⟩ k => ⟨o2, v2, k _ a1, a2⟩⟩
  have hq := q1 (h1.objs.size + 1) (I1.hok.fresh (Nat.le_succ _))
  have r2 : Vals (V.ref (h1.objs.size + 1) :: vs) (Value.ref (h1.objs.size + 1) :: us) := .cons rfl r
  have hl2 : (Value.ref (h1.objs.size + 1) :: us).length = ps.length := by rw [← r2.length]; exact F.len _ _ _ _ hq
  refine wpAny_call (codeAny_mono (F.run _ X.stack _ _ ⟨Value.ref (h1.objs.size + 1) :: us, []⟩ (Value.ref (h1.objs.size + 1) :: us) _ _ E0 (hr.make C us []) (I2.env0.make C us []) (by have := hb _ (Value.ref (h1.objs.size + 1) :: us) I2.kIn (by rw [List.append_nil]; exact hl2); rw [List.append_nil] at this; exact this) r2 hq) fun r' s' hq' => ?_)
  cases r' with
  | error e => exact hp0 pins σ _ _ e s' I2 hq'
  | ok fl =>
    cases fl with
    | ret u =>
      obtain ⟨v, H', I3, rv, ev, dx, e3, q3⟩ := I2.after hq'
      subst ev
      obtain ⟨⟨o, ws, z1, z2, z3, z4, z5⟩, _⟩ := I3.hok _ _ e3
      refine ⟨rv, wpAny_bind (wpAny_holding (wpAny_point (wpAny_pure ⟨_, o, ws, rfl, I3.kIn, z1, z2, z3, z5, ?_⟩)))⟩
      exact hE pins σ _ s' _ dx o ws (drop_ok I3 e3) del_same (Heap.get?_none_of_le (Nat.le_trans I1.sz (Nat.le_succ _))) z1 z2 z4 z3 z5 q3
    | next => exact False.elim hq'
    | brk => exact False.elim hq'
    | cont => exact False.elim hq'
end
end G
namespace G
open PySem L2 PySem.Spec PyProof.Rows
def tBinit (K : PySem.W.Frag) (t : TA) : TE := fun σ H Q => t σ H fun vs H1 => ∃ a v C d, vs = [.ref a, v] ∧ H1 a = some (xnew a (.ref C) d) ∧ XObj K C ∧ Q .non H1
theorem i_binit {K : PySem.W.Frag} {t : TA} {σ : L2.St} {H : Hp} {Q : VK} (h : t σ H fun vs H1 => ∃ a v C d, vs = [.ref a, v] ∧ H1 a = some (xnew a (.ref C) d) ∧ XObj K C ∧ Q .non H1) : tBinit K t σ H Q := h
structure XBase (K : PySem.W.Frag) (C : Addr) : Prop where
  sp : PySem.W.specialIn K (.ref C) "__getattribute__" = some (some (.builtin "type.__getattribute__"))
  rd : PySem.W.readsIn K C (.type "type") = true
  fc : PySem.W.findCls K (.ref C) (.type "type") "__init__" = some (.val (.builtin "ValueError.__init__"))
theorem xk_same {H : Hp} {a : Addr} {o : HO} (h : H a = some o) : upd H a o = H := by
  funext b
  by_cases z : b = a
  · subst z; rw [upd_same, h]
  · rw [upd_ne z]
section
variable {prog : Program} {w : World} {A : Around} {E : Value → Shared → Prop} {h : Heap} {g : Array GenState} {d : Drawn} {t : Nat} {os : OsState} {K : PySem.W.Frag} {C e : Addr} {o : Obj} {rest : List Value}
theorem xk_chk {M : Model} {Q : Unit → Shared → Prop} (X : K.In h) (F : XObj K C) (he : h.get? e = some o) (hc : o.cls = .ref C) (hq : Q () ⟨h, g, d, t, os⟩) :
    wpAny M A (checkBuiltinCall "ValueError.__init__" ⟨.ref e :: rest, []⟩) Q E ⟨h, g, d, t, os⟩ := by
  obtain ⟨nm, q, N, bs, rs, sn, sub, ab, col, dd, k0, k1, k2, k3, k5, lk⟩ := F
  have hC := X _ _ lk
  have F := PySem.F.excBase_ValueError
  have e1 : (Value.ref C :: (rs.map Value.ref ++ bmVE)).contains (.type "ValueError") = true := by rw [List.contains_cons, xo_has]; rfl
  have e0 := F.noStar
  simp only [checkBuiltinCall, F.initKind, F.initSplit, F.initRow]
  repeat (first | (with_reducible refine wpAny_loadPart_at he ?_; rw [hc]) | with_reducible refine wpAny_loadPart_at hC ?_ | (with_reducible refine wpAny_isSubtype_exc hC ?_; rw [e1]) | wp_step)
  refine wpAny_onRaise ?_
  rw [show ∀ (a b : String) (n : Nat), Bind.check ⟨.positional, "*", "ValueError", .self, [⟨"args", .varPos, false⟩]⟩ a b n (List.map (fun x => x.fst) ({ pos := Value.ref e :: rest } : Args).kw) = pure () from fun a b n => check_star_args _ _ _ _ _ _]
  exact wpAny_pure hq
end
section
variable {X : Cx} {x : Str} {C0 : Addr} {p apos pos : Pos} {e : Expr} {es : List Expr} {t : TA}
theorem pe_binit {pl : Sem Bool} (hg : Gl X x) (hm : X.mg x = some (.ref C0)) (F : XBase X.K C0) (ha : PA X (e :: es) t) (hd : (x == ("__debug__" : Str)) = false := by decide)
    (hst : starEach (e :: es) X.env = (false, eval e X.env) :: starEach es X.env := by rfl) (hpl : (backTo pos (starEach es X.env)).any (·.1) = false := by rfl)
    (ht : eval (.Call (.Attribute (.Name x p) "__init__" apos) (e :: es) [] pos) X.env = (do
      let ov ← eval (.Name x p) X.env
      standAt apos.atName
      let (f, first) ← holding [ov] (getMethod ov "__init__" pl)
      callWith pos f first (backTo pos (starEach (e :: es) X.env)) (backToKw pos (keywordEach [] X.env))) := by rfl) :
    PE X (.Call (.Attribute (.Name x p) "__init__" apos) (e :: es) [] pos) (tBinit X.K t) := by
  intro pins s σ H Q I h
  refine PySem.W.methodCall_KW (pl := pl) (ld_glob I hg hm ?_ hd) ht
  refine PySem.W.method_cls I.kIn F.sp (PySem.W.cls_value I.kIn F.rd F.fc (by decide) ?_)
  refine callWith_builtin1 (thn (ha pos pins _ σ H _ (I.tok _) h) fun us s1 ⟨vs, H1, I1, r, a, v, C, d, ev, ea, xo, q⟩ => ?_) hst hpl
  subst ev
  obtain ⟨u, w', rfl, ru, rw'⟩ := vals2 r
  obtain rfl : u = Value.ref a := ru
  obtain ⟨⟨o, ws, z1, z2, z3, z4, z5⟩, _⟩ := I1.hok _ _ ea
  obtain ⟨h1, g1, d1, t1, os1⟩ := s1
  have FE := PySem.F.excBase_ValueError
  have zt : 0 < ws.size := Nat.lt_trans (Nat.zero_lt_succ 0) (Array.getElem?_eq_some_iff.mp z5).1
  refine wpAny_call (codeAny_call_builtin FE.init.plain FE.initEntry (xk_chk I1.kIn xo z1 z2 ?_))
  have z1' := Heap.get?_push_of_some (h := h1) (xTup [w']) z1
  have h0 : ws[0]? = some ws[0] := Array.getElem?_eq_getElem zt
  have J := I1.kept (t' := t1) (h' := h1.push (xTup [w'])) fun b u q => Heap.get?_push_of_some _ q
  have e2 := Heap.get?_update_self (Obj.mapFields (·.setIfInBounds 0 (Value.ref h1.objs.size))) z1' (Obj.isFreed_of_fields (Obj.data_mapFields z3 _))
  have J2 := J.write (x := a) (e := a) (o := xnew a (.ref C) d) (t' := t1) (h' := (h1.push (xTup [w'])).update a (Obj.mapFields (·.setIfInBounds 0 (Value.ref h1.objs.size)))) (by rw [ea]; trivial) (.inl rfl) (fun b u n q => (Heap.get?_update_other _ _ (Ne.symm n)).trans q) ⟨_, e2⟩
    ⟨⟨_, _, e2, (Obj.cls_mapFields _ _).trans z2, Obj.data_mapFields z3 _, (dict_mf _ _).trans z4, by rw [Array.getElem?_setIfInBounds_ne (by decide)]; exact z5⟩, ⟨_, e2⟩, fun g1 g2 ⟨o2, v2, a1, a2⟩ k => ⟨o2, v2, k _ a1, a2⟩⟩
  rw [xk_same ea] at J2
  unfold Builtin.«BaseException.__init__»
  repeat (any_goals (first | assumption | with_reducible refine wpAny_field z1' z3 h0 ?_ | with_reducible refine wpAny_setField z1' z3 zt ?_ | wp_step))
  generalize ws[0] = y
  cases y <;> (repeat (any_goals (first | exact ⟨.non, H1, J2, rfl, q⟩ | assumption | wp_step)))
end
end G
namespace G
open PySem L2 PySem.Spec PyProof.Rows
structure XSet (K : PySem.W.Frag) (C : Addr) (f : Str) : Prop where
  sa : PySem.W.findIn K (.ref C) "__setattr__" = some (some (.builtin "object.__setattr__"))
  no : PySem.W.findIn K (.ref C) f = some none
structure XGet (K : PySem.W.Frag) (C : Addr) (f : Str) : Prop where
  ex : ExcI K C
  no : PySem.W.findIn K (.ref C) f = some none
def sXset (K : PySem.W.Frag) (f : Str) (ta tv : TE) : TS := fun D σ H => tv σ H fun y H1 => ta σ H1 fun x H2 => ∃ a C, x = .ref a ∧ H2 a = some (xnew a (.ref C) none) ∧ XObj K C ∧ XSet K C f ∧
  ∀ dx, H2 dx = none → dx ≠ a → D.nx σ (upd (upd H2 a (xnew a (.ref C) (some dx))) dx (.xd [(f, y)]))
def tXget (K : PySem.W.Frag) (ta : TE) (f : Str) : TE := fun σ H Q => ta σ H fun x H1 => ∃ a C dx fs v, x = .ref a ∧ H1 a = some (xobj a (.ref C) (some dx)) ∧ H1 dx = some (.xd fs) ∧ XGet K C f ∧ fs.lookup f = some v ∧ Q v H1
theorem i_xset {K : PySem.W.Frag} {f : Str} {ta tv : TE} {σ : L2.St} {H : Hp} {n : L2.St → Hp → Prop} {r : VK} {b c : L2.St → Hp → Prop} (h : tv σ H fun y H1 => ta σ H1 fun x H2 => ∃ a C, x = .ref a ∧ H2 a = some (xnew a (.ref C) none) ∧ XObj K C ∧ XSet K C f ∧
  ∀ dx, H2 dx = none → dx ≠ a → n σ (upd (upd H2 a (xnew a (.ref C) (some dx))) dx (.xd [(f, y)]))) : sXset K f ta tv ⟨n, r, b, c⟩ σ H := h
theorem i_xget {K : PySem.W.Frag} {ta : TE} {f : Str} {σ : L2.St} {H : Hp} {Q : VK} (h : ta σ H fun x H1 => ∃ a C dx fs v, x = .ref a ∧ H1 a = some (xobj a (.ref C) (some dx)) ∧ H1 dx = some (.xd fs) ∧ XGet K C f ∧ fs.lookup f = some v ∧ Q v H1) : tXget K ta f σ H Q := h
section
variable {prog : Program} {w : World} {A : Around} {E : Value → Shared → Prop} {h : Heap} {g : Array GenState} {d : Drawn} {t : Nat} {os : OsState} {K : PySem.W.Frag} {C x : Addr} {o : Obj} {v : Value} {name : Str}
theorem xl_set {Q : Unit → Shared → Prop} {vs : Array Value} (X : K.In h) (F : XObj K C) (S : XSet K C name) (hx : h.get? x = some o) (hc : o.cls = .ref C) (hd : o.data = .fields vs) (hn : o.dict = none)
    (hq : ∀ h' tk, h'.Ns1 h.objs.size (fun y => if y = name then some v else none) → h'.get? x = some { o with dict := some h.objs.size } → (∀ b u, b ≠ x → h.get? b = some u → h'.get? b = some u) → Q () ⟨h', g, d, tk, os⟩) :
    wpAny (model prog w) A (setAttr (.ref x) name v) Q E ⟨h, g, d, t, os⟩ := by
  obtain ⟨nm, q, N, bs, rs, sn, sub, ab, col, dd, k0, k1, k2, k3, k5, lk⟩ := F
  have hC := X _ _ lk
  have SF := PySem.F.store_ValueError
  have hp := xo_pass (.ref x) rs
  have f3 := SF.slot.bind (.ref x)
  have e1 : (Value.ref C :: (rs.map Value.ref ++ bmVE)).contains (.type "object") = true := by rw [List.contains_cons, xo_has]; rfl
  have ha := fun (nv : Value) => SF.args (.ref x) nv v
  have hx1 : (h.push { cls := .type "dict", data := .dict #[] }).get? x = some o := Heap.get?_push_of_some _ hx
  have nx : x ≠ h.objs.size := Nat.ne_of_lt (Heap.lt_size hx)
  unfold setAttr callSpecial? specialOf
  repeat (any_goals (first | assumption | (with_reducible refine wpAny_loadPart_at hx ?_; rw [hc]) | (with_reducible refine xc_tl X S.sa ?_) | wp_step))
  refine codeAny_call_builtin SF.slot.plain SF.entry ?_
  have chk : ∀ (M : Model) (B : Around) (EE : Value → Shared → Prop) (tk : Nat) (nv : Value) (QQ : Unit → Shared → Prop), QQ () ⟨h, g, d, tk, os⟩ → wpAny M B (checkBuiltinCall "object.__setattr__" ⟨[.ref x, nv, v], []⟩) QQ EE ⟨h, g, d, tk, os⟩ := fun M B EE tk nv QQ z => by
    have ha := SF.args (.ref x) nv v
    simp only [checkBuiltinCall, SF.kind, SF.split]
    refine wpAny_bind ?_
    unfold isInstance
    repeat (first | (with_reducible refine wpAny_loadPart_at hx ?_; rw [hc]) | (with_reducible refine wpAny_isSubtype_exc hC ?_; rw [e1]) | wp_step)
    exact z
  refine chk _ _ _ _ _ _ ?_
  unfold Builtin.«object.__setattr__»
  repeat (first | rw [refuse_eq] | (rw [refuseLoop_ref, hp]) | (with_reducible refine wpAny_loadPart_at hx ?_; rw [hc]) | with_reducible refine wpAny_mroOf_exc hC ?_ | with_reducible refine xc_tl X S.no ?_ | wp_step)
  rw [hn, if_neg (by simp [typeHasDict])]
  split
  · rename_i z; cases z
  split
  · rename_i c z; rw [hd] at z; cases z
  · refine wpAny_bind (wpAny_alloc' (wpAny_bind (wpAny_update' hx1 (wpAny_pure ?_))))
    have hgd : ((h.push { cls := .type "dict", data := .dict #[] }).update x fun o => { cls := o.cls, dict := some h.objs.size, data := o.data, slots := o.slots }).get? h.objs.size = some { cls := .type "dict", data := .dict #[] } :=
      (Heap.get?_update_ne _ _ _ _ nx.symm).trans (Heap.get?_push_at rfl rfl)
    have hnd : ((h.push { cls := .type "dict", data := .dict #[] }).update x fun o => { cls := o.cls, dict := some h.objs.size, data := o.data, slots := o.slots }).Ns h.objs.size (fun _ => none) := ⟨_, #[], _, hgd, rfl, fun e he => absurd he (by simp), fun _ => rfl⟩
    show wpAny _ _ (Builtin.ObjectAttr.storeInDict h.objs.size (.str name _) name v) _ _ _
    unfold Builtin.ObjectAttr.storeInDict Builtin.ObjectAttr.newKeyGuard
    refine wpAny_bind (wpAny_pure (wpAny_bind (wpAny_nsSet1 (Heap.Ns1.of_empty hnd) fun h' hn' hs => ?_)))
    obtain ⟨oD, esD, epD, hoD, hdD, hcD⟩ := hn'.count (Within.cons name v Within.nil)
    refine wpAny_bind (wpAny_lookBehind hoD (by rw [hdD]; exact pastItsLine_dict (Nat.le_trans hcD (by rw [List.length_cons, List.length_nil, sizeLine_eq]; omega))) ?_)
    wp_walk
    refine hq h' _ hn' ((hs.2 x nx).trans (Heap.get?_update_self _ hx1 (Obj.isFreed_of_fields (vs := vs) hd))) fun b u n hb => ?_
    exact (hs.2 b (Nat.ne_of_lt (Heap.lt_size hb))).trans ((Heap.get?_update_ne _ _ _ _ n).trans (Heap.get?_push_of_some _ hb))
theorem xl_get {Q : Value → Shared → Prop} {od : Obj} {expr : Bool} (X : K.In h) (F : XGet K C name) (J : PySem.W.InstAt h x o C (some od)) (hl : PySem.W.lookIn name od = some (some v)) (hv : PySem.W.handedIn v = true) (hq : Q v ⟨h, g, d, t + 1, os⟩) :
    wpAny (model prog w) A (getAttr (.ref x) name expr) Q E ⟨h, g, d, t, os⟩ := by
  have hx := J.at_
  have hc := J.cls
  have LF := fun (M : Model) => PySem.W.looks_find (M := M) X J (PySem.W.findObj_own F.ex.is F.no rfl hl)
  have f3 := PySem.F.attr_ValueError.ga.bind (.ref x)
  have e1 : (onTheHeap (Value.ref C) && Value.builtin "BaseException.__getattribute__" == Value.builtin "object.__getattribute__") = false := by
    rw [show (Value.builtin "BaseException.__getattribute__" == Value.builtin "object.__getattribute__") = false by decide +kernel]; rfl
  have e2 : (expr && onTheHeap (Value.builtin "BaseException.__getattribute__")) = false := by cases expr <;> rfl
  unfold getAttr getAttrBy
  repeat any_goals (first | assumption | (with_reducible refine wpAny_loadPart_at hx ?_; rw [hc]) | with_reducible refine xc_tl X F.ex.ga ?_ | with_reducible refine xc_tl X F.ex.no ?_ | wp_step)
  refine codeAny_call_builtin PySem.F.attr_ValueError.ga.plain PySem.F.entry_bexc_ga (xc_check X F.ex hx hc ?_)
  unfold Builtin.«object.__getattribute__»
  repeat any_goals (first | assumption | (with_reducible refine wpAny_loadPart_at hx ?_; rw [hc]) | (refine (LF _).here ?_) | wp_step)
  show wpAny _ _ (handedOut v) _ _ _
  rw [PySem.W.handedOut_of hv]
  exact wpAny_pure hq
end
section
variable {X : Cx} {o e value : Expr} {f : Str} {pos pos' : Pos} {ta tv : TE}
theorem ps_xset (ha : PE X o ta) (hv : PE X value tv) (hs : swapsWith value (some (.Attribute o f pos')) pos.line X.env = pure false) : PS X (.Assign [.Attribute o f pos'] value pos) (sXset X.K f ta tv) := by
  intro pins s σ H D I h
  refine plainObj_wpAny_Assign_Attribute (thn (hv pins s σ H _ I h) fun u s1 ⟨y, H1, I1, ry, q⟩ => thn (ha pins s1 σ H1 _ I1 q) fun ov s2 ⟨x, H2, I2, rx, a, C, ex, ea, xo, xs, q2⟩ => ?_) hs
  subst ex
  obtain rfl : ov = Value.ref a := rx
  obtain ⟨⟨ob, ws, z1, z2, z3, z4, z5⟩, _⟩ := I2.hok _ _ ea
  obtain ⟨h1, g1, d1, t1, os1⟩ := s2
  refine xl_set I2.kIn xo xs z1 z2 z3 z4 fun h' tk hn hx k => ?_
  have na : h1.objs.size ≠ a := Nat.ne_of_gt (Heap.lt_size z1)
  have fr := I2.hok.fresh (Nat.le_refl h1.objs.size)
  have J := I2.write (x := a) (e := a) (o := xnew a (.ref C) (some h1.objs.size)) (t' := tk) (h' := h') (by rw [ea]; trivial) (.inl rfl) k ⟨_, hx⟩ ⟨⟨_, ws, hx, z2, z3, rfl, z5⟩, ⟨_, hx⟩, fun g1 g2 ⟨o2, v2, a1, a2⟩ k => ⟨o2, v2, k _ a1, a2⟩⟩
  refine ⟨σ, _, ?_, q2 h1.objs.size fr na⟩
  have kk : (upd H2 a (xnew a (.ref C) (some h1.objs.size))) h1.objs.size = none := by rw [upd_ne na]; exact fr
  exact ⟨J.ok, J.os, J.bare, ⟨J.base.keep, J.base.slot, fun b o q n hx => (by
      rw [upd_ne (Nat.ne_of_lt (Nat.lt_of_lt_of_le (Heap.lt_size q) I2.sz))]; exact J.base.free b o q n hx), J.base.there, fun b xs q => (by
      rw [upd_ne (ne_of_none (J.base.tups b xs q) kk)]; exact J.base.tups b xs q), fun b o xs q => (by
      rw [upd_ne (ne_of_none (J.base.frzs b o xs q) kk)]; exact J.base.frzs b o xs q), fun b ps q => (by
      obtain ⟨m, z⟩ := J.base.tbls b ps q
      exact ⟨m, by rw [upd_ne (ne_of_none z kk)]; exact z⟩)⟩, J.loc, J.cell, (by
      rw [upd_ne (Nat.ne_of_lt I2.lt)]; exact J.free), fun y c q => (by
      obtain ⟨v, ⟨oc, hoc, _⟩⟩ := I2.cell y c q
      rw [upd_ne (Nat.ne_of_lt (Heap.lt_size hoc))]; exact J.freeC y c q), fun p hp => (by
      obtain ⟨p1, p2, p3⟩ := J.pin p hp
      obtain ⟨r1, _⟩ := I2.pin p hp
      exact ⟨p1, by rw [upd_ne (Nat.ne_of_lt (Heap.lt_size r1))]; exact p2, p3⟩), fun b u q => (by
      by_cases z : b = h1.objs.size
      · subst z
        rw [upd_same] at q; cases q
        refine ⟨_, hn, fun y => ?_⟩
        by_cases hy : y = f
        · subst hy
          simp only [if_true]
          show RelO (List.lookup y [(y, _)]) _
          rw [List.lookup_cons, beq_self_eq_true]
          exact ry
        · rw [if_neg hy]
          show RelO (List.lookup y [(f, _)]) _
          rw [List.lookup_cons, beq_eq_false_iff_ne.mpr hy]
          exact trivial
      · rw [upd_ne z] at q
        exact (J.hok b u q).stay (fun _ _ _ z => z) (fun c z => by rw [upd_ne (ne_of_none z kk)]; exact z) fun c xs z => by rw [upd_ne (ne_of_none z kk)]; exact z), J.len⟩
theorem pe_xget (he : PE X e ta) (hb : attributeBase e f X.env (eval e X.env) = eval e X.env) : PE X (.Attribute e f pos) (tXget X.K ta f) := by
  intro pins s σ H Q I h
  refine attr_of hb (thn (he pins s σ H _ I h) fun u s1 ⟨x, H1, I1, rx, a, C, dx, fs, v, ex, ea, edx, F, l, q⟩ => ?_)
  subst ex
  obtain rfl : u = Value.ref a := rx
  obtain ⟨⟨ob, ws, z1, z2, z3, z4⟩, _⟩ := I1.hok _ _ ea
  obtain ⟨mA, hn, hr⟩ := I1.hok _ _ edx
  obtain ⟨od, hod, hlk⟩ := lookIn_ns hn
  have r1 := hr f
  rw [l] at r1
  obtain ⟨h1, g1, d1, t1, os1⟩ := s1
  cases hm : mA f with
  | none => rw [hm] at r1; exact absurd r1 (by simp [RelO])
  | some u =>
    rw [hm] at r1
    have ru : RelV v u := r1
    refine xl_get I1.kIn F ⟨z1, z2, by simp [PySem.W.notCls, z3], by rw [z4]; exact hod⟩ (by rw [hlk, hm]) ?_ ⟨v, H1, I1.tok _, ru, q⟩
    exact handed_of ru
end
end G
local macro_rules | `(tactic| walk_at "g2") => `(tactic| with_reducible first | refine G.i_next ?_ | refine G.i_drop ?_ | refine G.i_ret ?_ | refine G.i_if ?_ | refine G.i_asg ?_ | refine G.i_C ?_ | refine G.i_op ?_ | refine G.i_un ?_ | refine G.i_B ?_ | refine G.i_test ?_ | refine G.i_tB ?_ | refine G.i_and ?_ | refine G.i_or ?_ | refine G.i_not ?_ | refine G.i_andV ?_ | refine G.i_orV ?_ | refine G.i_notV ?_ | refine G.i_ifx ?_ | refine G.i_I0 ?_ | refine G.i_U ?_ | refine G.i_eqI ?_ | refine G.i_eqS ?_ | refine G.i_eqNI ?_ | refine G.i_neI ?_ | refine G.i_neS ?_ | refine G.i_isN0 ?_ | refine G.i_isN1 ?_ | refine G.i_isN2 ?_ | refine G.i_isN3 ?_ | refine G.i_notN0 ?_ | refine G.i_notN1 ?_ | refine G.i_notN2 ?_ | refine G.i_iteT ?_ | refine G.i_iteF ?_ | refine G.i_iteNT ?_ | refine G.i_iteNF ?_ | refine G.i_nil ?_ | refine G.i_cons ?_ | refine G.i_lst ?_ | refine G.i_tup ?_ | refine G.i_call ?_ | refine G.i_CB ?_ | refine G.i_noPart ?_ | refine G.i_part ?_ | refine G.i_kI ?_ | refine G.i_sl ?_ | refine G.i_bm ?_ | refine G.i_for ?_ | refine G.i_iL ?_ | refine G.i_iR ?_ | refine G.i_v0 ?_ | refine G.i_v1 ?_ | refine G.i_v2 ?_ | refine G.i_v3 ?_ | refine G.i_v4 ?_ | refine G.i_v5 ?_ | refine G.i_v6 ?_ | refine G.i_v7 ?_ | refine G.i_v8 ?_ | refine G.i_v9 ?_ | refine G.i_v10 ?_ | refine G.i_v11 ?_ | refine G.i_v12 ?_ | refine G.i_v13 ?_ | refine G.i_v14 ?_ | refine G.i_v15 ?_ | refine G.i_g0 ?_ | refine G.i_g1 ?_ | refine G.i_g2 ?_ | refine G.i_g3 ?_ | refine G.i_g4 ?_ | refine G.i_g5 ?_ | refine G.i_g6 ?_ | refine G.i_g7 ?_ | refine G.i_g8 ?_ | refine G.i_g9 ?_ | refine G.i_g10 ?_ | refine G.i_g11 ?_ | refine G.i_g12 ?_ | refine G.i_g13 ?_ | refine G.i_g14 ?_ | refine G.i_g15 ?_ | refine G.i_inS ?_ | refine G.i_tyS ?_ | refine G.i_true ?_ | refine G.i_chain ?_ | refine G.i_starts ?_ | refine G.i_max ?_ | refine G.i_min ?_ | refine G.i_callX ?_ | refine G.i_tryAs ?_ | refine G.i_gsub ?_ | refine G.i_isiI_int ?_ | refine G.i_isiI_bool ?_ | refine G.i_isiI_str ?_ | refine G.i_isiS_str ?_ | refine G.i_isiN_str ?_ | refine G.i_iE ?_ | refine G.i_iZ ?_ | refine G.i_fs ?_ | refine G.i_fmt ?_ | refine G.i_iES ?_ | refine G.i_raiseI ?_ | refine G.i_binit ?_ | refine G.i_xset ?_ | refine G.i_xget ?_ | refine G.i_ifrepl ?_)
local macro_rules | `(tactic| walk_at "g1") => `(tactic| first | (with_reducible refine G.i_seq ?_) | walk_at "g2")
local macro_rules | `(tactic| walk_at "ne") => `(tactic| first | assumption | (exact Ne.symm (by assumption)) | exact L2.ne_of_none (by assumption) (by assumption) | exact Ne.symm (L2.ne_of_none (by assumption) (by assumption)) | exact Nat.ne_of_lt (by assumption))
local macro_rules | `(tactic| walk_at "hp") => `(tactic| first | assumption | exact L2.upd_same | (refine Eq.trans (L2.upd_ne ?hne) ?_; (case hne => walk_at "ne"); walk_at "hp"))
local macro_rules | `(tactic| walk_at "side") => `(tactic| first | omega | decide | (show (_ : Int) < _; decide) | exact ⟨by decide, by decide⟩ | exact ⟨by decide, by decide, by decide⟩ | (unfold L2.CMul; omega) | exact .inl (by unfold L2.CMul; omega))
local macro_rules | `(tactic| walk_at "ev") => `(tactic| repeat (first | walk_at "g1" | ((with_reducible refine G.i_I ?hc ?_); (case hc => walk_at "side"))))
local macro_rules | `(tactic| walk_at "es") => `(tactic| repeat (first | walk_at "g2" | ((with_reducible refine G.i_I ?hc ?_); (case hc => walk_at "side"))))
local macro_rules | `(tactic| walk_at "caps") => `(tactic| simp only [List.map_cons, List.map_nil, G.pick, List.getElem?_cons_zero, List.getElem?_cons_succ])
namespace K39
open PySem L2 G
def rd_TextError___init__ (K : PySem.W.Frag) : TS :=
  (tSeq (tDrop (G.tBinit K (tCons (tVar 0) (tCons (G.tFs [(tC (.str "row ")), (G.tFmt (tVar 1))] Str.empty) tNil))))
      (G.sXset K "row" (tVar 0) (tVar 1)))
def rd_made_of (K : PySem.W.Frag) : TS :=
  (tRet ((tAndV (tChain (rI0 fun i j => .bl (decide (i ≤ j))) (rI0 fun i j => .bl (decide (i ≤ j))) (tC (.int 1)) (tCB (G.cLenS) (tCons (tVar 0) tNil)) (tVar 2)) (tCB (G.cAll K) (tCons (G.tLC (G.iStr (tVar 0)) [1] G.tTrue (tOp (G.rInS) (tVar 0) (tVar 1))) tNil)))))
def rd_number_of (K : PySem.W.Frag) (sp_made_of : Sp) : TS :=
  (tSeq (tIfS (tNot (tB (tCall sp_made_of [] E0 (tCons (tVar 0) (tCons (tC (.str "0123456789")) (tCons (tC (.int 60)) tNil)))))) (tRet (tC .non)) tNext)
      (tSeq (tIfS ((tAnd (tB (tBM K "str" G.r_startswith (tVar 0) (tCons (tC (.str "0")) tNil))) (tTest (tOp (rNe) (tVar 0) (tC (.str "0")))))) (tRet (tC .non)) tNext)
      (tSeq (tAsg (tCB (G.cIntS) (tCons (tVar 0) tNil)) (gName 2))
      (tSeq (tIfS ((tAnd (tTest (tOp (G.rNotN) (tVar 1) (tC .non))) (tTest (tOp (rI0 fun i j => .bl (decide (j < i))) (tVar 2) (tVar 1))))) (tRet (tC .non)) tNext)
      (tRet (tVar 2))))))
def rd_load_of (K : PySem.W.Frag) (sp_number_of : Sp) : TS :=
  (tSeq (tIfS (tNot (tB (tBM K "str" G.r_startswith (tVar 0) (tCons (tC (.str "-")) tNil)))) (tRet (tCall sp_number_of [.non] E0 (tCons (tVar 0) tNil))) tNext)
      (tSeq (tAsg (tCall sp_number_of [.non] E0 (tCons (tSl (G.rSlS) (tVar 0) (tPart (tC (.int 1))) tNoPart) tNil)) (gName 1))
      (tSeq (tIfS ((tOr (tTest (tOp (G.rIsN) (tVar 1) (tC .non))) (tTest (tOp (rEq) (tVar 1) (tC (.int 0)))))) (tRet (tC .non)) tNext)
      (tRet (tUn (rU fun i => .int (-i)) (tVar 1))))))
def rd_event_row (K : PySem.W.Frag) : TS :=
  (tSeq (tAsg (tIf (tTest (tOp (G.rIsN) (tOp (rIxT K) (tVar 0) (tC (.int 1))) (tC .non))) (tC (.str "-")) (tCB (G.cStrV) (tCons (tOp (rIxT K) (tVar 0) (tC (.int 1))) tNil))) (gName 1))
      (tRet (tBM K "str" (G.r_join K) (tC (.str " ")) (tCons (tOp (rCat) (tLst (tCons (tOp (rIxT K) (tVar 0) (tC (.int 0))) (tCons (tVar 1) tNil))) (G.tLC (iList K (tOp (rIxT K) (tVar 0) (tC (.int 2)))) [] G.tTrue (tCB (G.cStrI) (tCons (tVar 0) tNil)))) tNil))))
def rd_event_of (K : PySem.W.Frag) (sp_has_thing sp_number_of sp_thing_of : Sp) : TS :=
  (tSeq (tAsg (tBM K "str" G.r_split (tVar 0) (tCons (tC (.str " ")) tNil)) (gName 1))
      (tSeq (tIfS ((tOr (tTest (tOp (rI0 fun i j => .bl (decide (i < j))) (tCB (G.cLenL K) (tCons (tVar 1) tNil)) (tC (.int 2)))) (tNot (tB (tCall sp_has_thing [] E0 (tCons (tOp (rIxL K) (tVar 1) (tC (.int 0))) (tCons (tOp (rIxL K) (tVar 1) (tC (.int 1))) tNil))))))) (tRet (tC .non)) tNext)
      (tSeq (tAsg (G.tLC (iList K (tSl (rSlL K) (tVar 1) (tPart (tC (.int 2))) tNoPart)) [] G.tTrue (tCall sp_number_of [.non] E0 (tCons (tVar 0) tNil))) (gName 2))
      (tSeq (tIfS (tTest (tOp (rIn K false) (tC .non) (tVar 2))) (tRet (tC .non)) tNext)
      (tRet (tTup (tCons (tOp (rIxL K) (tVar 1) (tC (.int 0))) (tCons (tCall sp_thing_of [] E0 (tCons (tOp (rIxL K) (tVar 1) (tC (.int 0))) (tCons (tOp (rIxL K) (tVar 1) (tC (.int 1))) tNil))) (tCons (tVar 2) tNil)))))))))
def rd_has_thing (K : PySem.W.Frag) (C_REFUSALS C_WORDS : Addr) (sp_load_of : Sp) : TS :=
  (tSeq (tIfS (tTest (tOp (rEq) (tVar 0) (tC (.str "refused")))) (tRet (tOp (rIn K false) (tVar 1) (tC (.ref C_REFUSALS)))) tNext)
      (tRet ((tAndV (tOp (rIn K false) (tVar 0) (tC (.ref C_WORDS))) ((tOrV (tOp (rEq) (tVar 1) (tC (.str "-"))) (tOp (G.rNotN) (tCall sp_load_of [] E0 (tCons (tVar 1) tNil)) (tC .non))))))))
def rd_thing_of (sp_load_of : Sp) : TS :=
  (tRet (tIf (tTest (tOp (rEq) (tVar 0) (tC (.str "refused")))) (tVar 1) (tCall sp_load_of [] E0 (tCons (tVar 1) tNil))))
def rd_report (K : PySem.W.Frag) (sp_event_row : Sp) : TS :=
  (tSeq (tAsg (tLst tNil) (gName 1))
      (tSeq (tFor (G.iEnumS K (tCons (tVar 0) tNil)) (gTup K 2 (gCons (gName 2) (gCons (gName 3) gNil)))
      (tDrop (tBM K "list" rExtend (tVar 1) (tCons (G.tLC (iList K (tVar 3)) [2] G.tTrue (tOp (G.rCatS) (G.tFs [(G.tFmt (tVar 1)), (tC (.str " "))] Str.empty) (tCall sp_event_row [] E0 (tCons (tVar 0) tNil)))) tNil))))
      (tRet (tBM K "str" (G.r_join K) (tC (.str "\n")) (tCons (tVar 1) tNil)))))
def rd_heard_t0_2 (K : PySem.W.Frag) (C_BadRow : Addr) (sp_TextError___init__ sp_event_of sp_goes_on sp_number_of : Sp) (E : XK) : TS :=
  (tSeq (tFor (G.iEnumS K (tCons (tVar 2) tNil)) (gTup K 2 (gCons (gName 3) (gCons (gName 4) gNil)))
      (tSeq (tAsg (tBM K "str" G.r_part (tVar 4) (tCons (tC (.str " ")) tNil)) (gName 5))
      (tSeq (tAsg (tCall sp_number_of [.non] E0 (tCons (tOp (rIxT K) (tVar 5) (tC (.int 0))) tNil)) (gName 6))
      (tSeq (tAsg (tCall sp_event_of [] E0 (tCons (tOp (rIxT K) (tVar 5) (tC (.int 2))) tNil)) (gName 7))
      (tSeq (tIfS ((tOr (tTest (tOp (G.rIsN) (tVar 7) (tC .non))) (tNot (tB (tCall sp_goes_on [] E0 (tCons (tVar 6) (tCons (tCB (G.cLenL K) (tCons (tVar 1) tNil)) tNil))))))) (G.tRaiseI C_BadRow sp_TextError___init__ E (tCons (tVar 3) tNil)) tNext)
      (tSeq (tIfS (tTest (tOp (rI0 fun i j => .bl (decide (j < i))) (tVar 6) (tCB (G.cLenL K) (tCons (tVar 1) tNil)))) (tDrop (tBM K "list" rAppend (tVar 1) (tCons (tLst tNil) tNil))) tNext)
      (tDrop (tBM K "list" rAppend (tOp (rIxL K) (tVar 1) (tUn (rU fun i => .int (-i)) (tC (.int 1)))) (tCons (tVar 7) tNil)))))))))
      (tRet (tVar 1)))
def rd_heard (K : PySem.W.Frag) (C_BadRow : Addr) (sp_TextError___init__ sp_event_of sp_goes_on sp_number_of : Sp) (E : XK) : TS :=
  (tSeq (tAsg (tLst tNil) (gName 1))
      (tSeq (tAsg (tIf (tTest (tOp (rNe) (tVar 0) (tC (.str "")))) (tBM K "str" G.r_split (tVar 0) (tCons (tC (.str "\n")) tNil)) (tLst tNil)) (gName 2))
      (rd_heard_t0_2 K C_BadRow sp_TextError___init__ sp_event_of sp_goes_on sp_number_of E)))
def rd_goes_on  : TS :=
  (tRet ((tOrV (tOp (rEq) (tVar 0) (tOp (rI0 fun i j => .int (i + j)) (tVar 1) (tC (.int 1)))) ((tAndV (tOp (rEq) (tVar 0) (tVar 1)) (tOp (rI0 fun i j => .bl (decide (j < i))) (tVar 1) (tC (.int 0))))))))
def rd__law_cell_at (K : PySem.W.Frag) : TS :=
  (tSeq (tIfS (tTest (tOp (rI0 fun i j => .bl (decide (i < j))) (tVar 1) (tCB (G.cLenL K) (tCons (tVar 0) tNil)))) (tRet (tOp (rIxL K) (tVar 0) (tVar 1))) tNext)
      (tRet (tC (.int 0))))
def rd__law_whole  : TS :=
  (tRet ((tAndV (tCB (G.cIsi) (tCons (tVar 0) (tCons (tC (.ty "int")) tNil))) (tNotV (tCB (G.cIsi) (tCons (tVar 0) (tCons (tC (.ty "bool")) tNil)))))))
def rd__law_words (K : PySem.W.Frag) : TS :=
  (tSeq (tAsg (tC (.str "made got put copied dropped given wrote read named sought refused")) (gName 0))
      (tSeq (tAsg (tOp (G.rCatS) (tVar 0) (tC (.str " begin walk look cut lost back pass end"))) (gName 0))
      (tRet (tBM K "str" G.r_split (tVar 0) (tCons (tC (.str " ")) tNil)))))
def rd__law_event_by_t0_6 (K : PySem.W.Frag) : TS :=
  (tSeq (tAsg (G.tLC (iRng1 (tCons (tOp (rI (fun _ j => 0 < j) fun i j => .int (i % j)) (tOp (rI CDiv fun i j => .int (i / j)) (tVar 2) (tC (.int 114))) (tC (.int 4))) tNil)) [0, 1, 2] G.tTrue (tOp (rI (fun _ j => 0 < j) fun i j => .int (i % j)) (tOp (rI G.CMulB fun i j => .int (i * j)) (tOp (rI0 fun i j => .int (i + j)) (tVar 1) (tC (.int 5))) (tOp (rI0 fun i j => .int (i + j)) (tVar 2) (tVar 0))) (tOp (rIxL K) (tLst (tCons (tC (.int 10)) (tCons (tOp (rI CPow fun i j => .int (i ^ j.toNat)) (tC (.int 10)) (tC (.int 60))) tNil))) (tOp (rI (fun _ j => 0 < j) fun i j => .int (i % j)) (tOp (rI CDiv fun i j => .int (i / j)) (tVar 3) (tC (.int 57))) (tC (.int 2)))))) (gName 5))
      (tRet (tTup (tCons (tVar 3) (tCons (tVar 4) (tCons (tVar 5) tNil))))))
def rd__law_event_by_t0_5 (K : PySem.W.Frag) : TS :=
  (tSeq (tIfS (tTest (tOp (rEq) (tVar 3) (tC (.str "refused")))) (tAsg (tOp (rIxL K) (tLst (tCons (tC (.str "empty")) (tCons (tC (.str "field")) (tCons (tC (.str "full")) (tCons (tC (.str "name")) tNil))))) (tOp (rI (fun _ j => 0 < j) fun i j => .int (i % j)) (tVar 0) (tC (.int 4)))) (gName 4)) tNext)
      (rd__law_event_by_t0_6 K))
def rd__law_event_by (K : PySem.W.Frag) (sp__law_words : Sp) : TS :=
  (tSeq (tAsg (tOp (rI (fun _ j => 0 < j) fun i j => .int (i % j)) (tOp (rI G.CMulB fun i j => .int (i * j)) (tOp (rI0 fun i j => .int (i + j)) (tOp (rI0 fun i j => .int (i + j)) (tVar 0) (tOp (rI G.CMulB fun i j => .int (i * j)) (tOp (rI G.CMulB fun i j => .int (i * j)) (tC (.int 17)) (tVar 1)) (tVar 1))) (tC (.int 29))) (tC (.int 48271))) (tC (.int 7919))) (gName 2))
      (tSeq (tAsg (tOp (rIxL K) (tCall sp__law_words [] E0 tNil) (tOp (rI (fun _ j => 0 < j) fun i j => .int (i % j)) (tVar 2) (tC (.int 19)))) (gName 3))
      (tSeq (tAsg (tOp (rI (fun _ j => 0 < j) fun i j => .int (i % j)) (tVar 0) (tOp (rI CPow fun i j => .int (i ^ j.toNat)) (tC (.int 10)) (tC (.int 60)))) (gName 4))
      (tSeq (tIfS (tTest (tOp (rEq) (tOp (rI (fun _ j => 0 < j) fun i j => .int (i % j)) (tOp (rI CDiv fun i j => .int (i / j)) (tVar 2) (tC (.int 19))) (tC (.int 3))) (tC (.int 1)))) (tAsg (tOp (rI0 fun i j => .int (i - j)) (tC (.int 0)) (tOp (rI (fun _ j => 0 < j) fun i j => .int (i % j)) (tOp (rI PySem.IntMulOk fun i j => .int (i * j)) (tOp (rI0 fun i j => .int (i + j)) (tVar 0) (tC (.int 3))) (tC (.int 31415926535897932384626433832795028841971693993751))) (tOp (rI CPow fun i j => .int (i ^ j.toNat)) (tC (.int 10)) (tC (.int 60))))) (gName 4)) tNext)
      (tSeq (tIfS (tTest (tOp (rEq) (tOp (rI (fun _ j => 0 < j) fun i j => .int (i % j)) (tOp (rI CDiv fun i j => .int (i / j)) (tVar 2) (tC (.int 19))) (tC (.int 3))) (tC (.int 2)))) (tAsg (tC .non) (gName 4)) tNext)
      (rd__law_event_by_t0_5 K))))))
def rd__law_text_of (K : PySem.W.Frag) : TS :=
  (tSeq (tAsg (tOp (G.rCatS) (tOp (G.rCatS) (tOp (G.rCatS) (tCB (G.cStrI) (tCons (tVar 0) tNil)) (tC (.str " "))) (tOp (rIxT K) (tVar 1) (tC (.int 0)))) (tC (.str " "))) (gName 2))
      (tSeq (tIfS (tTest (tOp (G.rIsN) (tOp (rIxT K) (tVar 1) (tC (.int 1))) (tC .non))) (tAsg (tOp (G.rCatS) (tVar 2) (tC (.str "-"))) (gName 2)) (tAsg (tOp (G.rCatS) (tVar 2) (tCB (G.cStrV) (tCons (tOp (rIxT K) (tVar 1) (tC (.int 1))) tNil))) (gName 2)))
      (tSeq (tFor (iList K (tOp (rIxT K) (tVar 1) (tC (.int 2)))) (gName 3)
      (tAsg (tOp (G.rCatS) (tOp (G.rCatS) (tVar 2) (tC (.str " "))) (tCB (G.cStrI) (tCons (tVar 3) tNil))) (gName 2)))
      (tRet (tVar 2)))))
def rd__law_spoilt (K : PySem.W.Frag) (sp__law_text_of : Sp) : TS :=
  (tSeq (tAsg (tCall sp__law_text_of [] E0 (tCons (tVar 0) (tCons (tVar 1) tNil))) (gName 3))
      (tSeq (tAsg (tCB (G.cLenS) (tCons (tCB (G.cStrI) (tCons (tVar 0) tNil)) tNil)) (gName 4))
      (tSeq (tAsg (tOp (rI (fun _ j => 0 < j) fun i j => .int (i % j)) (tVar 2) (tC (.int 8))) (gName 5))
      (tSeq (tIfS (tTest (tOp (rEq) (tVar 5) (tC (.int 0)))) (tRet (tOp (G.rCatS) (tCB (G.cStrI) (tCons (tOp (rI0 fun i j => .int (i + j)) (tVar 0) (tC (.int 2))) tNil)) (tSl (G.rSlS) (tVar 3) (tPart (tVar 4)) tNoPart))) tNext)
      (tSeq (tIfS (tTest (tOp (rEq) (tVar 5) (tC (.int 1)))) (tRet (tOp (G.rCatS) (tCB (G.cStrI) (tCons (tCB (G.cMax) (tCons (tC (.int 0)) (tCons (tOp (rI0 fun i j => .int (i - j)) (tVar 0) (tC (.int 2))) tNil))) tNil)) (tSl (G.rSlS) (tVar 3) (tPart (tVar 4)) tNoPart))) tNext)
      (tSeq (tIfS (tTest (tOp (rEq) (tVar 5) (tC (.int 2)))) (tRet (tOp (G.rCatS) (tC (.str "0")) (tVar 3))) tNext)
      (tSeq (tIfS (tTest (tOp (rEq) (tVar 5) (tC (.int 3)))) (tRet (tSl (G.rSlS) (tVar 3) (tPart (tVar 4)) tNoPart)) tNext)
      (tSeq (G.tIfRepl (tVar 5) 4 3 " " "  ")
      (tSeq (tIfS (tTest (tOp (rEq) (tVar 5) (tC (.int 5)))) (tSeq (tAsg (tOp (rIxL K) (tLst (tCons (tC (.str "kept")) (tCons (tC (.str "Made")) (tCons (tC (.str "sweep")) (tCons (tC (.str "")) (tCons (tC (.str "refuse")) tNil)))))) (tOp (rI (fun _ j => 0 < j) fun i j => .int (i % j)) (tOp (rI CDiv fun i j => .int (i / j)) (tVar 2) (tC (.int 8))) (tC (.int 5)))) (gName 6))
      (tRet (tOp (G.rCatS) (tOp (G.rCatS) (tOp (G.rCatS) (tCB (G.cStrI) (tCons (tVar 0) tNil)) (tC (.str " "))) (tVar 6)) (tSl (G.rSlS) (tVar 3) (tPart (tOp (rI0 fun i j => .int (i + j)) (tOp (rI0 fun i j => .int (i + j)) (tVar 4) (tC (.int 1))) (tCB (G.cLenS) (tCons (tOp (rIxT K) (tVar 1) (tC (.int 0))) tNil)))) tNoPart)))) tNext)
      (tSeq (tIfS (tTest (tOp (rEq) (tVar 5) (tC (.int 6)))) (tRet (tOp (G.rCatS) (tOp (G.rCatS) (tOp (G.rCatS) (tOp (G.rCatS) (tCB (G.cStrI) (tCons (tVar 0) tNil)) (tC (.str " "))) (tOp (rIxT K) (tVar 1) (tC (.int 0)))) (tC (.str " "))) (tOp (rIxL K) (tLst (tCons (tC (.str "none")) (tCons (tC (.str "+1")) (tCons (tC (.str "")) (tCons (tC (.str "-0")) (tCons (tC (.str "emptyfull")) tNil)))))) (tOp (rI (fun _ j => 0 < j) fun i j => .int (i % j)) (tOp (rI CDiv fun i j => .int (i / j)) (tVar 2) (tC (.int 8))) (tC (.int 5)))))) tNext)
      (tRet (tOp (G.rCatS) (tVar 3) (tOp (rIxL K) (tLst (tCons (tC (.str " ")) (tCons (tC (.str " 00")) (tCons (tC (.str " -1")) (tCons (tC (.str " -")) tNil))))) (tOp (rI (fun _ j => 0 < j) fun i j => .int (i % j)) (tOp (rI CDiv fun i j => .int (i / j)) (tVar 2) (tC (.int 8))) (tC (.int 4))))))))))))))))
def rd__law_same (K : PySem.W.Frag) (sp__law_whole : Sp) : TS :=
  (tSeq (tIfS ((tOr (tNot (tB (tCB (G.cIsi) (tCons (tVar 0) (tCons (tC (.ty "tuple")) tNil))))) (tOr (tTest (tOp (rNe) (tCB (G.cLenL K) (tCons (tVar 0) tNil)) (tC (.int 3)))) (tNot (tB (tCB (G.cIsi) (tCons (tOp (rIxT K) (tVar 0) (tC (.int 0))) (tCons (tC (.ty "str")) tNil)))))))) (tRet (tC (.bl false))) tNext)
      (tSeq (tIfS ((tAnd (tTest (tOp (G.rIsN) (tOp (rIxT K) (tVar 1) (tC (.int 1))) (tC .non))) (tTest (tOp (G.rNotN) (tOp (rIxT K) (tVar 0) (tC (.int 1))) (tC .non))))) (tRet (tC (.bl false))) tNext)
      (tSeq (tIfS ((tAnd (tB (tCB (G.cIsi) (tCons (tOp (rIxT K) (tVar 1) (tC (.int 1))) (tCons (tC (.ty "str")) tNil)))) (tNot (tB (tCB (G.cIsi) (tCons (tOp (rIxT K) (tVar 0) (tC (.int 1))) (tCons (tC (.ty "str")) tNil))))))) (tRet (tC (.bl false))) tNext)
      (tSeq (tIfS ((tAnd (tTest (tOp (G.rNotN) (tOp (rIxT K) (tVar 1) (tC (.int 1))) (tC .non))) (tAnd (tNot (tB (tCB (G.cIsi) (tCons (tOp (rIxT K) (tVar 1) (tC (.int 1))) (tCons (tC (.ty "str")) tNil))))) (tNot (tB (tCall sp__law_whole [] E0 (tCons (tOp (rIxT K) (tVar 0) (tC (.int 1))) tNil))))))) (tRet (tC (.bl false))) tNext)
      (tSeq (tIfS (tNot (tB (tCB (G.cIsi) (tCons (tOp (rIxT K) (tVar 0) (tC (.int 2))) (tCons (tC (.ty "list")) tNil))))) (tRet (tC (.bl false))) tNext)
      (tSeq (tFor (iList K (tOp (rIxT K) (tVar 0) (tC (.int 2)))) (gName 2)
      (tIfS (tNot (tB (tCall sp__law_whole [] E0 (tCons (tVar 2) tNil)))) (tRet (tC (.bl false))) tNext))
      (tRet (tOp (G.rEqN K false) (tVar 0) (tVar 1)))))))))
def rd__law_same_log (K : PySem.W.Frag) (sp__law_same : Sp) : TS :=
  (tSeq (tIfS ((tOr (tNot (tB (tCB (G.cIsi) (tCons (tVar 0) (tCons (tC (.ty "list")) tNil))))) (tTest (tOp (rNe) (tCB (G.cLenL K) (tCons (tVar 0) tNil)) (tCB (G.cLenL K) (tCons (tVar 1) tNil)))))) (tRet (tC (.bl false))) tNext)
      (tSeq (tFor (G.iZip K (tCons (tVar 0) (tCons (tVar 1) tNil))) (gTup K 2 (gCons (gName 2) (gCons (gName 3) gNil)))
      (tSeq (tIfS ((tOr (tNot (tB (tCB (G.cIsi) (tCons (tVar 2) (tCons (tC (.ty "list")) tNil))))) (tTest (tOp (rNe) (tCB (G.cLenL K) (tCons (tVar 2) tNil)) (tCB (G.cLenL K) (tCons (tVar 3) tNil)))))) (tRet (tC (.bl false))) tNext)
      (tFor (G.iZip K (tCons (tVar 2) (tCons (tVar 3) tNil))) (gTup K 2 (gCons (gName 4) (gCons (gName 5) gNil)))
      (tIfS (tNot (tB (tCall sp__law_same [] E0 (tCons (tVar 4) (tCons (tVar 5) tNil))))) (tRet (tC (.bl false))) tNext))))
      (tRet (tC (.bl true)))))
def rd__law_refused (K : PySem.W.Frag) (C_BadRow : Addr) (sp_heard : Sp) : TS :=
  (tSeq (tAsg (tC .non) (gName 1))
      (tSeq (G.tTryAs (fun cls => cls = Value.ref C_BadRow) 2 (fun Ex => (tDrop (G.tCallX sp_heard [] Ex (tCons (tVar 0) tNil)))) (tAsg (G.tXget K (tVar 2) "row") (gName 1)))
      (tRet (tVar 1))))
def rd__law_classes (C_BadRow C_GreyError C_NoSlot C_Twice : Addr) (sp_heard : Sp) (isk : Value → Value → Option Bool) : TS :=
  (tSeq (tAsg (tLst tNil) (gName 1))
      (tSeq (G.tTryAs (fun cls => cls = Value.ref C_BadRow) 2 (fun Ex => (tDrop (G.tCallX sp_heard [] Ex (tCons (tVar 0) tNil)))) (tAsg (tLst (tCons (tCB (G.cIsiX [C_BadRow] isk) (tCons (tVar 2) (tCons (tC (.ref C_BadRow)) tNil))) (tCons (tCB (G.cIsiX [C_BadRow] isk) (tCons (tVar 2) (tCons (tC (.ref C_GreyError)) tNil))) (tCons (tCB (G.cIsiX [C_BadRow] isk) (tCons (tVar 2) (tCons (tC (.ref C_NoSlot)) tNil))) (tCons (tCB (G.cIsiX [C_BadRow] isk) (tCons (tVar 2) (tCons (tC (.ref C_Twice)) tNil))) tNil))))) (gName 1)))
      (tRet (tVar 1))))
def rd__law_log_by (K : PySem.W.Frag) (sp__law_event_by : Sp) : TS :=
  (tSeq (tAsg (tLst tNil) (gName 1))
      (tSeq (tFor (G.iEnum K (tCons (tSl (rSlL K) (tVar 0) (tPart (tC (.int 0))) (tPart (tC (.int 60)))) tNil)) (gTup K 2 (gCons (gName 2) (gCons (gName 3) gNil)))
      (tSeq (tIfS ((tOr (tTest (tOp (rEq) (tCB (G.cLenL K) (tCons (tVar 1) tNil)) (tC (.int 0)))) (tTest (tOp (rNe) (tOp (rI (fun _ j => 0 < j) fun i j => .int (i % j)) (tOp (rI (fun _ j => 0 < j) fun i j => .int (i % j)) (tOp (rI G.CMulB fun i j => .int (i * j)) (tOp (rI0 fun i j => .int (i + j)) (tOp (rI0 fun i j => .int (i + j)) (tVar 3) (tOp (rI G.CMulB fun i j => .int (i * j)) (tVar 2) (tVar 2))) (tC (.int 1))) (tC (.int 16807))) (tC (.int 6133))) (tC (.int 3))) (tC (.int 0)))))) (tDrop (tBM K "list" rAppend (tVar 1) (tCons (tLst tNil) tNil))) tNext)
      (tDrop (tBM K "list" rAppend (tOp (rIxL K) (tVar 1) (tOp (rI0 fun i j => .int (i - j)) (tCB (G.cLenL K) (tCons (tVar 1) tNil)) (tC (.int 1)))) (tCons (tCall sp__law_event_by [] E0 (tCons (tVar 3) (tCons (tVar 2) tNil))) tNil)))))
      (tRet (tVar 1))))
def rd_law_t0_14 (K : PySem.W.Frag) (sp__law_classes sp__law_refused sp__law_whole : Sp) : TS :=
  (tSeq (tAsg (tBM K "str" (G.r_join K) (tC (.str "\n")) (tCons (tVar 5) tNil)) (gName 8))
      (tSeq (tAsg (tCall sp__law_refused [] E0 (tCons (tVar 8) tNil)) (gName 15))
      (tRet ((tAndV (tCall sp__law_whole [] E0 (tCons (tVar 15) tNil)) (tAndV (tOp (rEq) (tVar 15) (tOp (rI0 fun i j => .int (i + j)) (tVar 11) (tC (.int 1)))) (tOp (G.rEqL K false) (tCall sp__law_classes [] E0 (tCons (tVar 8) tNil)) (tLst (tCons (tC (.bl true)) (tCons (tC (.bl true)) (tCons (tC (.bl false)) (tCons (tC (.bl false)) tNil))))))))))))
def rd_law_t0_12 (K : PySem.W.Frag) (sp__law_cell_at sp__law_classes sp__law_refused sp__law_spoilt sp__law_whole : Sp) : TS :=
  (tSeq (tAsg (tCB (G.cLenL K) (tCons (tVar 5) tNil)) (gName 11))
      (tSeq (tFor (iRng1 (tCons (tOp (rI0 fun i j => .int (i + j)) (tC (.int 1)) (tOp (rI (fun _ j => 0 < j) fun i j => .int (i % j)) (tCall sp__law_cell_at [] E0 (tCons (tVar 0) (tCons (tC (.int 1)) tNil))) (tC (.int 2)))) tNil)) (gName 12)
      (tSeq (tAsg (tOp (rI (fun _ j => 0 < j) fun i j => .int (i % j)) (tOp (rI G.CMulB fun i j => .int (i * j)) (tOp (rI0 fun i j => .int (i + j)) (tOp (rI0 fun i j => .int (i + j)) (tCall sp__law_cell_at [] E0 (tCons (tVar 0) (tCons (tOp (rI G.CMulB fun i j => .int (i * j)) (tC (.int 2)) (tVar 12)) tNil))) (tOp (rI G.CMulB fun i j => .int (i * j)) (tC (.int 7)) (tVar 12))) (tC (.int 3))) (tC (.int 69621))) (tC (.int 5003))) (gName 13))
      (tSeq (tAsg (tOp (rI (fun _ j => 0 < j) fun i j => .int (i % j)) (tOp (rI CDiv fun i j => .int (i / j)) (tVar 13) (tC (.int 40))) (tCB (G.cLenL K) (tCons (tVar 5) tNil))) (gName 10))
      (tSeq (tAsg (tOp (rIxL K) (tVar 6) (tVar 10)) (gTup K 2 (gCons (gName 14) (gCons (gName 3) gNil))))
      (tSeq (tAsg (tCall sp__law_spoilt [] E0 (tCons (tVar 14) (tCons (tVar 3) (tCons (tVar 13) tNil)))) (gSub (tVar 5) (tVar 10) rSetL))
      (tAsg (tCB (G.cMin) (tCons (tVar 11) (tCons (tVar 10) tNil))) (gName 11)))))))
      (rd_law_t0_14 K sp__law_classes sp__law_refused sp__law_whole)))
def rd_law_t0_9 (K : PySem.W.Frag) (sp__law_cell_at sp__law_classes sp__law_refused sp__law_spoilt sp__law_whole : Sp) : TS :=
  (tSeq (tIfS (tTest (tOp (rEq) (tCB (G.cLenL K) (tCons (tVar 5) tNil)) (tC (.int 0)))) (tSeq (tIfS ((tOr (tTest (tOp (rNe) (tCall sp__law_refused [] E0 (tCons (tC (.str "\n")) tNil)) (tC (.int 1)))) (tTest (tOp (rNe) (tCall sp__law_refused [] E0 (tCons (tC (.str " ")) tNil)) (tC (.int 1)))))) (tRet (tC (.bl false))) tNext)
      (tRet ((tAndV (tOp (rEq) (tCall sp__law_refused [] E0 (tCons (tC (.str "0 made -")) tNil)) (tC (.int 1))) (tOp (rEq) (tCall sp__law_refused [] E0 (tCons (tC (.str "2 made -")) tNil)) (tC (.int 1))))))) tNext)
      (tSeq (tAsg (tOp (rI (fun _ j => 0 < j) fun i j => .int (i % j)) (tCall sp__law_cell_at [] E0 (tCons (tVar 0) (tCons (tC (.int 3)) tNil))) (tOp (rI0 fun i j => .int (i + j)) (tCB (G.cLenL K) (tCons (tVar 5) tNil)) (tC (.int 1)))) (gName 10))
      (tSeq (tIfS ((tOr (tTest (tOp (rNe) (tCall sp__law_refused [] E0 (tCons (tOp (G.rCatS) (tVar 8) (tC (.str "\n"))) tNil)) (tOp (rI0 fun i j => .int (i + j)) (tCB (G.cLenL K) (tCons (tVar 5) tNil)) (tC (.int 1))))) (tTest (tOp (rNe) (tCall sp__law_refused [] E0 (tCons (tBM K "str" (G.r_join K) (tC (.str "\n")) (tCons (tOp (rCat) (tOp (rCat) (tSl (rSlL K) (tVar 5) tNoPart (tPart (tVar 10))) (tLst (tCons (tC (.str "")) tNil))) (tSl (rSlL K) (tVar 5) (tPart (tVar 10)) tNoPart)) tNil)) tNil)) (tOp (rI0 fun i j => .int (i + j)) (tVar 10) (tC (.int 1))))))) (tRet (tC (.bl false))) tNext)
      (rd_law_t0_12 K sp__law_cell_at sp__law_classes sp__law_refused sp__law_spoilt sp__law_whole))))
def rd_law_t0_7 (K : PySem.W.Frag) (sp__law_cell_at sp__law_classes sp__law_refused sp__law_same_log sp__law_spoilt sp__law_whole sp_heard : Sp) : TS :=
  (tSeq (tIfS ((tOr (tNot (tB (tCB (G.cIsi) (tCons (tVar 9) (tCons (tC (.ty "str")) tNil))))) (tOr (tTest (tOp (rNe) (tVar 9) (tVar 8))) (tTest (tOp (G.rEqN K true) (tVar 4) (tVar 1)))))) (tRet (tC (.bl false))) tNext)
      (tSeq (tIfS (tNot (tB (tCall sp__law_same_log [] E0 (tCons (tCall sp_heard [] E0 (tCons (tVar 8) tNil)) (tCons (tVar 1) tNil))))) (tRet (tC (.bl false))) tNext)
      (rd_law_t0_9 K sp__law_cell_at sp__law_classes sp__law_refused sp__law_spoilt sp__law_whole)))
def rd_law_t0_5 (K : PySem.W.Frag) (sp__law_cell_at sp__law_classes sp__law_refused sp__law_same_log sp__law_spoilt sp__law_whole sp_heard sp_report : Sp) : TS :=
  (tSeq (tAsg (tBM K "str" (G.r_join K) (tC (.str "\n")) (tCons (tVar 5) tNil)) (gName 8))
      (tSeq (tAsg (tCall sp_report [] E0 (tCons (tVar 4) tNil)) (gName 9))
      (rd_law_t0_7 K sp__law_cell_at sp__law_classes sp__law_refused sp__law_same_log sp__law_spoilt sp__law_whole sp_heard)))
def rd_law_t0_2 (K : PySem.W.Frag) (sp__law_cell_at sp__law_classes sp__law_refused sp__law_same_log sp__law_spoilt sp__law_text_of sp__law_whole sp_heard sp_report : Sp) : TS :=
  (tSeq (tAsg (tLst tNil) (gName 5))
      (tSeq (tAsg (tLst tNil) (gName 6))
      (tSeq (tFor (G.iEnum K (tCons (tVar 1) tNil)) (gTup K 2 (gCons (gName 7) (gCons (gName 2) gNil)))
      (tFor (iList K (tVar 2)) (gName 3)
      (tSeq (tDrop (tBM K "list" rAppend (tVar 6) (tCons (tTup (tCons (tOp (rI0 fun i j => .int (i + j)) (tVar 7) (tC (.int 1))) (tCons (tVar 3) tNil))) tNil)))
      (tDrop (tBM K "list" rAppend (tVar 5) (tCons (tCall sp__law_text_of [] E0 (tCons (tOp (rI0 fun i j => .int (i + j)) (tVar 7) (tC (.int 1))) (tCons (tVar 3) tNil))) tNil))))))
      (rd_law_t0_5 K sp__law_cell_at sp__law_classes sp__law_refused sp__law_same_log sp__law_spoilt sp__law_whole sp_heard sp_report))))
def rd_law (K : PySem.W.Frag) (sp__law_cell_at sp__law_classes sp__law_log_by sp__law_refused sp__law_same_log sp__law_spoilt sp__law_text_of sp__law_whole sp_heard sp_report : Sp) : TS :=
  (tSeq (tAsg (tCall sp__law_log_by [] E0 (tCons (tVar 0) tNil)) (gName 1))
      (tSeq (tAsg (G.tLC (iList K (tVar 1)) [] G.tTrue (G.tLC (iList K (tVar 0)) [] G.tTrue (tTup (tCons (tOp (rIxT K) (tVar 0) (tC (.int 0))) (tCons (tOp (rIxT K) (tVar 0) (tC (.int 1))) (tCons (tCB (G.cListL K) (tCons (tOp (rIxT K) (tVar 0) (tC (.int 2))) tNil)) tNil)))))) (gName 4))
      (rd_law_t0_2 K sp__law_cell_at sp__law_classes sp__law_refused sp__law_same_log sp__law_spoilt sp__law_text_of sp__law_whole sp_heard sp_report)))
def wordB (t signs : Str) (most : Int) : Bool := decide (1 ≤ (t.length : Int)) && (decide ((t.length : Int) ≤ most) && t.cps.toList.all fun c => decide (c ∈ signs.cps.toList))
def sp_made : Sp := fun vs H Q _ => ∃ t signs most, vs = [.str t, .str signs, .int most] ∧ t.length ≤ 100000 ∧ ∀ H', Same H H' → Q (.bl (wordB t signs most)) H'
section
variable {K : PySem.W.Frag} {H : Hp} {Q : VK} {n : St → Hp → Prop} {bk ct : St → Hp → Prop}
theorem maderd {t signs : Str} {most : Int} (hl : t.length ≤ 100000) (h : ∀ H', Same H H' → Q (.bl (wordB t signs most)) H') : rd_made_of K ⟨n, Q, bk, ct⟩ [some (.str t), some (.str signs), some (.int most)] H := by
  unfold rd_made_of
  unfold wordB at h
  walk_at "ev"
  refine i_lenS (len_ok (by omega)) ?_
  walk_at "ev"
  refine ifd (fun h1 => ?_) (fun h1 => ?_)
  · walk_at "ev"
    rw [decide_eq_true h1] at h
    refine ifd (fun h2 => ?_) (fun h2 => ?_)
    · rw [decide_eq_true h2] at h
      walk_at "ev"
      refine i_lcS (z := t) (fun c => .bl (decide (c ∈ signs.cps.toList))) (fun k hk => ?_) (Nat.lt_of_le_of_lt hl (by decide)) (fun c k hk => ?_) fun p hp => ?_
      · walk_at "ev"
        exact hk
      · show tOp rInS (tVar 0) (tVar 1) [some (.str ⟨#[c]⟩), some (.str signs)] H k
        walk_at "ev"
        exact hk
      · walk_at "ev"
        have e : t.cps.toList.map (fun c => V.bl (decide (c ∈ signs.cps.toList))) = (t.cps.toList.map fun c => decide (c ∈ signs.cps.toList)).map V.bl := by rw [List.map_map]; rfl
        rw [e]
        refine i_all (SqL.of upd_same) ?_
        have e2 : ((t.cps.toList.map fun c => decide (c ∈ signs.cps.toList)).all id) = t.cps.toList.all fun c => decide (c ∈ signs.cps.toList) := by rw [List.all_map]; rfl
        rw [e2]
        exact h _ (same_new hp _)
    · rw [decide_eq_false h2] at h
      exact h _ (Same.refl _)
  · rw [decide_eq_false h1] at h
    walk_at "ev"
    exact h _ (Same.refl _)
end
section
variable {K : PySem.W.Frag} {H : Hp} {Q : VK} {E : XK} {n : St → Hp → Prop} {bk ct : St → Hp → Prop}
theorem atrd {a : Addr} {ns : List Int} {k : Int} (hS : SqL K H a (List.map V.int ns)) (h0 : 0 ≤ k) (h : ∀ z : Int, Q (.int z) H) : rd__law_cell_at K ⟨n, Q, bk, ct⟩ [some (.ref a), some (.int k)] H := by
  unfold rd__law_cell_at
  walk_at "ev"
  refine i_lenL hS ?_
  walk_at "ev"
  refine ifd (fun h1 => ?_) (fun h1 => ?_)
  · walk_at "ev"
    rw [List.length_map] at h1
    have hk : k.toNat < ns.length := by omega
    have ek : k = ((k.toNat : Nat) : Int) := by omega
    have q : atI (ns.map V.int) ((k.toNat : Nat) : Int) = some (.int ns[k.toNat]) := atI_nat (by rw [List.getElem?_map, List.getElem?_eq_getElem hk] <;> rfl)
    rw [← ek] at q
    exact i_ixL hS q (h _)
  · walk_at "ev"
    exact h _
end
def figs : Str := "0123456789"
def Dig (t : Str) : Prop := ∀ c ∈ t.cps.toList, 48 ≤ c ∧ c ≤ 57
instance (t : Str) : Decidable (Dig t) := inferInstanceAs (Decidable (∀ c ∈ t.cps.toList, 48 ≤ c ∧ c ≤ 57))
def valO (t : Str) : Option Int := if (1 ≤ t.length ∧ t.length ≤ 60 ∧ ¬ (t.cps.toList[0]? = some 48 ∧ 1 < t.length)) ∧ Dig t then some (dval t.cps.toList) else none
def vO : Option Int → V
  | none => .non
  | some v => .int v
def over (v : Int) : V → Bool
  | .int m => decide (m < v)
  | _ => false
def numR (t : Str) (most : V) : Option Int := match valO t with
  | none => none
  | some v => if over v most = true then none else some v
def sp_num : Sp := fun vs H Q _ => ∃ t most, vs = [.str t, most] ∧ t.length ≤ 100000 ∧ (most = .non ∨ ∃ m, most = .int m) ∧ ∀ H', Same H H' → Q (vO (numR t most)) H'
section
variable {K : PySem.W.Frag} {H : Hp} {Q : VK} {n : St → Hp → Prop} {bk ct : St → Hp → Prop}
theorem word_figs {t : Str} : wordB t figs 60 = true ↔ 1 ≤ t.length ∧ t.length ≤ 60 ∧ Dig t := by
  unfold wordB
  rw [Bool.and_eq_true, Bool.and_eq_true, decide_eq_true_eq, decide_eq_true_eq, List.all_eq_true]
  constructor
  · rintro ⟨h1, h2, h3⟩
    exact ⟨by omega, by omega, fun c hc => in_digits.mp (of_decide_eq_true (h3 c hc))⟩
  · rintro ⟨h1, h2, h3⟩
    exact ⟨by omega, by omega, fun c hc => decide_eq_true (in_digits.mpr (h3 c hc))⟩
theorem is_zero {t : Str} : t = ⟨#[48]⟩ ↔ t.cps.toList[0]? = some 48 ∧ t.length = 1 := by
  constructor
  · rintro rfl; exact ⟨rfl, rfl⟩
  · rintro ⟨h1, h2⟩
    obtain ⟨c⟩ := t
    have h3 : c.toList.length = 1 := by rw [Array.length_toList]; exact h2
    have h4 : c.toList = [48] := by
      cases e : c.toList with
      | nil => rw [e] at h3; cases h3
      | cons a l =>
        cases l with
        | nil => have h1' : c.toList[0]? = some 48 := h1; rw [e] at h1'; simp at h1'; rw [h1']
        | cons b l => rw [e] at h3; simp at h3
    have : c = #[48] := by rw [← Array.toArray_toList (xs := c), h4]
    rw [this]
theorem wholerd {i : Int} (h : Q (.bl true) H) : rd__law_whole ⟨n, Q, bk, ct⟩ [some (.int i)] H := by
  unfold rd__law_whole
  walk_at "ev"
  exact h
theorem numrd {t : Str} {most : V} (hl : t.length ≤ 100000) (hm : most = .non ∨ ∃ m, most = .int m) (h : ∀ H', Same H H' → Q (vO (numR t most)) H') : rd_number_of K sp_made ⟨n, Q, bk, ct⟩ [some (.str t), some most, none] H := by
  unfold rd_number_of
  rw [s_zero]
  walk_at "ev"
  refine ⟨t, figs, 60, rfl, hl, fun H1 s1 => ?_⟩
  have h' := h H1 s1
  clear h
  walk_at "ev"
  cases hw : wordB t figs 60 with
  | false =>
    refine i_iteNF ?_
    walk_at "ev"
    have e : numR t most = none := by
      unfold numR valO
      rw [if_neg]
      rintro ⟨⟨h1, h2, _⟩, h3⟩
      rw [word_figs.mpr ⟨h1, h2, h3⟩] at hw
      cases hw
    rw [e] at h'
    exact h'
  | true =>
    obtain ⟨w1, w2, w3⟩ := word_figs.mp hw
    refine i_iteNT ?_
    walk_at "ev"
    have last : ¬ (t.cps.toList[0]? = some 48 ∧ 1 < t.length) → (tSeq (tAsg (tCB cIntS (tCons (tVar 0) tNil)) (gName 2))
      (tSeq (tIfS (tAnd (tTest (tOp rNotN (tVar 1) (tC .non))) (tTest (tOp (rI0 fun i j => .bl (decide (j < i))) (tVar 2) (tVar 1)))) (tRet (tC .non)) tNext) (tRet (tVar 2)))) ⟨n, Q, bk, ct⟩ [some (.str t), some most, none] H1 := fun hz => by
      have ev : valO t = some (dval t.cps.toList) := by
        unfold valO
        rw [if_pos ⟨⟨w1, w2, hz⟩, w3⟩]
      walk_at "ev"
      refine i_intS w1 (by omega) w3 ?_
      walk_at "ev"
      unfold numR at h'
      rw [ev] at h'
      dsimp only at h'
      rcases hm with rfl | ⟨m, rfl⟩
      · walk_at "ev"
        exact h'
      · walk_at "ev"
        refine ifd (fun hgt => ?_) (fun hgt => ?_)
        · walk_at "ev"
          have eo : over (dval t.cps.toList) (.int m) = true := decide_eq_true hgt
          rw [eo] at h'
          exact h'
        · walk_at "ev"
          have eo : over (dval t.cps.toList) (.int m) = false := decide_eq_false hgt
          rw [eo] at h'
          exact h'
    refine ifd (fun z0 => ?_) (fun z0 => ?_)
    · walk_at "ev"
      refine ifnd (fun z1 => ?_) (fun z1 => ?_)
      · walk_at "ev"
        have e : numR t most = none := by
          unfold numR valO
          rw [if_neg]
          rintro ⟨⟨_, _, h3⟩, _⟩
          refine h3 ⟨z0, ?_⟩
          have : ¬ t.length = 1 := fun e => z1 (is_zero.mpr ⟨z0, e⟩)
          omega
        rw [e] at h'
        exact h'
      · exact last fun z => by
          have := (is_zero.mp z1).2
          omega
    · exact last fun z => z0 z.1
end
def loadO (t : Str) : Option Int := if t.cps.toList[0]? = some 45 then (match valO (cutS t (some 1) none) with
  | none => none
  | some v => if v = 0 then none else some (-v)) else valO t
section
variable {K : PySem.W.Frag} {H : Hp} {Q : VK} {n : St → Hp → Prop} {bk ct : St → Hp → Prop}
theorem p60 : ((10 : Int) ^ Int.toNat 60) = 10 ^ 60 := rfl
theorem num_non (t : Str) : numR t .non = valO t := by
  unfold numR
  cases valO t <;> rfl
theorem loadrd {t : Str} (hl : t.length ≤ 100000) (h : ∀ H', Same H H' → Q (vO (loadO t)) H') : rd_load_of K sp_num ⟨n, Q, bk, ct⟩ [some (.str t), none] H := by
  unfold rd_load_of
  rw [s_dash]
  walk_at "ev"
  refine ifnd (fun h1 => ?_) (fun h1 => ?_)
  · walk_at "ev"
    refine ⟨t, .non, rfl, hl, .inl rfl, fun H1 s1 => ?_⟩
    have e : loadO t = valO t := by unfold loadO; rw [if_neg h1]
    rw [num_non, ← e]
    exact h _ s1
  · walk_at "ev"
    refine i_slS (len_ok (by omega)) ?_
    walk_at "ev"
    have lc := cutS_length t (some 1) none
    refine ⟨_, .non, rfl, by omega, .inl rfl, fun H1 s1 => ?_⟩
    have h' := h _ s1
    unfold loadO at h'
    rw [if_pos h1] at h'
    rw [num_non]
    cases ev : valO (cutS t (some 1) none) with
    | none =>
      rw [ev] at h'
      dsimp only [vO]
      walk_at "ev"
      exact h'
    | some v =>
      rw [ev] at h'
      dsimp only at h'
      dsimp only [vO]
      walk_at "ev"
      refine ifd (fun z => ?_) (fun z => ?_)
      · walk_at "ev"
        rw [if_pos z] at h'
        exact h'
      · walk_at "ev"
        rw [if_neg z] at h'
        exact h'
end

def S_made : Sp := fun vs H Q E => ∃ t signs most, vs = [.str t, .str signs, .int most] ∧ t.length ≤ 100000 ∧ ∀ H', Same H H' → Q (.bl (wordB t signs most)) H'
def S_num : Sp := fun vs H Q E => ∃ t most, vs = [.str t, most] ∧ t.length ≤ 100000 ∧ (most = .non ∨ ∃ m, most = .int m) ∧ ∀ H', Same H H' → Q (vO (numR t most)) H'
def S_load : Sp := fun vs H Q E => ∃ t, vs = [.str t] ∧ t.length ≤ 100000 ∧ ∀ H', Same H H' → Q (vO (loadO t)) H'
def S_at (K : PySem.W.Frag) : Sp := fun vs H Q E => ∃ a k, vs = [.ref a, .int k] ∧ ∃ ns : List Int, SqL K H a (ns.map V.int) ∧ 0 ≤ k ∧ ∀ z : Int, Q (.int z) H
def S_whole : Sp := fun vs H Q E => ∃ i, vs = [.int i] ∧ Q (.bl true) H
section
variable {K : PySem.W.Frag} {H : Hp} {Q : VK} {E : XK} {n : St → Hp → Prop} {bk ct : St → Hp → Prop}
theorem made_of_rd {t signs : Str} {most : Int} (q : t.length ≤ 100000 ∧ ∀ H', Same H H' → Q (.bl (wordB t signs most)) H') : rd_made_of K ⟨n, Q, bk, ct⟩ [some (.str t), some (.str signs), some (.int most)] H := maderd q.1 q.2
theorem number_of_rd {t : Str} {most : V} (q : t.length ≤ 100000 ∧ (most = .non ∨ ∃ m, most = .int m) ∧ ∀ H', Same H H' → Q (vO (numR t most)) H') : rd_number_of K S_made ⟨n, Q, bk, ct⟩ [some (.str t), some most, none] H := numrd q.1 q.2.1 q.2.2
theorem load_of_rd {t : Str} (q : t.length ≤ 100000 ∧ ∀ H', Same H H' → Q (vO (loadO t)) H') : rd_load_of K S_num ⟨n, Q, bk, ct⟩ [some (.str t), none] H := loadrd q.1 q.2
theorem _law_cell_at_rd {a : Addr} {k : Int} (q : ∃ ns : List Int, SqL K H a (ns.map V.int) ∧ 0 ≤ k ∧ ∀ z : Int, Q (.int z) H) : rd__law_cell_at K ⟨n, Q, bk, ct⟩ [some (.ref a), some (.int k)] H := by
  obtain ⟨ns, h1, h2, h3⟩ := q
  exact atrd h1 h2 h3
theorem _law_whole_rd {i : Int} (q : Q (.bl true) H) : rd__law_whole ⟨n, Q, bk, ct⟩ [some (.int i)] H := wholerd q
end
def wds : List Str := ["made", "got", "put", "copied", "dropped", "given", "wrote", "read", "named", "sought", "refused", "begin", "walk", "look", "cut", "lost", "back", "pass", "end"]
def wdp : List Str := ["made", "got", "put", "copied", "dropped", "given", "wrote", "read", "named", "sought", "begin", "walk", "look", "cut", "lost", "back", "pass", "end"]
def rsn : List Str := ["empty", "field", "full", "name"]
def rfd : Str := "refused"
def dsh : Str := "-"
def okTh (w t : Str) : Bool := if w = rfd then decide (t ∈ rsn) else decide (w ∈ wdp) && (decide (t = dsh) || (loadO t).isSome)
def thV (w t : Str) : V := if w = rfd then .str t else vO (loadO t)
def evP : List Str → Option (Str × V × List Int)
  | w :: t :: r => if okTh w t = true ∧ r.all (fun p => (valO p).isSome) = true then some (w, thV w t, r.filterMap valO) else none
  | _ => none
def EvG (w : Str) (tv : V) (ns : List Int) : Prop := w ∈ wds ∧ ((w = rfd ∧ ∃ z ∈ rsn, tv = .str z) ∨ (w ≠ rfd ∧ (tv = .non ∨ ∃ i : Int, tv = .int i ∧ -(10 ^ 60) < i ∧ i < 10 ^ 60))) ∧ ns.length ≤ 40 ∧ ∀ n ∈ ns, 0 ≤ n ∧ n < 10 ^ 60
def tS (i : Int) : Str := Str.ofString (toString i)
def thS : V → Str
  | .non => dsh
  | .int i => tS i
  | .str z => z
  | _ => ⟨#[]⟩
def prt (w : Str) (tv : V) (ns : List Int) : List Str := w :: thS tv :: ns.map tS
def txE (w : Str) (tv : V) (ns : List Int) : Str := Str.join ⟨#[32]⟩ (prt w tv ns)
theorem inV_str {w : Str} : ∀ l : List Str, inV (.str w) (l.map V.str) = decide (w ∈ l)
  | [] => by simp [inV]
  | x :: l => by
    have ih := inV_str (w := w) l
    unfold inV at ih ⊢
    rw [List.map_cons, List.any_cons, ih]
    show (x == w || _) = _
    by_cases e : x = w
    · subst e; simp
    · have : (x == w) = false := by simpa using e
      rw [this]
      have e2 : ¬ w = x := fun z => e z.symm
      simp [e2]
theorem inV_non : ∀ l : List (Option Int), inV .non (l.map vO) = !l.all Option.isSome
  | [] => rfl
  | x :: l => by
    have ih := inV_non l
    unfold inV at ih ⊢
    rw [List.map_cons, List.any_cons, ih, List.all_cons]
    cases x <;> simp [vO, eqV]
theorem flat_vO (l : List (Option Int)) : (l.map vO).all flatV = true := by
  rw [List.all_map, List.all_eq_true]
  intro x _
  cases x <;> rfl
theorem flat_str (l : List Str) : (l.map V.str).all flatV = true := by
  rw [List.all_map, List.all_eq_true]
  intro x _
  rfl
theorem val_lt : ∀ (r : List Nat) (a : Nat), (∀ c ∈ r, 48 ≤ c ∧ c ≤ 57) → r.foldl (fun acc c => acc * 10 + (c - 48)) a < (a + 1) * 10 ^ r.length
  | [], a, _ => by simp
  | c :: r, a, h => by
    have hc := h c List.mem_cons_self
    have ih := val_lt r (a * 10 + (c - 48)) (fun d hd => h d (List.mem_cons_of_mem _ hd))
    rw [List.foldl_cons, List.length_cons, Nat.pow_succ]
    have : (a * 10 + (c - 48) + 1) * 10 ^ r.length ≤ ((a + 1) * 10) * 10 ^ r.length := Nat.mul_le_mul_right _ (by omega)
    have e : (a + 1) * (10 ^ r.length * 10) = ((a + 1) * 10) * 10 ^ r.length := by rw [Nat.mul_comm (10 ^ r.length) 10, Nat.mul_assoc]
    omega
theorem digs (m : Nat) : ∀ c ∈ (Nat.toDigits 10 m).map Char.toNat, 48 ≤ c ∧ c ≤ 57 := by
  intro c hc
  obtain ⟨ch, hch, e⟩ := List.mem_map.mp hc
  have r := PyProof.Rows.digit_range (Nat.isDigit_of_mem_toDigits (by decide) (by decide) hch)
  rw [← e]
  exact r
theorem valO_nat {t : Str} {m : Nat} (e : t.cps.toList = (Nat.toDigits 10 m).map Char.toNat) (h1 : m < 10 ^ 60) : valO t = some (m : Int) := by
  have hd := digs m
  have hl : t.length = (Nat.toDigits 10 m).length := by rw [← str_len, e, List.length_map]
  have h60 := (Nat.length_toDigits_le_iff (n := m) (b := 10) (k := 60) (by decide) (by decide)).mpr h1
  have hp := Nat.length_toDigits_pos (b := 10) (n := m)
  have hb := PySem.W.KIN.val_back m
  unfold valO
  have dg : Dig t := by unfold Dig; rw [e]; exact hd
  have nz : ¬ (t.cps.toList[0]? = some 48 ∧ 1 < t.length) := by
    rintro ⟨z1, z2⟩
    rw [e] at z1
    generalize hc : (Nat.toDigits 10 m).map Char.toNat = cs at *
    have hcl : cs.length = (Nat.toDigits 10 m).length := by rw [← hc, List.length_map]
    cases cs with
    | nil => cases z1
    | cons c r =>
      have z1 : some c = some 48 := z1
      cases z1
      have b1 := val_lt r 0 (fun d hd' => hd d (List.mem_cons_of_mem _ hd'))
      have hb : NumText.digitsVal (48 :: r) = m := hb
      have hb2 : r.foldl (fun acc c => acc * 10 + (c - 48)) 0 = m := hb
      rw [hb2] at b1
      have b2 := (Nat.length_toDigits_le_iff (n := m) (b := 10) (k := r.length) (by decide) (by rw [List.length_cons] at hcl; omega)).mpr (by omega)
      rw [List.length_cons] at hcl
      omega
  rw [if_pos ⟨⟨by omega, by omega, nz⟩, dg⟩]
  rw [e]
  have := dval_nat _ hd 0
  unfold dval
  rw [show ((0 : Int)) = ((0 : Nat) : Int) from rfl, this]
  show some (((NumText.digitsVal _ : Nat) : Int)) = _
  rw [hb]
theorem valO_tS {i : Int} (h0 : 0 ≤ i) (h1 : i < 10 ^ 60) : valO (tS i) = some i := by
  obtain ⟨m, rfl⟩ := Int.eq_ofNat_of_zero_le h0
  exact valO_nat (PySem.W.KIN.signs_num m) (by omega)
theorem neg_tS (m : Nat) : (tS (-((m + 1 : Nat) : Int))).cps.toList = 45 :: (Nat.toDigits 10 (m + 1)).map Char.toNat := by
  unfold tS
  rw [PyProof.Rows.signs_ofString, Int.toString_eq_repr, Int.repr_eq_if]
  rw [if_neg (by omega), String.toList_append, Nat.toList_repr, List.map_append]
  have e : (-((m + 1 : Nat) : Int)).natAbs = m + 1 := by omega
  first | rw [e] | rw [show (- -((m + 1 : Nat) : Int)).toNat = m + 1 from by omega]
  rfl
theorem loadO_tS {i : Int} (h0 : -(10 ^ 60) < i) (h1 : i < 10 ^ 60) : loadO (tS i) = some i := by
  by_cases hi : 0 ≤ i
  · have e := valO_tS hi h1
    obtain ⟨m, rfl⟩ := Int.eq_ofNat_of_zero_le hi
    unfold loadO
    rw [if_neg, e]
    intro z
    have z : (Str.ofString (toString ((m : Nat) : Int))).cps.toList[0]? = some 45 := z
    rw [PySem.W.KIN.signs_num] at z
    have := digs m 45 (List.mem_of_getElem? z)
    omega
  · obtain ⟨m, rfl⟩ : ∃ m : Nat, i = -((m + 1 : Nat) : Int) := ⟨(-i).toNat - 1, by omega⟩
    have ec := neg_tS m
    have e2 : (cutS (tS (-((m + 1 : Nat) : Int))) (some 1) none).cps.toList = (Nat.toDigits 10 (m + 1)).map Char.toNat := by
      have hl : (tS (-((m + 1 : Nat) : Int))).length = (Nat.toDigits 10 (m + 1)).length + 1 := by rw [← str_len, ec, List.length_cons, List.length_map]
      unfold cutS
      rw [ec]
      have x1 : HT.sIx (tS (-((m + 1 : Nat) : Int))).length 0 (some 1) = 1 := by rw [hl]; unfold HT.sIx; simp; try omega
      have x2 : HT.sIx (tS (-((m + 1 : Nat) : Int))).length (tS (-((m + 1 : Nat) : Int))).length none = (tS (-((m + 1 : Nat) : Int))).length := rfl
      rw [x1, x2, hl]
      simp only [List.drop_succ_cons, List.drop_zero, Nat.add_sub_cancel]
      rw [List.take_of_length_le (by rw [List.length_map]; exact Nat.le_refl _)]
    have e3 := valO_nat e2 (by omega)
    unfold loadO
    rw [if_pos (by rw [ec]; rfl), e3]
    show (if ((m + 1 : Nat) : Int) = 0 then none else some (-((m + 1 : Nat) : Int))) = _
    rw [if_neg (by omega)]
theorem jl_len (c : Nat) : ∀ {ps : List Str}, ps ≠ [] → (jl c ps).length + 1 = (ps.map (·.length)).sum + ps.length
  | [], h => absurd rfl h
  | [x], _ => by simp [jl, ← str_len]
  | x :: y :: r, _ => by
    have ih := jl_len c (ps := y :: r) (by simp)
    show (x.cps.toList ++ c :: jl c (y :: r)).length + 1 = _
    rw [List.length_append, List.length_cons, str_len, List.map_cons, List.sum_cons, List.length_cons (as := y :: r)]
    omega
theorem join_len {ps : List Str} (h : ps ≠ []) : (Str.join ⟨#[32]⟩ ps).length + 1 = (ps.map (·.length)).sum + ps.length := by
  rw [← jl_len 32 h, ← join_jl, str_len]
theorem jl_snoc (c : Nat) (p : Str) : ∀ {ps : List Str}, ps ≠ [] → jl c (ps ++ [p]) = jl c ps ++ c :: p.cps.toList
  | [], h => absurd rfl h
  | [x], _ => rfl
  | x :: y :: r, _ => by
    have ih := jl_snoc c p (ps := y :: r) (by simp)
    show x.cps.toList ++ c :: jl c ((y :: r) ++ [p]) = (x.cps.toList ++ c :: jl c (y :: r)) ++ c :: p.cps.toList
    rw [ih, List.append_assoc]; rfl
theorem join_snoc {ps : List Str} {p : Str} (h : ps ≠ []) : Str.join ⟨#[32]⟩ (ps ++ [p]) = Str.join ⟨#[32]⟩ ps ++ ⟨#[32]⟩ ++ p := by
  refine str_ext ?_
  rw [join_jl, jl_snoc 32 p h, PyProof.Rows.cps_toList_append, PyProof.Rows.cps_toList_append, join_jl, List.append_assoc]
  rfl
theorem split_len (t : Str) : (Txt.split t ⟨#[32]⟩ |>.map (·.length)).sum + (Txt.split t ⟨#[32]⟩).length = t.length + 1 := by
  have h : Txt.split t ⟨#[32]⟩ ≠ [] := fun z => by
    have := PyProof.Rows.split_pos t ⟨#[32]⟩
    rw [z] at this
    cases this
  have := join_len h
  rw [StrLaws.join_split] at this
  exact this.symm
def EvW (H0 H : Hp) (v : V) : Option (Str × V × List Int) → Prop
  | none => v = .non
  | some e => ∃ a l, v = .ref a ∧ H0 a = none ∧ H0 l = none ∧ H a = some (.tup [.str e.1, e.2.1, .ref l]) ∧ H l = some (.lst (e.2.2.map V.int))
theorem fresh_same {H H' : Hp} {a : Addr} (s : Same H H') (h : H' a = none) : H a = none := by
  cases z : H a with
  | none => rfl
  | some o => have := s _ _ z; rw [h] at this; cases this
structure TxE (K : PySem.W.Frag) (C_REFUSALS C_WORDS C_BadRow : Addr) : Prop where
  xo : XObj K C_BadRow
  xs : XSet K C_BadRow "row"
  xg : XGet K C_BadRow "row"
  r : TupG K C_REFUSALS (rsn.map V.str)
  w : TupG K C_WORDS (wdp.map V.str)
theorem wds_ok : ∀ w ∈ wds, 32 ∉ w.cps.toList ∧ w.length ≤ 7 ∧ (w ≠ rfd → w ∈ wdp) := by decide
theorem wdp_ok : ∀ w ∈ wdp, w ∈ wds ∧ w ≠ rfd := by decide
theorem rfd_in : rfd ∈ wds := by decide
theorem rsn_ok : ∀ w ∈ rsn, 32 ∉ w.cps.toList ∧ w.length ≤ 5 := by decide
theorem dsh_load : loadO dsh = none := by decide
theorem tS_len {i : Int} (h0 : -(10 ^ 60) < i) (h1 : i < 10 ^ 60) : (tS i).length ≤ 61 := by
  by_cases hi : 0 ≤ i
  · have := (num_len hi (Int.lt_trans h1 (by decide))).2
    exact this
  · obtain ⟨m, rfl⟩ : ∃ m : Nat, i = -((m + 1 : Nat) : Int) := ⟨(-i).toNat - 1, by omega⟩
    rw [← str_len, neg_tS, List.length_cons, List.length_map]
    have h60 := (Nat.length_toDigits_le_iff (n := m + 1) (b := 10) (k := 60) (by decide) (by decide)).mpr (by omega)
    omega
theorem EvG.th {w : Str} {tv : V} {ns : List Int} (g : EvG w tv ns) : 32 ∉ (thS tv).cps.toList ∧ (thS tv).length ≤ 61 := by
  rcases g.2.1 with ⟨_, z, hz, rfl⟩ | ⟨_, rfl | ⟨i, rfl, h0, h1⟩⟩
  · exact ⟨(rsn_ok z hz).1, Nat.le_trans (rsn_ok z hz).2 (by decide)⟩
  · exact ⟨by decide, by decide⟩
  · exact ⟨PyProof.Rows.int_text_free' 32 ⟨by decide, by decide⟩ i, tS_len h0 h1⟩
theorem EvG.free {w : Str} {tv : V} {ns : List Int} (g : EvG w tv ns) : ∀ p ∈ prt w tv ns, 32 ∉ p.cps.toList := by
  intro p hp
  unfold prt at hp
  rcases List.mem_cons.mp hp with rfl | hp
  · exact (wds_ok p g.1).1
  rcases List.mem_cons.mp hp with rfl | hp
  · exact g.th.1
  · obtain ⟨i, _, rfl⟩ := List.mem_map.mp hp
    exact PyProof.Rows.int_text_free' 32 ⟨by decide, by decide⟩ i
theorem EvG.split {w : Str} {tv : V} {ns : List Int} (g : EvG w tv ns) : Txt.split (txE w tv ns) ⟨#[32]⟩ = prt w tv ns := split_join (by unfold prt; simp) g.free
theorem sum_tS : ∀ {ns : List Int}, (∀ n ∈ ns, 0 ≤ n ∧ n < 10 ^ 60) → ((ns.map tS).map (·.length)).sum ≤ 61 * ns.length
  | [], _ => Nat.zero_le _
  | n :: ns, h => by
    have ih := sum_tS (ns := ns) (fun m hm => h m (List.mem_cons_of_mem _ hm))
    have hn := h n List.mem_cons_self
    have := tS_len (i := n) (by omega) hn.2
    rw [List.map_cons, List.map_cons, List.sum_cons, List.length_cons]
    omega
theorem EvG.sum {w : Str} {tv : V} {ns : List Int} (g : EvG w tv ns) : ((prt w tv ns).map (·.length)).sum + (prt w tv ns).length ≤ 2600 := by
  have h1 := (wds_ok w g.1).2.1
  have h2 := g.th.2
  have h3 := sum_tS g.2.2.2
  have h4 := g.2.2.1
  unfold prt
  rw [List.map_cons, List.map_cons, List.sum_cons, List.sum_cons, List.length_cons, List.length_cons, List.length_map]
  omega
theorem EvG.len {w : Str} {tv : V} {ns : List Int} (g : EvG w tv ns) : (txE w tv ns).length ≤ 2600 ∧ 1 ≤ (txE w tv ns).length := by
  have h := g.sum
  have e := join_len (ps := prt w tv ns) (by unfold prt; simp)
  have h2 : 2 ≤ (prt w tv ns).length := by unfold prt; rw [List.length_cons, List.length_cons]; omega
  unfold txE
  omega
theorem fm_tS : ∀ {ns : List Int}, (∀ n ∈ ns, 0 ≤ n ∧ n < 10 ^ 60) → (ns.map tS).all (fun p => (valO p).isSome) = true ∧ (ns.map tS).filterMap valO = ns
  | [], _ => ⟨rfl, rfl⟩
  | n :: ns, h => by
    obtain ⟨h1, h2⟩ := fm_tS (ns := ns) (fun m hm => h m (List.mem_cons_of_mem _ hm))
    have hn := h n List.mem_cons_self
    have e := valO_tS hn.1 hn.2
    refine ⟨?_, ?_⟩
    · rw [List.map_cons, List.all_cons, e, h1]; rfl
    · rw [List.map_cons, List.filterMap_cons_some e, h2]
theorem evP_prt {w : Str} {tv : V} {ns : List Int} (g : EvG w tv ns) : evP (prt w tv ns) = some (w, tv, ns) := by
  obtain ⟨f1, f2⟩ := fm_tS g.2.2.2
  have k : okTh w (thS tv) = true ∧ thV w (thS tv) = tv := by
    unfold okTh thV
    rcases g.2.1 with ⟨e, z, hz, rfl⟩ | ⟨e, h⟩
    · rw [if_pos e, if_pos e]
      exact ⟨decide_eq_true hz, rfl⟩
    · rw [if_neg e, if_neg e, decide_eq_true ((wds_ok w g.1).2.2 e)]
      rcases h with rfl | ⟨i, rfl, h0, h1⟩
      · exact ⟨rfl, by show vO (loadO dsh) = _; rw [dsh_load]; rfl⟩
      · have el := loadO_tS h0 h1
        exact ⟨by show (true && (_ || (loadO (tS i)).isSome)) = true; rw [el]; simp, by show vO (loadO (tS i)) = _; rw [el]; rfl⟩
  show (if okTh w (thS tv) = true ∧ (ns.map tS).all (fun p => (valO p).isSome) = true then some (w, thV w (thS tv), (ns.map tS).filterMap valO) else none) = _
  rw [if_pos ⟨k.1, f1⟩, f2, k.2]
def S_row : Sp := fun vs H Q E => ∃ a, vs = [.ref a] ∧ ∃ l w tv ns, H a = some (.tup [.str w, tv, .ref l]) ∧ H l = some (.lst (ns.map V.int)) ∧ EvG w tv ns ∧ ∀ H', Same H H' → Q (.str (txE w tv ns)) H'
def S_of : Sp := fun vs H Q E => ∃ t, vs = [.str t] ∧ t.length ≤ 10000 ∧ ∀ v H', Same H H' → EvW H H' v (evP (Txt.split t ⟨#[32]⟩)) → Q v H'
def S_has : Sp := fun vs H Q E => ∃ w t, vs = [.str w, .str t] ∧ t.length ≤ 10000 ∧ ∀ H', Same H H' → Q (.bl (okTh w t)) H'
def S_thing : Sp := fun vs H Q E => ∃ w t, vs = [.str w, .str t] ∧ t.length ≤ 10000 ∧ ∀ H', Same H H' → Q (thV w t) H'
def S_words : Sp := fun vs H Q E => vs = [] ∧ ∀ l, H l = none → Q (.ref l) (upd H l (.lst (wds.map V.str)))
theorem e_blank : (" " : Str) = ⟨#[32]⟩ := rfl
theorem fm_get {α β : Type} (f : α → β) : ∀ xs : List α, (List.range xs.length).filterMap (fun i => (xs[i]?).map f) = xs.map f
  | [] => rfl
  | x :: xs => by
    rw [List.length_cons, List.range_succ_eq_map, List.filterMap_cons]
    simp only [List.getElem?_cons_zero, Option.map_some, List.map_cons, List.filterMap_map]
    congr 1
    exact fm_get f xs
theorem log_ok {i : Int} (h0 : -(10 ^ 60) < i) (h1 : i < 10 ^ 60) : i.natAbs.log2 < 1920 := by
  by_cases e : i.natAbs = 0
  · rw [e]; decide
  · exact (Nat.log2_lt e).mpr (Nat.lt_trans (show i.natAbs < 10 ^ 60 by omega) (by decide))
section
variable {K : PySem.W.Frag} {C_REFUSALS C_WORDS C_BadRow : Addr} {H : Hp} {Q : VK} {E : XK} {n : St → Hp → Prop} {bk ct : St → Hp → Prop}
theorem has_thing_rd (T : TxE K C_REFUSALS C_WORDS C_BadRow) {w t : Str} (q : t.length ≤ 10000 ∧ ∀ H', Same H H' → Q (.bl (okTh w t)) H') : rd_has_thing K C_REFUSALS C_WORDS S_load ⟨n, Q, bk, ct⟩ [some (.str w), some (.str t)] H := by
  obtain ⟨hl, h⟩ := q
  unfold rd_has_thing
  unfold okTh at h
  walk_at "ev"
  refine ifd (fun e => ?_) (fun e => ?_)
  · walk_at "ev"
    refine ⟨_, _, rfl, .inr (T.r _), rfl, flat_str _, ?_⟩
    have := h _ (Same.refl _)
    rw [if_pos (show w = rfd from e), ← inV_str] at this
    exact this
  · rw [if_neg (show ¬ w = rfd from e)] at h
    walk_at "ev"
    refine ⟨_, _, rfl, .inr (T.w _), rfl, flat_str _, ?_⟩
    rw [if_neg Bool.false_ne_true, inV_str]
    refine ⟨_, rfl, ?_⟩
    refine ifd (fun e1 => ?_) (fun e1 => ?_)
    · rw [decide_eq_true e1] at h
      walk_at "ev"
      refine ifd (fun e2 => ?_) (fun e2 => ?_)
      · rw [decide_eq_true (show t = dsh from e2)] at h
        exact h _ (Same.refl _)
      · rw [decide_eq_false (show ¬ t = dsh from e2)] at h
        walk_at "ev"
        refine ⟨t, rfl, by omega, fun H1 s1 => ?_⟩
        have := h _ s1
        cases ev : loadO t <;> rw [ev] at this <;> dsimp only [vO] <;> walk_at "ev" <;> exact this
    · rw [decide_eq_false e1] at h
      exact h _ (Same.refl _)
theorem thing_of_rd {w t : Str} (q : t.length ≤ 10000 ∧ ∀ H', Same H H' → Q (thV w t) H') : rd_thing_of S_load ⟨n, Q, bk, ct⟩ [some (.str w), some (.str t)] H := by
  obtain ⟨hl, h⟩ := q
  unfold rd_thing_of
  unfold thV at h
  walk_at "ev"
  refine ifd (fun e => ?_) (fun e => ?_)
  · rw [if_pos (show w = rfd from e)] at h
    walk_at "ev"
    exact h _ (Same.refl _)
  · rw [if_neg (show ¬ w = rfd from e)] at h
    walk_at "ev"
    exact ⟨t, rfl, by omega, h⟩
theorem _law_words_rd (q : ∀ l, H l = none → Q (.ref l) (upd H l (.lst (wds.map V.str)))) : rd__law_words K ⟨n, Q, bk, ct⟩ [none] H := by
  unfold rd__law_words
  walk_at "ev"
  refine i_catS (by decide) ?_
  walk_at "ev"
  refine ⟨_, _, rfl, rfl, by decide, by decide, fun l hl => ?_⟩
  have e : Txt.split (("made got put copied dropped given wrote read named sought refused" : Str) ++ (" begin walk look cut lost back pass end" : Str)) " " = wds := by
    have e1 : ("made got put copied dropped given wrote read named sought refused" : Str) ++ (" begin walk look cut lost back pass end" : Str) = Str.join ⟨#[32]⟩ wds := by decide
    rw [e1]
    exact split_join (by decide) (fun p hp => (wds_ok p hp).1)
  rw [e]
  exact q l hl
theorem event_row_rd {a : Addr} (q : ∃ l w tv ns, H a = some (.tup [.str w, tv, .ref l]) ∧ H l = some (.lst (ns.map V.int)) ∧ EvG w tv ns ∧ ∀ H', Same H H' → Q (.str (txE w tv ns)) H') : rd_event_row K ⟨n, Q, bk, ct⟩ [some (.ref a), none] H := by
  obtain ⟨l, w, tv, ns, ha, hl, g, h⟩ := q
  unfold rd_event_row
  have go : tRet (tBM K "str" (G.r_join K) (tC (.str " ")) (tCons (tOp (rCat) (tLst (tCons (tOp (rIxT K) (tVar 0) (tC (.int 0))) (tCons (tVar 1) tNil))) (G.tLC (iList K (tOp (rIxT K) (tVar 0) (tC (.int 2)))) [] G.tTrue (tCB (G.cStrI) (tCons (tVar 0) tNil)))) tNil)) ⟨n, Q, bk, ct⟩ [some (.ref a), some (.str (thS tv))] H := by
    walk_at "ev"
    refine ⟨a, _, 0, _, rfl, rfl, SqT.of ha, rfl, ?_⟩
    walk_at "ev"
    refine ⟨by show 2 ≤ _; decide, fun p hp => ?_⟩
    walk_at "ev"
    have s1 := same_new (o := .lst [.str w, .str (thS tv)]) hp
    refine i_lcg ?_
    walk_at "ev"
    refine ⟨a, _, 2, _, rfl, rfl, SqT.of (s1 _ _ ha), rfl, ?_⟩
    refine ⟨l, rfl, ⟨_, SqL.of (s1 _ _ hl)⟩, ?_⟩
    refine lc_list (SqL.of (s1 _ _ hl)) (fun i => (ns[i]?).map fun m => .str (tS m)) (by rw [List.length_map]; have := g.2.2.1; omega) (fun i x hx => ?_) fun pl hpl => ?_
    · rw [List.getElem?_map] at hx
      obtain ⟨m, hm, rfl⟩ := Option.map_eq_some_iff.mp hx
      have hmi := g.2.2.2 m (List.mem_of_getElem? hm)
      refine ⟨fun q hq => ?_, fun y q hy hq => ?_⟩
      · rw [hm] at hq; exact hq
      · rw [hm] at hy
        cases hy
        walk_at "caps"
        walk_at "ev"
        exact ⟨m, rfl, log_ok (by omega) hmi.2, hq⟩
    have em : ns.map (fun m => V.str (tS m)) = (ns.map tS).map V.str := by rw [List.map_map]; rfl
    rw [List.length_map, fm_get, em]
    have s2 := same_new (o := .lst ((ns.map tS).map V.str)) hpl
    walk_at "ev"
    refine ⟨p, pl, _, _, rfl, rfl, s2 _ _ upd_same, upd_same, len_ok (by rw [List.length_map, List.length_map]; have := g.2.2.1; show 2 + _ ≤ _; omega), fun r hr => ?_⟩
    walk_at "ev"
    have s3 := same_new (o := .lst ([V.str w, .str (thS tv)] ++ (ns.map tS).map V.str)) hr
    refine ⟨" ", r, prt w tv ns, rfl, rfl, SqL.of upd_same, by decide, Nat.le_trans g.sum (by decide), ?_⟩
    have e : Txt.join " " (prt w tv ns) = txE w tv ns := StrLaws.glued_eq_join _ _
    rw [e]
    exact h _ (s1.trans (s2.trans s3))
  walk_at "ev"
  refine ⟨a, _, 1, _, rfl, rfl, SqT.of ha, rfl, ?_⟩
  rcases g.2.1 with ⟨_, z, hz, rfl⟩ | ⟨_, rfl | ⟨i, rfl, h0, h1⟩⟩
  · walk_at "ev"
    refine ⟨a, _, 1, _, rfl, rfl, SqT.of ha, rfl, ?_⟩
    walk_at "ev"
    refine .inr ⟨z, rfl, ?_⟩
    exact go
  · refine i_isN0 ⟨true, rfl, ?_⟩
    refine i_iteT ?_
    exact go
  · walk_at "ev"
    refine ⟨a, _, 1, _, rfl, rfl, SqT.of ha, rfl, ?_⟩
    walk_at "ev"
    refine .inl ⟨i, rfl, log_ok h0 h1, ?_⟩
    exact go
end
theorem cut_two (w t : Str) (r : List Str) : cutV ((w :: t :: r).map V.str) (some 2) none = r.map V.str := by
  unfold cutV
  have x1 : HT.sIx ((w :: t :: r).map V.str).length 0 (some 2) = 2 := by
    unfold HT.sIx
    simp
    try omega
  have x2 : HT.sIx ((w :: t :: r).map V.str).length ((w :: t :: r).map V.str).length none = ((w :: t :: r).map V.str).length := rfl
  rw [x1, x2]
  simp only [List.map_cons, List.drop_succ_cons, List.drop_zero]
  exact List.take_of_length_le (by simp)
theorem mem_sum {p : Str} : ∀ {ps : List Str}, p ∈ ps → p.length ≤ (ps.map (·.length)).sum
  | x :: ps, h => by
    rw [List.map_cons, List.sum_cons]
    rcases List.mem_cons.mp h with rfl | h
    · omega
    · have := mem_sum h; omega
theorem fm_some : ∀ {r : List Str}, r.all (fun p => (valO p).isSome) = true → r.map (fun p => vO (valO p)) = (r.filterMap valO).map V.int
  | [], _ => rfl
  | p :: r, h => by
    rw [List.all_cons, Bool.and_eq_true] at h
    obtain ⟨v, ev⟩ := Option.isSome_iff_exists.mp h.1
    rw [List.map_cons, List.filterMap_cons_some ev, List.map_cons, fm_some h.2, ev]; rfl
theorem evP_no {ps : List Str} (h : ps.length < 2) : evP ps = none := by
  match ps, h with
  | [], _ => rfl
  | [_], _ => rfl
section
variable {K : PySem.W.Frag} {H : Hp} {Q : VK} {E : XK} {n : St → Hp → Prop} {bk ct : St → Hp → Prop}
theorem event_of_rd {t : Str} (q : t.length ≤ 10000 ∧ ∀ v H', Same H H' → EvW H H' v (evP (Txt.split t ⟨#[32]⟩)) → Q v H') : rd_event_of K S_has S_num S_thing ⟨n, Q, bk, ct⟩ [some (.str t), none, none] H := by
  obtain ⟨hl, h⟩ := q
  unfold rd_event_of
  walk_at "ev"
  refine ⟨t, _, rfl, rfl, by decide, by omega, fun l hl0 => ?_⟩
  rw [e_blank]
  have sl := split_len t
  generalize Txt.split t ⟨#[32]⟩ = ps at *
  have s1 := same_new hl0 (.lst (ps.map V.str))
  have c1 : upd H l (.lst (ps.map V.str)) l = some (.lst (ps.map V.str)) := upd_same
  generalize upd H l (.lst (ps.map V.str)) = H1 at s1 c1 ⊢
  walk_at "ev"
  refine i_lenL (SqL.of c1) ?_
  walk_at "ev"
  rw [List.length_map]
  refine ifd (fun h2 => ?_) (fun h2 => ?_)
  · walk_at "ev"
    rw [evP_no (by omega)] at h
    exact h _ _ s1 rfl
  match ps, h2 with
  | [], h2 => exact absurd (by decide) h2
  | [_], h2 => exact absurd (by show ((1 : Nat) : Int) < 2; decide) h2
  | w :: u :: r, _ =>
    have hm := fun p hp => mem_sum (p := p) (ps := w :: u :: r) hp
    have hw := hm w (by simp)
    have hu := hm u (by simp)
    have hr : ∀ p ∈ r, p.length ≤ 10000 := fun p hp => by
      have := hm p (by simp [hp])
      omega
    have hrl : r.length ≤ 10000 := by
      rw [List.length_cons, List.length_cons] at sl
      omega
    walk_at "ev"
    refine i_ixL (SqL.of c1) (atI_int (by decide) rfl) ?_
    walk_at "ev"
    refine i_ixL (SqL.of c1) (atI_int (by decide) rfl) ?_
    walk_at "ev"
    refine ⟨w, u, rfl, by omega, fun H2 s2 => ?_⟩
    cases ok : okTh w u with
    | false =>
      walk_at "ev"
      have e : evP (w :: u :: r) = none := by
        show (if okTh w u = true ∧ _ then _ else none) = _
        rw [ok, if_neg (fun z => Bool.false_ne_true z.1)]
      rw [e] at h
      exact h _ _ (s1.trans s2) rfl
    | true =>
      have c2 := s2 _ _ c1
      walk_at "ev"
      refine i_lcg ?_
      walk_at "ev"
      refine ⟨l, _, rfl, SqL.of c2, fun m hm0 => ?_⟩
      rw [cut_two]
      have s3 := same_new hm0 (.lst (r.map V.str))
      have c3 : upd H2 m (.lst (r.map V.str)) m = some (.lst (r.map V.str)) := upd_same
      generalize upd H2 m (.lst (r.map V.str)) = H3 at s3 c3 ⊢
      refine ⟨m, rfl, ⟨_, SqL.of c3⟩, ?_⟩
      refine lc_newL (SqL.of c3) (by rw [List.length_map]; omega) (fun i y _ => ∃ p, r[i]? = some p ∧ y = vO (valO p)) (fun _ _ _ _ z _ => z) (fun x Ha q hq => hq) (fun i x Ha hx sa q hq => ?_) fun ys H5 s5 hyl hy ha hha => ?_
      · rw [List.getElem?_map] at hx
        obtain ⟨p, hp, rfl⟩ := Option.map_eq_some_iff.mp hx
        walk_at "caps"
        walk_at "ev"
        have := hr p (List.mem_of_getElem? hp)
        refine ⟨p, .non, rfl, by omega, .inl rfl, fun Hb sb => ?_⟩
        rw [num_non]
        exact hq _ _ sb ⟨p, hp, rfl⟩
      have ey : ys = (r.map valO).map vO := by
        refine List.ext_getElem? fun i => ?_
        by_cases hi : i < r.length
        · rw [List.getElem?_map, List.getElem?_map]
          cases e1 : ys[i]? with
          | none =>
            rw [List.length_map] at hyl
            have := List.getElem?_eq_none_iff.mp e1
            omega
          | some y =>
            obtain ⟨p, hp, rfl⟩ := hy i y e1
            rw [hp]; rfl
        · rw [List.length_map] at hyl
          rw [List.getElem?_eq_none (by omega), List.getElem?_eq_none (by rw [List.length_map, List.length_map]; omega)]
      subst ey
      have s6 := same_new hha (.lst ((r.map valO).map vO))
      have c6 : upd H5 ha (.lst ((r.map valO).map vO)) ha = some (.lst ((r.map valO).map vO)) := upd_same
      generalize upd H5 ha (.lst ((r.map valO).map vO)) = H6 at s6 c6 ⊢
      have s16 := s2.trans (s3.trans (s5.trans s6))
      walk_at "ev"
      refine ⟨ha, _, rfl, .inl (SqL.of c6), rfl, flat_vO _, ?_⟩
      rw [if_neg Bool.false_ne_true, inV_non, List.all_map]
      refine ⟨_, rfl, ?_⟩
      cases al : r.all (Option.isSome ∘ valO) with
      | false =>
        walk_at "ev"
        have e : evP (w :: u :: r) = none := by
          show (if okTh w u = true ∧ r.all (Option.isSome ∘ valO) = true then _ else none) = _
          rw [al, if_neg (fun z => Bool.false_ne_true z.2)]
        rw [e] at h
        exact h _ _ (s1.trans s16) rfl
      | true =>
        walk_at "ev"
        refine i_ixL (SqL.of (s16 _ _ c1)) (atI_int (by decide) rfl) ?_
        walk_at "ev"
        refine i_ixL (SqL.of (s16 _ _ c1)) (atI_int (by decide) rfl) ?_
        walk_at "ev"
        refine i_ixL (SqL.of (s16 _ _ c1)) (atI_int (by decide) rfl) ?_
        walk_at "ev"
        refine ⟨w, u, rfl, by omega, fun H7 s7 => ?_⟩
        walk_at "ev"
        refine ⟨by show 3 ≤ _; decide, fun tp htp => ?_⟩
        have e : evP (w :: u :: r) = some (w, thV w u, r.filterMap valO) := by
          show (if okTh w u = true ∧ r.all (Option.isSome ∘ valO) = true then _ else none) = _
          rw [al, ok, if_pos ⟨rfl, rfl⟩]
        rw [e] at h
        have s8 := same_new htp (.tup [.str w, thV w u, .ref ha])
        refine h _ _ (s1.trans (s16.trans (s7.trans s8))) ⟨tp, ha, rfl, fresh_same (s1.trans (s16.trans s7)) htp, fresh_same (s1.trans (s2.trans (s3.trans s5))) hha, upd_same, ?_⟩
        rw [← fm_some al, s8 _ _ (s7 _ _ c6), List.map_map]
        rfl
end
theorem same_put {H Hx : Hp} {p : Addr} {o : HO} (s : Same H Hx) (hp : H p = none) : Same H (upd Hx p o) := fun b u q => by rw [upd_ne (ne_of_none q hp)]; exact s b u q
theorem okTh_in {w u : Str} (h : okTh w u = true) : w ∈ wds := by
  unfold okTh at h
  by_cases e : w = rfd
  · rw [e]; exact rfd_in
  · rw [if_neg e, Bool.and_eq_true] at h
    exact (wdp_ok w (of_decide_eq_true h.1)).1
theorem evP_bad {w u : Str} {r : List Str} (h : ¬ okTh w u = true) : evP (w :: u :: r) = none := by
  show (if okTh w u = true ∧ _ then _ else none) = _
  rw [if_neg (fun z => h z.1)]
theorem evP_bad2 {w u : Str} {r : List Str} (h : ¬ r.all (fun p => (valO p).isSome) = true) : evP (w :: u :: r) = none := by
  show (if _ ∧ r.all (fun p => (valO p).isSome) = true then _ else none) = _
  rw [if_neg (fun z => h z.2)]
theorem wds_at {i : Int} (h0 : 0 ≤ i) (h1 : i < 19) : ∃ w, wds[i.toNat]? = some w ∧ w ∈ wds := by
  have hl : wds.length = 19 := rfl
  have : i.toNat < wds.length := by omega
  exact ⟨_, List.getElem?_eq_getElem this, List.getElem_mem this⟩
theorem rsn_at {i : Int} (h0 : 0 ≤ i) (h1 : i < 4) : ∃ w, rsn[i.toNat]? = some w ∧ w ∈ rsn := by
  have hl : rsn.length = 4 := rfl
  have : i.toNat < rsn.length := by omega
  exact ⟨_, List.getElem?_eq_getElem this, List.getElem_mem this⟩
theorem app_len (a b : Str) : (a ++ b).length = a.length + b.length := by rw [← str_len, PyProof.Rows.cps_toList_append, List.length_append, str_len, str_len]
theorem at_of {l : List Str} {i : Int} (h0 : 0 ≤ i) (h1 : i < l.length) : ∃ w, atI (l.map V.str) i = some (.str w) ∧ w ∈ l := by
  have : i.toNat < l.length := by omega
  exact ⟨_, atI_int h0 (by rw [List.getElem?_map, List.getElem?_eq_getElem this]; rfl), List.getElem_mem this⟩
section
variable {K : PySem.W.Frag} {H : Hp} {Q : VK} {E : XK} {n : St → Hp → Prop} {bk ct : St → Hp → Prop}
theorem same_tail {a l b m : Addr} {w : Str} {tv : V} {ns : List Int} (ft : flatV tv = true) (ha : H a = some (.tup [.str w, tv, .ref l])) (hl : H l = some (.lst (ns.map V.int))) (hb : H b = some (.tup [.str w, tv, .ref m])) (hm : H m = some (.lst (ns.map V.int))) (h : Q (.bl true) H) :
    (tSeq (tIfS (tNot (tB (tCB (G.cIsi) (tCons (tOp (rIxT K) (tVar 0) (tC (.int 2))) (tCons (tC (.ty "list")) tNil))))) (tRet (tC (.bl false))) tNext)
      (tSeq (tFor (iList K (tOp (rIxT K) (tVar 0) (tC (.int 2)))) (gName 2)
      (tIfS (tNot (tB (tCall S_whole [] E0 (tCons (tVar 2) tNil)))) (tRet (tC (.bl false))) tNext))
      (tRet (tOp (G.rEqN K false) (tVar 0) (tVar 1))))) ⟨n, Q, bk, ct⟩ [some (.ref a), some (.ref b), none] H := by
  walk_at "ev"
  refine ⟨a, _, 2, _, rfl, rfl, SqT.of ha, rfl, ?_⟩
  walk_at "ev"
  refine i_isiL_list hl ?_
  walk_at "ev"
  refine ⟨a, _, 2, _, rfl, rfl, SqT.of ha, rfl, ?_⟩
  refine ⟨l, rfl, ⟨_, SqL.of hl⟩, ?_⟩
  refine forL (ns.map V.int) (fun i σ H2 => ∃ v2, σ = [some (.ref a), some (.ref b), v2] ∧ H2 = H) ⟨none, rfl, rfl⟩ ?_ ?_ ?_
  · rintro i σ H2 _ ⟨v2, rfl, rfl⟩; exact SqL.of hl
  · rintro i x σ H2 hx ⟨v2, rfl, rfl⟩
    rw [List.getElem?_map] at hx
    obtain ⟨y, hy, rfl⟩ := Option.map_eq_some_iff.mp hx
    walk_at "ev"
    refine ⟨y, rfl, ?_⟩
    walk_at "ev"
    exact ⟨_, rfl, rfl⟩
  · rintro σ H2 ⟨v2, rfl, rfl⟩
    walk_at "ev"
    have fl : (ns.map V.int).all flatV = true := by rw [List.all_map, List.all_eq_true]; intro x _; rfl
    exact i_eqN (.inr ⟨SqT.of ha, SqT.of hb⟩) (.cons (dq_flat rfl) (.cons (dq_flat ft) (.cons (.inr ⟨l, m, rfl, rfl, .inr ⟨_, _, .inl ⟨SqL.of hl, SqL.of hm⟩, dq_flats fl⟩⟩) .nil))) h
end
abbrev Ev := Str × V × List Int
def Gd (e : Ev) : Prop := EvG e.1 e.2.1 e.2.2
def txR (k : Int) (e : Ev) : Str := Str.join ⟨#[32]⟩ (tS k :: prt e.1 e.2.1 e.2.2)
def sL (l : List Nat) : Str := ⟨l.toArray⟩
theorem sL_self (t : Str) : sL t.cps.toList = t := str_ext rfl
def pHd (t : Str) : Str := sL (t.cps.toList.takeWhile (· != 32))
def pTl (t : Str) : Str := sL ((t.cps.toList.dropWhile (· != 32)).drop 1)
theorem tw_app {a r : List Nat} (h : 32 ∉ a) : (a ++ 32 :: r).takeWhile (· != 32) = a ∧ (a ++ 32 :: r).dropWhile (· != 32) = 32 :: r := by
  induction a with
  | nil => exact ⟨rfl, rfl⟩
  | cons c a ih =>
    have hc : (c != 32) = true := by
      have : c ≠ 32 := fun z => h (by rw [z]; exact List.mem_cons_self)
      simpa using this
    obtain ⟨i1, i2⟩ := ih (fun z => h (List.mem_cons_of_mem _ z))
    refine ⟨?_, ?_⟩
    · rw [List.cons_append, List.takeWhile_cons, if_pos hc, i1]
    · rw [List.cons_append, List.dropWhile_cons, if_pos hc, i2]
theorem tw_none {a : List Nat} (h : 32 ∉ a) : a.takeWhile (· != 32) = a ∧ a.dropWhile (· != 32) = [] := by
  induction a with
  | nil => exact ⟨rfl, rfl⟩
  | cons c a ih =>
    have hc : (c != 32) = true := by
      have : c ≠ 32 := fun z => h (by rw [z]; exact List.mem_cons_self)
      simpa using this
    obtain ⟨i1, i2⟩ := ih (fun z => h (List.mem_cons_of_mem _ z))
    exact ⟨by rw [List.takeWhile_cons, if_pos hc, i1], by rw [List.dropWhile_cons, if_pos hc, i2]⟩
theorem p_app {t : Str} {a r : List Nat} (e : t.cps.toList = a ++ 32 :: r) (h : 32 ∉ a) : pHd t = sL a ∧ pTl t = sL r := by
  unfold pHd pTl
  rw [e, (tw_app h).1, (tw_app h).2]
  exact ⟨rfl, rfl⟩
theorem p_none {t : Str} (h : 32 ∉ t.cps.toList) : pHd t = t ∧ pTl t = sL [] := by
  unfold pHd pTl
  rw [(tw_none h).1, (tw_none h).2]
  exact ⟨sL_self t, rfl⟩
theorem at_one (t : Str) (i : Nat) : StrLaws.At t ⟨#[32]⟩ t.length i ↔ t.cps.toList[i]? = some 32 := by
  unfold StrLaws.At
  rw [StrLaws.subAt_eq]
  have hl : t.length = t.cps.toList.length := (str_len t).symm
  rw [hl]
  show i + 1 ≤ _ ∧ ((t.cps.toList.drop i).take 1 == [32]) = true ↔ _
  generalize t.cps.toList = l
  constructor
  · rintro ⟨h1, h2⟩
    have hi : i < l.length := by omega
    rw [List.drop_eq_getElem_cons hi, List.take_succ_cons, List.take_zero] at h2
    have : l[i] = 32 := by simpa using h2
    rw [List.getElem?_eq_getElem hi, this]
  · intro h
    obtain ⟨hi, e⟩ := List.getElem?_eq_some_iff.mp h
    refine ⟨hi, ?_⟩
    rw [List.drop_eq_getElem_cons hi, List.take_succ_cons, List.take_zero, e]
    rfl
theorem first_blank (t : Str) : (32 ∉ t.cps.toList ∧ Builtin.Str.occurrences t ⟨#[32]⟩ 0 t.length 1 = []) ∨ ∃ a r, t.cps.toList = a ++ 32 :: r ∧ 32 ∉ a ∧ Builtin.Str.occurrences t ⟨#[32]⟩ 0 t.length 1 = [a.length] := by
  rcases StrLaws.occ_head t ⟨#[32]⟩ 1 (Nat.le_refl 1) with ⟨h0, hn⟩ | ⟨i, r, h0, hi, hn⟩
  · refine .inl ⟨fun hm => ?_, h0⟩
    obtain ⟨i, hi⟩ := List.getElem?_of_mem hm
    exact hn i ((at_one t i).mpr hi)
  · have hi' := (at_one t i).mp hi
    obtain ⟨hlt, e⟩ := List.getElem?_eq_some_iff.mp hi'
    have hr : r = [] := by
      have := StrLaws.occ_length_le t ⟨#[32]⟩ 0 t.length 1
      rw [h0, List.length_cons] at this
      exact List.eq_nil_of_length_eq_zero (by omega)
    subst hr
    have la : (t.cps.toList.take i).length = i := by rw [List.length_take]; omega
    refine .inr ⟨t.cps.toList.take i, t.cps.toList.drop (i + 1), ?_, fun hm => ?_, by rw [h0, la]⟩
    · rw [← e, ← List.drop_eq_getElem_cons hlt, List.take_append_drop]
    · obtain ⟨k, hk⟩ := List.getElem?_of_mem hm
      have hki : k < i := by
        have := (List.getElem?_eq_some_iff.mp hk).1
        omega
      rw [List.getElem?_take_of_lt hki] at hk
      exact hn k hki ((at_one t k).mpr hk)
theorem part_eq (t : Str) : (Txt.partition t ⟨#[32]⟩).1 = pHd t ∧ (Txt.partition t ⟨#[32]⟩).2.2 = pTl t := by
  rcases first_blank t with ⟨h, e⟩ | ⟨a, r, et, h, e⟩
  · unfold Txt.partition
    rw [e, (p_none h).1, (p_none h).2]
    exact ⟨rfl, rfl⟩
  · obtain ⟨e1, e2⟩ := p_app et h
    unfold Txt.partition
    rw [e, e1, e2]
    refine ⟨str_ext ?_, str_ext ?_⟩
    · show (Builtin.Str.strSub t 0 a.length).cps.toList = a
      rw [StrLaws.strSub_toList, et]
      simp
    · show (Builtin.Str.strSub t (a.length + 1) t.length).cps.toList = r
      rw [StrLaws.strSub_toList, et, ← str_len, et, List.drop_append, List.drop_eq_nil_of_le (Nat.le_succ _), Nat.add_sub_cancel_left, List.nil_append, List.drop_succ_cons, List.drop_zero]
      exact List.take_of_length_le (by simp; omega)
theorem rep_eq {t : Str} {a r : List Nat} (et : t.cps.toList = a ++ 32 :: r) (h : 32 ∉ a) : (rep1 t ⟨#[32]⟩ ⟨#[32, 32]⟩).cps.toList = a ++ 32 :: 32 :: r := by
  rcases first_blank t with ⟨h', _⟩ | ⟨a', r', et', h', e⟩
  · exact absurd (by rw [et]; simp) h'
  · have ea : a' = a ∧ r' = r := by
      have z := tw_app (r := r) h
      have z' := tw_app (r := r') h'
      rw [← et] at z
      rw [← et'] at z'
      exact ⟨z'.1.symm.trans z.1, (List.cons.inj (z'.2.symm.trans z.2)).2⟩
    obtain ⟨rfl, rfl⟩ := ea
    unfold rep1
    rw [e]
    rw [if_neg (show ¬ ([a'.length].isEmpty || (⟨#[32]⟩ : Str).length == 0 && (⟨#[32, 32]⟩ : Str).length == 0) = true from Bool.false_ne_true)]
    show (Builtin.Str.glued ⟨#[32, 32]⟩ [Builtin.Str.strSub t 0 a'.length, Builtin.Str.strSub t (a'.length + 1) t.length]).cps.toList = _
    have s1 : (Builtin.Str.strSub t 0 a'.length).cps.toList = a' := by rw [StrLaws.strSub_toList, et]; simp
    have s2 : (Builtin.Str.strSub t (a'.length + 1) t.length).cps.toList = r' := by 
      rw [StrLaws.strSub_toList, et, ← str_len, et, List.drop_append, List.drop_eq_nil_of_le (Nat.le_succ _), Nat.add_sub_cancel_left, List.nil_append, List.drop_succ_cons, List.drop_zero]
      exact List.take_of_length_le (by simp; omega)
    show ((Builtin.Str.strSub t 0 a'.length).cps ++ #[32, 32] ++ (Builtin.Str.strSub t (a'.length + 1) t.length).cps).toList = _
    rw [Array.toList_append, Array.toList_append, s1, s2]
    simp
theorem txR_l (k : Int) (e : Ev) : (txR k e).cps.toList = (tS k).cps.toList ++ 32 :: (txE e.1 e.2.1 e.2.2).cps.toList := by
  unfold txR txE
  rw [join_jl, join_jl]
  rfl
theorem tS_free (c : Nat) (h : c ≠ 45 ∧ (c < 48 ∨ 57 < c)) (i : Int) : c ∉ (tS i).cps.toList := PyProof.Rows.int_text_free' c h i
def hr (t : Str) (m : Nat) : Option (Bool × Ev) := match valO (pHd t), evP (Txt.split (pTl t) ⟨#[32]⟩) with
  | some k, some e => if k = (m : Int) + 1 then some (true, e) else if k = (m : Int) ∧ 0 < m then some (false, e) else none
  | _, _ => none
theorem hr_no1 {t : Str} (m : Nat) (h : valO (pHd t) = none) : hr t m = none := by unfold hr; rw [h]
theorem hr_no2 {t : Str} (m : Nat) (h : evP (Txt.split (pTl t) ⟨#[32]⟩) = none) : hr t m = none := by
  unfold hr; rw [h]; split <;> first | rfl | (rename_i z; cases z)
theorem hr_no3 {t : Str} {m : Nat} {k : Int} (h : valO (pHd t) = some k) (h1 : k ≠ (m : Int) + 1) (h2 : ¬ (k = (m : Int) ∧ 0 < m)) : hr t m = none := by
  unfold hr; rw [h]
  split
  · rename_i z1 z2; cases z1; rw [if_neg h1, if_neg h2]
  · rfl
theorem hr_yes {k : Int} {e : Ev} {m : Nat} (g : Gd e) (h0 : 0 ≤ k) (h1 : k < 10 ^ 60) (hm : k = (m : Int) + 1 ∨ (k = (m : Int) ∧ 0 < m)) : hr (txR k e) m = some (decide (k = (m : Int) + 1), e) := by
  obtain ⟨e1, e2⟩ := p_app (txR_l k e) (tS_free 32 ⟨by decide, by decide⟩ k)
  unfold hr
  rw [e1, e2, sL_self, sL_self, valO_tS h0 h1, EvG.split g, evP_prt g]
  show (if k = (m : Int) + 1 then some (true, e) else if k = (m : Int) ∧ 0 < m then some (false, e) else none) = _
  by_cases z : k = (m : Int) + 1
  · rw [if_pos z, decide_eq_true z]
  · rw [if_neg z, decide_eq_false z, if_pos (hm.resolve_left z)]
def addL : List (List Ev) → Ev → List (List Ev)
  | [], _ => []
  | [es], e => [es ++ [e]]
  | es :: fs :: r, e => es :: addL (fs :: r) e
theorem addL_snoc (es : List Ev) (e : Ev) : ∀ L : List (List Ev), addL (L ++ [es]) e = L ++ [es ++ [e]]
  | [] => rfl
  | [x] => rfl
  | x :: y :: r => by
    have := addL_snoc es e (y :: r)
    show x :: addL ((y :: r) ++ [es]) e = _
    rw [this]; rfl
def hst (L : List (List Ev)) (t : Str) : Option (List (List Ev)) := match hr t L.length with
  | some (true, e) => some (L ++ [[e]])
  | some (false, e) => some (addL L e)
  | none => none
def hAt (ts : List Str) : Nat → Option (List (List Ev))
  | 0 => some []
  | i + 1 => (hAt ts i).bind fun L => (ts[i]?).bind (hst L)
inductive Chn : List (Nat × Ev) → List (List Ev) → Prop
  | nil : Chn [] []
  | new {ps : List (Nat × Ev)} {L : List (List Ev)} {e : Ev} : Chn ps L → Gd e → Chn (ps ++ [(L.length + 1, e)]) (L ++ [[e]])
  | add {ps : List (Nat × Ev)} {L : List (List Ev)} {es : List Ev} {e : Ev} : Chn ps (L ++ [es]) → Gd e → Chn (ps ++ [(L.length + 1, e)]) (L ++ [es ++ [e]])
theorem Chn.good {ps : List (Nat × Ev)} {L : List (List Ev)} (c : Chn ps L) : ∀ p ∈ ps, Gd p.2 := by
  induction c with
  | nil => intro p h; cases h
  | new _ g ih => intro p h; rcases List.mem_append.mp h with h | h; exact ih p h; rw [List.mem_singleton.mp h]; exact g
  | add _ g ih => intro p h; rcases List.mem_append.mp h with h | h; exact ih p h; rw [List.mem_singleton.mp h]; exact g
theorem Chn.len {ps : List (Nat × Ev)} {L : List (List Ev)} (c : Chn ps L) : L.length ≤ ps.length ∧ ∀ p ∈ ps, 1 ≤ p.1 ∧ p.1 ≤ ps.length := by
  induction c with
  | nil => exact ⟨Nat.le_refl _, fun p h => nomatch h⟩
  | @new ps L e _ _ ih =>
    rw [List.length_append, List.length_append]
    refine ⟨Nat.add_le_add_right ih.1 1, fun p h => ?_⟩
    rcases List.mem_append.mp h with h | h
    · have := ih.2 p h; exact ⟨this.1, Nat.le_trans this.2 (Nat.le_succ _)⟩
    · rw [List.mem_singleton.mp h]; exact ⟨Nat.le_add_left _ _, Nat.add_le_add_right ih.1 1⟩
  | @add ps L es e _ _ ih =>
    rw [List.length_append, List.length_append] at *
    have i1 := ih.1
    refine ⟨Nat.le_trans i1 (Nat.le_succ _), fun p h => ?_⟩
    rcases List.mem_append.mp h with h | h
    · have := ih.2 p h; exact ⟨this.1, Nat.le_trans this.2 (Nat.le_succ _)⟩
    · rw [List.mem_singleton.mp h]
      have i1 : L.length + 1 ≤ ps.length := i1
      exact ⟨Nat.le_add_left _ _, Nat.le_trans i1 (Nat.le_succ _)⟩
theorem Chn.at {ps : List (Nat × Ev)} {L : List (List Ev)} (c : Chn ps L) : ∀ i, i ≤ ps.length → ∃ L', Chn (ps.take i) L' ∧ ∀ p, ps[i]? = some p → (p.1 = L'.length + 1 ∨ (p.1 = L'.length ∧ 0 < L'.length)) ∧ ∃ L'', Chn (ps.take (i + 1)) L'' ∧ (p.1 = L'.length + 1 → L'' = L' ++ [[p.2]]) ∧ (¬ p.1 = L'.length + 1 → L'' = addL L' p.2) := by
  induction c with
  | nil => intro i hi; exact ⟨[], by simpa using Chn.nil, fun p h => by simp at h⟩
  | @new ps L e c g ih =>
    intro i hi
    rw [List.length_append] at hi
    by_cases z : i < ps.length
    · obtain ⟨L', c', h⟩ := ih i (Nat.le_of_lt z)
      refine ⟨L', by rw [List.take_append_of_le_length (Nat.le_of_lt z)]; exact c', fun p hp => ?_⟩
      rw [List.getElem?_append_left z] at hp
      rw [List.take_append_of_le_length z]
      exact h p hp
    · by_cases z2 : i = ps.length
      · subst z2
        refine ⟨L, by rw [List.take_left]; exact c, fun p hp => ?_⟩
        rw [List.getElem?_append_right (Nat.le_refl _), Nat.sub_self] at hp
        cases hp
        refine ⟨.inl rfl, L ++ [[e]], ?_, fun _ => rfl, fun z => absurd rfl z⟩
        rw [List.take_of_length_le (by rw [List.length_append]; exact Nat.le_refl _)]
        exact .new c g
      · have hi : i ≤ ps.length + 1 := hi
        refine ⟨L ++ [[e]], by rw [List.take_of_length_le (by rw [List.length_append]; show ps.length + 1 ≤ i; omega)]; exact .new c g, fun p hp => ?_⟩
        rw [List.getElem?_eq_none_iff.mpr (by rw [List.length_append]; show ps.length + 1 ≤ i; omega)] at hp
        cases hp
  | @add ps L es e c g ih =>
    intro i hi
    rw [List.length_append] at hi
    by_cases z : i < ps.length
    · obtain ⟨L', c', h⟩ := ih i (Nat.le_of_lt z)
      refine ⟨L', by rw [List.take_append_of_le_length (Nat.le_of_lt z)]; exact c', fun p hp => ?_⟩
      rw [List.getElem?_append_left z] at hp
      rw [List.take_append_of_le_length z]
      exact h p hp
    · by_cases z2 : i = ps.length
      · subst z2
        refine ⟨L ++ [es], by rw [List.take_left]; exact c, fun p hp => ?_⟩
        rw [List.getElem?_append_right (Nat.le_refl _), Nat.sub_self] at hp
        cases hp
        refine ⟨.inr ⟨by rw [List.length_append]; rfl, by rw [List.length_append]; exact Nat.succ_pos _⟩, L ++ [es ++ [e]], ?_, fun z => absurd z (by rw [List.length_append]; show ¬ (L.length + 1 = L.length + 1 + 1); omega), fun _ => (addL_snoc es e L).symm⟩
        rw [List.take_of_length_le (by rw [List.length_append]; exact Nat.le_refl _)]
        exact .add c g
      · have hi : i ≤ ps.length + 1 := hi
        refine ⟨L ++ [es ++ [e]], by rw [List.take_of_length_le (by rw [List.length_append]; show ps.length + 1 ≤ i; omega)]; exact .add c g, fun p hp => ?_⟩
        rw [List.getElem?_eq_none_iff.mpr (by rw [List.length_append]; show ps.length + 1 ≤ i; omega)] at hp
        cases hp
theorem Chn.uniq0 {ps : List (Nat × Ev)} {L : List (List Ev)} (c : Chn ps L) : ∀ {qs : List (Nat × Ev)} {L' : List (List Ev)}, Chn qs L' → qs = ps → L = L' := by
  induction c with
  | nil =>
    intro qs L' c' e
    cases c' with
    | nil => rfl
    | new _ _ => exact absurd e (by simp)
    | add _ _ => exact absurd e (by simp)
  | new _ _ ih =>
    intro qs L' c' e
    cases c' with
    | nil => exact absurd e.symm (by simp)
    | new d _ =>
      obtain ⟨h1, h2⟩ := List.append_inj' e rfl
      have := ih d h1
      subst this
      have z := congrArg Prod.snd (List.cons.inj h2).1
      dsimp only at z
      rw [z]
    | add d _ =>
      obtain ⟨h1, h2⟩ := List.append_inj' e rfl
      have := ih d h1
      subst this
      have z := congrArg Prod.fst (List.cons.inj h2).1
      rw [List.length_append] at z
      exact absurd z (by show ¬ (_ + 1 = _ + 1 + 1); omega)
  | add _ _ ih =>
    intro qs L' c' e
    cases c' with
    | nil => exact absurd e.symm (by simp)
    | new d _ =>
      obtain ⟨h1, h2⟩ := List.append_inj' e rfl
      have := ih d h1
      subst this
      have z := congrArg Prod.fst (List.cons.inj h2).1
      rw [List.length_append] at z
      exact absurd z (by show ¬ (_ + 1 + 1 = _ + 1); omega)
    | add d _ =>
      obtain ⟨h1, h2⟩ := List.append_inj' e rfl
      obtain ⟨g1, g2⟩ := List.append_inj' (ih d h1) rfl
      subst g1
      cases g2
      have z := congrArg Prod.snd (List.cons.inj h2).1
      dsimp only at z
      rw [z]
theorem Chn.uniq {ps : List (Nat × Ev)} {L L' : List (List Ev)} (c : Chn ps L) (c' : Chn ps L') : L = L' := c.uniq0 c' rfl
def rws (ps : List (Nat × Ev)) : List Str := ps.map fun p => txR p.1 p.2
theorem hAt_good {ps : List (Nat × Ev)} {L : List (List Ev)} (c : Chn ps L) (hz : ps.length ≤ 1000) {ts : List Str} : ∀ i, i ≤ ps.length → (∀ j, j < i → ts[j]? = (rws ps)[j]?) → ∃ L', Chn (ps.take i) L' ∧ hAt ts i = some L'
  | 0, _, _ => ⟨[], by simpa using Chn.nil, rfl⟩
  | i + 1, hi, h => by
    obtain ⟨L', c', e'⟩ := hAt_good c hz i (Nat.le_of_succ_le hi) (fun j hj => h j (Nat.lt_succ_of_lt hj))
    obtain ⟨L1, c1, k1⟩ := c.at i (Nat.le_of_succ_le hi)
    obtain rfl := c1.uniq c'
    have hp : ps[i]? = some ps[i] := List.getElem?_eq_getElem hi
    obtain ⟨m1, L2, c2, k2, k3⟩ := k1 _ hp
    have et : ts[i]? = some (txR ps[i].1 ps[i].2) := by rw [h i (Nat.lt_succ_self _)]; unfold rws; rw [List.getElem?_map, hp]; rfl
    have hm := List.getElem_mem (l := ps) hi
    have hb := c.len.2 _ hm
    have hy := hr_yes (k := (ps[i].1 : Int)) (m := L1.length) (c.good _ hm) (by omega) (Int.lt_of_le_of_lt (show ((ps[i].1 : Nat) : Int) ≤ 1000 by omega) (by decide)) (by omega)
    refine ⟨L2, c2, ?_⟩
    show (hAt ts i).bind _ = _
    rw [e', Option.bind_some, et, Option.bind_some]
    unfold hst
    rw [hy]
    by_cases z : ps[i].1 = L1.length + 1
    · rw [decide_eq_true (by omega), k2 z]
    · rw [decide_eq_false (by omega), k3 z]
def Bad (k : Nat) (z : Str) : Prop := 10 ∉ z.cps.toList ∧ (1 ≤ z.length ∧ z.length ≤ 5000) ∧ ∀ m : Nat, (k = m + 1 ∨ (k = m ∧ 0 < m)) → hr z m = none
def flt : Nat → List (List Ev) → List (Nat × Ev)
  | _, [] => []
  | k, es :: r => es.map (fun e => (k + 1, e)) ++ flt (k + 1) r
theorem flt_snoc (es : List Ev) : ∀ (L : List (List Ev)) (k : Nat), flt k (L ++ [es]) = flt k L ++ es.map (fun e => (k + L.length + 1, e))
  | [], k => by simp [flt]
  | x :: L, k => by
    show x.map _ ++ flt (k + 1) (L ++ [es]) = (x.map _ ++ flt (k + 1) L) ++ _
    rw [flt_snoc es L (k + 1), List.append_assoc, List.length_cons, show k + 1 + L.length + 1 = k + (L.length + 1) + 1 by omega]
theorem Chn.flat {ps : List (Nat × Ev)} {L : List (List Ev)} (c : Chn ps L) : flt 0 L = ps := by
  induction c with
  | nil => rfl
  | @new ps L e _ _ ih => rw [flt_snoc, ih, Nat.zero_add]; rfl
  | @add ps L es e _ _ ih =>
    rw [flt_snoc] at ih ⊢
    rw [List.map_append, ← List.append_assoc, ih, Nat.zero_add]; rfl
theorem jl_free {c : Nat} (hc : c ≠ 32) : ∀ {ps : List Str}, (∀ p ∈ ps, c ∉ p.cps.toList) → c ∉ jl 32 ps
  | [], _ => fun z => nomatch z
  | [x], h => h x List.mem_cons_self
  | x :: y :: r, h => fun z => by
    have z : c ∈ x.cps.toList ++ 32 :: jl 32 (y :: r) := z
    rcases List.mem_append.mp z with z | z
    · exact h x List.mem_cons_self z
    · rcases List.mem_cons.mp z with z | z
      · exact hc z
      · exact jl_free hc (ps := y :: r) (fun p hp => h p (List.mem_cons_of_mem _ hp)) z
theorem wds_10 : ∀ w ∈ wds, 10 ∉ w.cps.toList := by decide
theorem rsn_10 : ∀ w ∈ rsn, 10 ∉ w.cps.toList := by decide
theorem th_10 {e : Ev} (g : Gd e) : 10 ∉ (thS e.2.1).cps.toList := by
  rcases g.2.1 with ⟨_, z, hz, e⟩ | ⟨_, e | ⟨i, e, _⟩⟩
  · rw [e]; exact rsn_10 z hz
  · rw [e]; decide
  · rw [e]; exact tS_free 10 ⟨by decide, by decide⟩ i
theorem prt_10 {e : Ev} (g : Gd e) : ∀ p ∈ prt e.1 e.2.1 e.2.2, 10 ∉ p.cps.toList := by
  intro p hp
  unfold prt at hp
  rcases List.mem_cons.mp hp with rfl | hp
  · exact wds_10 _ g.1
  rcases List.mem_cons.mp hp with rfl | hp
  · exact th_10 g
  · obtain ⟨i, _, rfl⟩ := List.mem_map.mp hp
    exact tS_free 10 ⟨by decide, by decide⟩ i
theorem txE_10 {e : Ev} (g : Gd e) : 10 ∉ (txE e.1 e.2.1 e.2.2).cps.toList := by
  unfold txE
  rw [join_jl]
  exact jl_free (by decide) (prt_10 g)
theorem tS_len2 {j : Int} (h0 : 0 ≤ j) (h1 : j ≤ 2000) : (tS j).length ≤ 61 := tS_len (by omega) (Int.lt_of_le_of_lt h1 (by decide))
theorem len_l {z : Str} {a r : List Nat} (ez : z.cps.toList = a ++ 32 :: r) : z.length = a.length + r.length + 1 := by
  rw [← str_len, ez, List.length_append, List.length_cons]; omega
theorem mem_l {z : Str} {a r : List Nat} (ez : z.cps.toList = a ++ 32 :: r) (h1 : 10 ∉ a) (h2 : 10 ∉ r) : 10 ∉ z.cps.toList := by
  rw [ez]
  intro h
  rcases List.mem_append.mp h with h | h
  · exact h1 h
  · rcases List.mem_cons.mp h with h | h
    · cases h
    · exact h2 h
section
variable {k : Nat} {e : Ev} {z : Str}
theorem row_ok {k : Int} (g : Gd e) (h0 : 0 ≤ k) (h1 : k ≤ 2000) : 10 ∉ (txR k e).cps.toList ∧ (txR k e).length ≤ 2700 ∧ 1 ≤ (txR k e).length := by
  have l1 := tS_len2 h0 h1
  have l2 := (EvG.len g).1
  have l3 := len_l (txR_l k e)
  rw [str_len, str_len] at l3
  exact ⟨mem_l (txR_l k e) (tS_free 10 ⟨by decide, by decide⟩ k) (txE_10 g), by omega, by omega⟩
theorem bad_num (g : Gd e) {j : Int} (h0 : 0 ≤ j) (h1 : j ≤ 2000) (hne : ∀ m : Nat, (k = m + 1 ∨ (k = m ∧ 0 < m)) → j ≠ (m : Int) + 1 ∧ ¬ (j = (m : Int) ∧ 0 < m)) (ez : z.cps.toList = (tS j).cps.toList ++ 32 :: (txE e.1 e.2.1 e.2.2).cps.toList) : Bad k z := by
  have l1 := tS_len2 h0 h1
  have l2 := (EvG.len g).1
  have l3 := len_l ez
  rw [str_len, str_len] at l3
  refine ⟨mem_l ez (tS_free 10 ⟨by decide, by decide⟩ j) (txE_10 g), by omega, fun m hm => ?_⟩
  refine hr_no3 (k := j) ?_ (hne m hm).1 (hne m hm).2
  rw [(p_app ez (tS_free 32 ⟨by decide, by decide⟩ j)).1, sL_self]
  exact valO_tS h0 (Int.lt_of_le_of_lt h1 (by decide))
theorem bad_hd (g : Gd e) {a : List Nat} (ha : 32 ∉ a) (ha2 : 10 ∉ a) (hl : a.length ≤ 100) (hv : valO (sL a) = none) (ez : z.cps.toList = a ++ 32 :: (txE e.1 e.2.1 e.2.2).cps.toList) : Bad k z := by
  have l2 := (EvG.len g).1
  have l3 := len_l ez
  rw [str_len] at l3
  exact ⟨mem_l ez ha2 (txE_10 g), by omega, fun m _ => hr_no1 m (by rw [(p_app ez ha).1]; exact hv)⟩
theorem bad_tl {j : Int} (h0 : 0 ≤ j) (h1 : j ≤ 2000) {ps : List Str} (hn : ps ≠ []) (h32 : ∀ p ∈ ps, 32 ∉ p.cps.toList) (h10 : ∀ p ∈ ps, 10 ∉ p.cps.toList) (hl : (Str.join ⟨#[32]⟩ ps).length ≤ 4000) (hv : evP ps = none)
    (ez : z.cps.toList = (tS j).cps.toList ++ 32 :: (Str.join ⟨#[32]⟩ ps).cps.toList) : Bad k z := by
  have l1 := tS_len2 h0 h1
  have l3 := len_l ez
  rw [str_len, str_len] at l3
  refine ⟨mem_l ez (tS_free 10 ⟨by decide, by decide⟩ j) (by rw [join_jl]; exact jl_free (by decide) h10), by omega, fun m _ => hr_no2 m ?_⟩
  rw [(p_app ez (tS_free 32 ⟨by decide, by decide⟩ j)).2, sL_self, split_join hn h32]
  exact hv
theorem hr_empty (m : Nat) : hr Str.empty m = none := hr_no1 m (by decide)
theorem cut_from {t : Str} {j : Nat} (h : j ≤ t.length) : (cutS t (some (j : Int)) none).cps.toList = t.cps.toList.drop j := by
  have x1 : HT.sIx t.length 0 (some (j : Int)) = j := by
    unfold HT.sIx
    dsimp only
    rw [if_neg (by omega)]
    simp; omega
  have x2 : HT.sIx t.length t.length none = t.length := rfl
  unfold cutS
  rw [x1, x2]
  show (t.cps.toList.drop j).take (t.length - j) = _
  exact List.take_of_length_le (by rw [List.length_drop, str_len]; omega)
theorem cut_row (k : Int) (e : Ev) : (cutS (txR k e) (some ((tS k).length : Int)) none).cps.toList = 32 :: (txE e.1 e.2.1 e.2.2).cps.toList := by
  have l3 := len_l (txR_l k e)
  rw [str_len, str_len] at l3
  rw [cut_from (by omega), txR_l, ← str_len, List.drop_left]
theorem cut_word (k : Int) (e : Ev) : (cutS (txR k e) (some ((tS k).length + 1 + e.1.length : Int)) none).cps.toList = 32 :: (Str.join ⟨#[32]⟩ (thS e.2.1 :: e.2.2.map tS)).cps.toList := by
  have l3 := len_l (txR_l k e)
  rw [str_len, str_len] at l3
  have e1 : (txE e.1 e.2.1 e.2.2).cps.toList = e.1.cps.toList ++ 32 :: (Str.join ⟨#[32]⟩ (thS e.2.1 :: e.2.2.map tS)).cps.toList := by
    unfold txE
    rw [join_jl, join_jl]; rfl
  have l4 := len_l e1
  rw [str_len, str_len] at l4
  have ej : ((tS k).length + 1 + e.1.length : Int) = (((tS k).cps.toList ++ 32 :: e.1.cps.toList).length : Nat) := by
    rw [List.length_append, List.length_cons, str_len, str_len]; omega
  rw [ej, cut_from (by rw [List.length_append, List.length_cons, str_len, str_len]; omega), txR_l, e1]
  rw [show (tS k).cps.toList ++ 32 :: (e.1.cps.toList ++ 32 :: (Str.join ⟨#[32]⟩ (thS e.2.1 :: e.2.2.map tS)).cps.toList) = ((tS k).cps.toList ++ 32 :: e.1.cps.toList) ++ 32 :: (Str.join ⟨#[32]⟩ (thS e.2.1 :: e.2.2.map tS)).cps.toList by simp]
  exact List.drop_left
end
def Sx (l b : Addr) : Addr → Prop := fun x => x = l ∨ x = b
def EvA (H : Hp) (S : Addr → Prop) (a : Addr) (e : Ev) : Prop := ¬ S a ∧ ∃ m, ¬ S m ∧ H a = some (.tup [.str e.1, e.2.1, .ref m]) ∧ H m = some (.lst (e.2.2.map V.int))
def LsA (H : Hp) (S : Addr → Prop) (b : Addr) (es : List Ev) : Prop := ¬ S b ∧ ∃ as : List Addr, H b = some (.lst (as.map V.ref)) ∧ Al (EvA H S) as es
def nS : Addr → Prop := fun _ => False
def LogA (H : Hp) (l : Addr) (L : List (List Ev)) : Prop := ∃ bs : List Addr, H l = some (.lst (bs.map V.ref)) ∧ Al (LsA H nS) bs L
section
variable {H H' H0 : Hp} {S S' : Addr → Prop}
def Kx (S S' : Addr → Prop) (H H' : Hp) : Prop := ∀ x o, ¬ S x → H x = some o → H' x = some o ∧ ¬ S' x
theorem EvA.go {a : Addr} {e : Ev} (h : EvA H S a e) (k : Kx S S' H H') : EvA H' S' a e := by
  obtain ⟨h1, m, h2, h3, h4⟩ := h
  exact ⟨(k _ _ h1 h3).2, m, (k _ _ h2 h4).2, (k _ _ h1 h3).1, (k _ _ h2 h4).1⟩
theorem LsA.go {b : Addr} {es : List Ev} (h : LsA H S b es) (k : Kx S S' H H') : LsA H' S' b es := by
  obtain ⟨h1, as, h2, h3⟩ := h
  exact ⟨(k _ _ h1 h2).2, as, (k _ _ h1 h2).1, h3.mono fun _ _ z => z.go k⟩
theorem kx_same (s : Same H H') : Kx S S H H' := fun x o n h => ⟨s x o h, n⟩
theorem kx_no (s : Same H H') : Kx S nS H H' := fun x o n h => ⟨s x o h, fun z => z⟩
theorem LogA.same {l : Addr} {L : List (List Ev)} (h : LogA H l L) (s : Same H H') : LogA H' l L := by
  obtain ⟨bs, h1, h2⟩ := h
  exact ⟨bs, s _ _ h1, h2.mono fun _ _ z => z.go (kx_same s)⟩
theorem fresh_of {a : Addr} (s : Same H H') (h : H' a = none) : H a = none := by
  cases z : H a with
  | none => rfl
  | some o => have := s _ _ z; rw [h] at this; cases this
structure BldL (H0 H : Hp) (l : Addr) (bs : List Addr) (b : Addr) (as : List Addr) (L : List (List Ev)) (es : List Ev) : Prop where
  l0 : H0 l = none
  b0 : H0 b = none
  ne : b ≠ l
  hl : H l = some (.lst ((bs ++ [b]).map V.ref))
  hb : H b = some (.lst (as.map V.ref))
  old : Al (LsA H (Sx l b)) bs L
  cur : Al (EvA H (Sx l b)) as es
def Bld (H0 H : Hp) (l : Addr) (L : List (List Ev)) : Prop := (H0 l = none ∧ L = [] ∧ H l = some (.lst [])) ∨ ∃ bs b as L' es, L = L' ++ [es] ∧ BldL H0 H l bs b as L' es
theorem BldL.same {l b : Addr} {bs as : List Addr} {L : List (List Ev)} {es : List Ev} (h : BldL H0 H l bs b as L es) (s : Same H H') : BldL H0 H' l bs b as L es :=
  ⟨h.l0, h.b0, h.ne, s _ _ h.hl, s _ _ h.hb, h.old.mono fun _ _ z => z.go (kx_same s), h.cur.mono fun _ _ z => z.go (kx_same s)⟩
theorem Bld.same {l : Addr} {L : List (List Ev)} (h : Bld H0 H l L) (s : Same H H') : Bld H0 H' l L := by
  rcases h with ⟨h0, h1, h2⟩ | ⟨bs, b, as, L', es, e, h⟩
  · exact .inl ⟨h0, h1, s _ _ h2⟩
  · exact .inr ⟨bs, b, as, L', es, e, h.same s⟩
theorem Bld.l0 {l : Addr} {L : List (List Ev)} (h : Bld H0 H l L) : H0 l = none := by
  rcases h with ⟨h0, _⟩ | ⟨_, _, _, _, _, _, h⟩
  · exact h0
  · exact h.l0
theorem Bld.lst {l : Addr} {L : List (List Ev)} (h : Bld H0 H l L) : ∃ bs : List Addr, H l = some (.lst (bs.map V.ref)) ∧ bs.length = L.length := by
  rcases h with ⟨h0, rfl, h⟩ | ⟨bs, b, as, L', es, rfl, h⟩
  · exact ⟨[], h, rfl⟩
  · exact ⟨_, h.hl, by rw [List.length_append, List.length_append, h.old.length]; rfl⟩
theorem Bld.new {l b' : Addr} {L : List (List Ev)} (h : Bld H0 H l L) (n0 : H0 b' = none) (n : H b' = none) : ∃ bs : List Addr, H l = some (.lst (bs.map V.ref)) ∧ bs.length = L.length ∧ BldL H0 (upd (upd H b' (.lst [])) l (.lst ((bs ++ [b']).map V.ref))) l bs b' [] L [] := by
  rcases h with ⟨h0, rfl, h⟩ | ⟨bs, b, as, L', es, rfl, h⟩
  · have ne : b' ≠ l := fun z => by rw [z, h] at n; cases n
    exact ⟨[], h, rfl, h0, n0, ne, upd_same, by rw [upd_ne ne]; exact upd_same, .nil, .nil⟩
  · have ne : b' ≠ l := fun z => by rw [z, h.hl] at n; cases n
    have nb : b ≠ l := h.ne
    have k : Kx (Sx l b) (Sx l b') H (upd (upd H b' (.lst [])) l (.lst (((bs ++ [b]) ++ [b']).map V.ref))) := fun x o hx hh => by
      have z1 : x ≠ l := fun z => hx (.inl z)
      have z2 : x ≠ b' := fun z => by rw [z, n] at hh; cases hh
      exact ⟨by rw [upd_ne z1, upd_ne z2]; exact hh, fun z => z.elim z1 z2⟩
    refine ⟨bs ++ [b], h.hl, by rw [List.length_append, List.length_append, h.old.length]; rfl, h.l0, n0, ne, upd_same, by rw [upd_ne ne]; exact upd_same, (h.old.mono fun _ _ z => z.go k).app ⟨?_, as, ?_, h.cur.mono fun _ _ z => z.go k⟩, .nil⟩
    · rintro (z | z)
      · exact nb z
      · rw [← z, h.hb] at n; cases n
    · rw [upd_ne nb, upd_ne (fun z => by rw [← z, h.hb] at n; cases n)]; exact h.hb
theorem BldL.add {l b a : Addr} {bs as : List Addr} {L : List (List Ev)} {es : List Ev} {e : Ev} (h : BldL H0 H l bs b as L es) (he : EvA H (Sx l b) a e) : BldL H0 (upd H b (.lst ((as ++ [a]).map V.ref))) l bs b (as ++ [a]) L (es ++ [e]) := by
  have k : Kx (Sx l b) (Sx l b) H (upd H b (.lst ((as ++ [a]).map V.ref))) := fun x o hx hh => ⟨by rw [upd_ne (fun z => hx (.inr z))]; exact hh, hx⟩
  exact ⟨h.l0, h.b0, h.ne, by rw [upd_ne h.ne.symm]; exact h.hl, upd_same, h.old.mono fun _ _ z => z.go k, (h.cur.mono fun _ _ z => z.go k).app (he.go k)⟩
theorem Bld.log {l : Addr} {L : List (List Ev)} (h : Bld H0 H l L) : LogA H l L := by
  rcases h with ⟨h0, rfl, h⟩ | ⟨bs, b, as, L', es, rfl, h⟩
  · exact ⟨[], h, .nil⟩
  · exact ⟨_, h.hl, (h.old.mono fun _ _ z => z.go (kx_no (Same.refl _))).app ⟨fun z => z, as, h.hb, h.cur.mono fun _ _ z => z.go (kx_no (Same.refl _))⟩⟩
end
def nl : Str := ⟨#[10]⟩
def goB (o : Option Int) (m : Int) : Bool := match o with
  | some k => decide (k = m + 1) || (decide (k = m) && decide (0 < m))
  | none => false
def S_init (K : PySem.W.Frag) : Sp := fun vs H Q E => ∃ e k, vs = [.ref e, .int k] ∧ ∃ C, H e = some (xnew e (.ref C) none) ∧ XObj K C ∧ XSet K C "row" ∧ 0 ≤ k ∧ k ≤ 100000 ∧ ∀ dx, H dx = none → dx ≠ e → Q .non (upd (upd H e (xnew e (.ref C) (some dx))) dx (.xd [("row", .int k)]))
def S_goes : Sp := fun vs H Q E => ∃ o m, vs = [vO o, .int m] ∧ Q (.bl (goB o m)) H
def rowsOf (t : Str) : List Str := if t = Str.empty then [] else Txt.split t nl
def S_report : Sp := fun vs H Q E => ∃ a, vs = [.ref a] ∧ ∃ L, LogA H a L ∧ (∀ p ∈ flt 0 L, Gd p.2) ∧ L.length ≤ 1000 ∧ (flt 0 L).length ≤ 100 ∧ ∀ H', Same H H' → Q (.str (Str.join nl (rws (flt 0 L)))) H'
def S_heard (C : Addr) : Sp := fun vs H Q E => ∃ t, vs = [.str t] ∧ t.length ≤ 1000000 ∧ (rowsOf t).length ≤ 1000 ∧ (∀ x ∈ rowsOf t, x.length ≤ 10000) ∧
  (∀ L, hAt (rowsOf t) (rowsOf t).length = some L → ∀ a H', Same H H' → LogA H' a L → Q (.ref a) H') ∧
  (∀ (i : Nat) L x, hAt (rowsOf t) i = some L → (rowsOf t)[i]? = some x → hst L x = none → ∀ D H', Same H H' → H' D = some (.xd [("row", .int ((i : Int) + 1))]) → E (.ref C) (some D) H')
section
variable {K : PySem.W.Frag} {C_REFUSALS C_WORDS C_BadRow : Addr} {H : Hp} {Q : VK} {E : XK} {n : St → Hp → Prop} {bk ct : St → Hp → Prop}
theorem TextError___init___rd {e : Addr} {k : Int} (q : ∃ C, H e = some (xnew e (.ref C) none) ∧ XObj K C ∧ XSet K C "row" ∧ 0 ≤ k ∧ k ≤ 100000 ∧ ∀ dx, H dx = none → dx ≠ e → Q .non (upd (upd H e (xnew e (.ref C) (some dx))) dx (.xd [("row", .int k)]))) :
    rd_TextError___init__ K ⟨fun _ H' => Q .non H', Q, bk, ct⟩ [some (.ref e), some (.int k)] H := by
  obtain ⟨C, he, xo, xs, k0, k1, h⟩ := q
  unfold rd_TextError___init__
  walk_at "ev"
  refine ⟨("row " : Str), rfl, by decide, ?_⟩
  walk_at "ev"
  refine .inl ⟨k, rfl, log_ok (by omega) (Int.lt_of_le_of_lt k1 (by decide)), ?_⟩
  have lk : (tS k).length ≤ 61 := tS_len (by omega) (Int.lt_of_le_of_lt k1 (by decide))
  have l1 : ((("row " : Str) ++ tS k)).length = 4 + (tS k).length := by rw [app_len]; rfl
  refine ⟨tS k, rfl, len_ok (by show (("row " : Str) ++ tS k).length ≤ _; omega), i_fs0 (len_ok (by show (("row " : Str) ++ tS k).length ≤ _; omega)) ?_⟩
  walk_at "ev"
  refine ⟨e, _, C, none, rfl, he, xo, ?_⟩
  walk_at "ev"
  exact ⟨e, C, rfl, he, xo, xs, h⟩
theorem goes_on_rd {o : Option Int} {m : Int} (q : Q (.bl (goB o m)) H) : rd_goes_on ⟨n, Q, bk, ct⟩ [some (vO o), some (.int m)] H := by
  unfold rd_goes_on
  cases o with
  | none =>
    dsimp only [vO]
    walk_at "ev"
    exact q
  | some k =>
    have q : Q (.bl (decide (k = m + 1) || (decide (k = m) && decide (0 < m)))) H := q
    dsimp only [vO]
    walk_at "ev"
    refine ifd (fun e => ?_) (fun e => ?_)
    · rw [decide_eq_true e, Bool.true_or] at q
      exact q
    · rw [decide_eq_false e, Bool.false_or] at q
      walk_at "ev"
      refine ifd (fun e2 => ?_) (fun e2 => ?_)
      · rw [decide_eq_true e2, Bool.true_and] at q
        walk_at "ev"
        exact q
      · rw [decide_eq_false e2, Bool.false_and] at q
        exact q
theorem flt_mem : ∀ {L : List (List Ev)} {k i : Nat} {es : List Ev} {e : Ev}, L[i]? = some es → e ∈ es → (k + i + 1, e) ∈ flt k L
  | [], _, _, _, _, h, _ => by simp at h
  | x :: L, k, 0, es, e, h, he => by
    have h : some x = some es := h
    cases h
    exact List.mem_append_left _ (List.mem_map.mpr ⟨e, he, rfl⟩)
  | x :: L, k, i + 1, es, e, h, he => by
    have := flt_mem (L := L) (k := k + 1) (i := i) h he
    rw [show k + 1 + i + 1 = k + (i + 1) + 1 by omega] at this
    exact List.mem_append_right _ this
theorem flt_take : ∀ {L : List (List Ev)} {k i : Nat} {es : List Ev}, L[i]? = some es → flt k (L.take (i + 1)) = flt k (L.take i) ++ es.map (fun e => (k + i + 1, e)) := by
  intro L k i es h
  have e : L.take (i + 1) = L.take i ++ [es] := by rw [List.take_add_one, h]; rfl
  have li : (L.take i).length = i := by
    have := (List.getElem?_eq_some_iff.mp h).1
    rw [List.length_take]; omega
  rw [e, flt_snoc, li]
theorem flt_le : ∀ (L : List (List Ev)) (k i : Nat), (flt k (L.take i)).length ≤ (flt k L).length
  | [], k, i => by simp [flt]
  | x :: L, k, 0 => Nat.zero_le _
  | x :: L, k, i + 1 => by
    show (x.map _ ++ flt (k + 1) (L.take i)).length ≤ (x.map _ ++ flt (k + 1) L).length
    rw [List.length_append, List.length_append]
    have := flt_le L (k + 1) i
    omega
theorem rws_sum : ∀ {ps : List (Nat × Ev)}, (∀ p ∈ ps, Gd p.2 ∧ p.1 ≤ 2000) → ((rws ps).map (·.length)).sum ≤ 2700 * ps.length
  | [], _ => Nat.zero_le _
  | p :: ps, h => by
    have ih := rws_sum (ps := ps) (fun q hq => h q (List.mem_cons_of_mem _ hq))
    have hp := h p List.mem_cons_self
    have := (row_ok (e := p.2) (k := (p.1 : Int)) hp.1 (by omega) (by omega)).2.1
    show (txR p.1 p.2).length + ((rws ps).map (·.length)).sum ≤ 2700 * (ps.length + 1)
    omega
theorem flt_num : ∀ {L : List (List Ev)} {k : Nat} {p : Nat × Ev}, p ∈ flt k L → p.1 ≤ k + L.length
  | [], _, _, h => nomatch h
  | x :: L, k, p, h => by
    rcases List.mem_append.mp h with h | h
    · obtain ⟨e, _, rfl⟩ := List.mem_map.mp h
      show k + 1 ≤ k + (L.length + 1)
      omega
    · have := flt_num (L := L) h
      show p.1 ≤ k + (L.length + 1)
      omega
theorem EvA.row {S : Addr → Prop} {a : Addr} {e : Ev} (h : EvA H S a e) : ∃ l, H a = some (.tup [.str e.1, e.2.1, .ref l]) ∧ H l = some (.lst (e.2.2.map V.int)) := let ⟨_, m, _, h1, h2⟩ := h; ⟨m, h1, h2⟩
theorem report_rd {a : Addr} (q : ∃ L, LogA H a L ∧ (∀ p ∈ flt 0 L, Gd p.2) ∧ L.length ≤ 1000 ∧ (flt 0 L).length ≤ 100 ∧ ∀ H', Same H H' → Q (.str (Str.join nl (rws (flt 0 L)))) H') : rd_report K S_row ⟨n, Q, bk, ct⟩ [some (.ref a), none, none, none] H := by
  obtain ⟨L, ⟨bs, ha, al⟩, g, hL, hf, h⟩ := q
  have lbs := al.length
  unfold rd_report
  walk_at "ev"
  refine ⟨by decide, fun r hr => ?_⟩
  have s1 := same_new hr (.lst [])
  have c1 : upd H r (.lst []) r = some (.lst []) := upd_same
  generalize upd H r (.lst []) = H1 at s1 c1 ⊢
  walk_at "ev"
  refine ⟨a, rfl, ⟨_, SqL.of (s1 _ _ ha)⟩, ?_⟩
  refine forES (bs.map V.ref) (fun i σ H2 => ∃ v2 v3, σ = [some (.ref a), some (.ref r), v2, v3] ∧ Same H H2 ∧ H2 r = some (.lst ((rws (flt 0 (L.take i))).map V.str))) ⟨none, none, rfl, s1, c1⟩ ?_ ?_ ?_
  · rintro i σ H2 _ ⟨v2, v3, rfl, s2, c2⟩; exact SqL.of (s2 _ _ ha)
  · rintro i x t σ H2 hx ⟨v2, v3, rfl, s2, c2⟩ ht
    rw [List.getElem?_map] at hx
    obtain ⟨b, hb, rfl⟩ := Option.map_eq_some_iff.mp hx
    obtain ⟨es, hes, ls⟩ := al.getL hb
    obtain ⟨_, as, has, ale⟩ := ls
    have las := ale.length
    have hil : i < 1000 := Nat.lt_of_lt_of_le (List.getElem?_eq_some_iff.mp hes).1 hL
    have s3 := same_new ht (.tup [.int ((i : Int) + 1), .ref b])
    have c3 : upd H2 t (.tup [.int ((i : Int) + 1), .ref b]) t = some (.tup [.int ((i : Int) + 1), .ref b]) := upd_same
    generalize upd H2 t (.tup [.int ((i : Int) + 1), .ref b]) = H3 at s3 c3 ⊢
    refine ⟨t, _, rfl, SqT.of c3, rfl, ?_⟩
    refine ⟨_, _, rfl, ?_⟩
    walk_at "ev"
    refine ⟨_, _, rfl, ?_⟩
    walk_at "ev"
    refine ⟨rfl, ?_⟩
    walk_at "ev"
    refine ⟨.inl ⟨rfl, _, SqL.of (s3 _ _ c2)⟩, ?_⟩
    walk_at "ev"
    refine i_lcg ?_
    walk_at "ev"
    have cb := s3 _ _ (s2 _ _ has)
    refine ⟨b, rfl, ⟨_, SqL.of cb⟩, ?_⟩
    have les : es.length ≤ 100 := by
      have := flt_le L 0 (i + 1)
      rw [flt_take hes, List.length_append, List.length_map] at this
      omega
    refine lc_newL (SqL.of cb) (by rw [List.length_map]; omega) (fun j y _ => ∃ e, es[j]? = some e ∧ y = .str (txR ((i : Int) + 1) e)) (fun _ _ _ _ z _ => z) (fun x Ha q hq => hq) (fun j x Ha hx sa q hq => ?_) fun ys H5 s5 hyl hy pl hpl => ?_
    · rw [List.getElem?_map] at hx
      obtain ⟨av, hav, rfl⟩ := Option.map_eq_some_iff.mp hx
      obtain ⟨e, he, ea⟩ := ale.getL hav
      obtain ⟨m, r1, r2⟩ := ea.row
      have sH : Same H Ha := s2.trans (s3.trans sa)
      have ge : Gd e := g _ (flt_mem hes (List.mem_of_getElem? he))
      walk_at "caps"
      walk_at "ev"
      refine .inl ⟨_, rfl, log_ok (by omega) (Int.lt_of_le_of_lt (show (i : Int) + 1 ≤ 2000 by omega) (by decide)), ?_⟩
      have lk : (tS ((i : Int) + 1)).length ≤ 61 := tS_len2 (by omega) (by omega)
      have e0 : Str.empty ++ tS ((i : Int) + 1) = tS ((i : Int) + 1) := str_ext (by rw [PyProof.Rows.cps_toList_append]; rfl)
      have l1 : (tS ((i : Int) + 1) ++ (" " : Str)).length = (tS ((i : Int) + 1)).length + 1 := by rw [app_len]; rfl
      refine ⟨tS ((i : Int) + 1), rfl, by rw [e0]; exact len_ok (by omega), ?_⟩
      rw [e0]
      walk_at "ev"
      refine ⟨(" " : Str), rfl, len_ok (by omega), i_fs0 (len_ok (by omega)) ?_⟩
      walk_at "ev"
      refine ⟨av, rfl, m, e.1, e.2.1, e.2.2, sH _ _ r1, sH _ _ r2, ge, fun Hb sb => ?_⟩
      have lt := (EvG.len ge).1
      refine i_catS (len_ok (by omega)) ?_
      exact hq _ _ sb ⟨e, he, rfl⟩
    have ey : ys = (es.map fun e => V.str (txR ((i : Int) + 1) e)) := by
      rw [List.length_map, las] at hyl
      refine List.ext_getElem? fun j => ?_
      rw [List.getElem?_map]
      cases e1 : ys[j]? with
      | none => rw [List.getElem?_eq_none (by have := List.getElem?_eq_none_iff.mp e1; omega)]; rfl
      | some y =>
        obtain ⟨e, he, rfl⟩ := hy j y e1
        rw [he]; rfl
    subst ey
    have s6 := same_new hpl (.lst (es.map fun e => V.str (txR ((i : Int) + 1) e)))
    have s36 := s3.trans (s5.trans s6)
    have nr : pl ≠ r := fun z => by
      have := s5 _ _ (s3 _ _ c2)
      rw [← z, hpl] at this; cases this
    refine ⟨r, pl, _, _, rfl, rfl, s36 _ _ c2, upd_same, ?_, ?_⟩
    · have z1 := flt_le L 0 i
      rw [List.length_map, List.length_map]
      unfold rws
      rw [List.length_map, sizeLine_eq]
      omega
    walk_at "ev"
    refine ⟨_, _, rfl, same_put (s2.trans s36) hr, ?_⟩
    rw [upd_same, flt_take hes]
    unfold rws
    rw [List.map_append, List.map_append, List.map_map, List.map_map, List.map_map]
    congr 3
    refine List.map_congr_left fun e _ => ?_
    show V.str (txR ((i : Int) + 1) e) = V.str (txR (((0 + i + 1 : Nat)) : Int) e)
    rw [show (((0 + i + 1 : Nat)) : Int) = (i : Int) + 1 by omega]
  · rintro σ H2 ⟨v2, v3, rfl, s2, c2⟩
    rw [List.length_map, lbs, List.take_length] at c2
    walk_at "ev"
    have sm := rws_sum (ps := flt 0 L) (fun p hp => ⟨g p hp, by have := flt_num hp; omega⟩)
    refine ⟨("\n" : Str), r, rws (flt 0 L), rfl, rfl, SqL.of c2, by decide, ?_, ?_⟩
    · have : (rws (flt 0 L)).length = (flt 0 L).length := List.length_map _
      omega
    rw [show Txt.join "\n" (rws (flt 0 L)) = Str.join nl (rws (flt 0 L)) from StrLaws.glued_eq_join _ _]
    exact h _ s2
end
theorem hr_go {x : Str} {m : Nat} {e : Ev} (he : evP (Txt.split (pTl x) ⟨#[32]⟩) = some e) : (goB (valO (pHd x)) m = true → ∃ k : Int, valO (pHd x) = some k ∧ (k = (m : Int) + 1 ∨ (k = (m : Int) ∧ 0 < m)) ∧ hr x m = some (decide (k = (m : Int) + 1), e)) ∧ (goB (valO (pHd x)) m = false → hr x m = none) := by
  cases ev : valO (pHd x) with
  | none => exact ⟨fun z => (Bool.false_ne_true z).elim, fun _ => hr_no1 m ev⟩
  | some k =>
    refine ⟨fun z => ?_, fun z => ?_⟩
    · have z : (decide (k = (m : Int) + 1) || (decide (k = (m : Int)) && decide ((0 : Int) < (m : Int)))) = true := z
      simp only [Bool.or_eq_true, Bool.and_eq_true, decide_eq_true_eq] at z
      refine ⟨k, rfl, by omega, ?_⟩
      unfold hr
      rw [ev, he]
      show (if k = (m : Int) + 1 then some (true, e) else if k = (m : Int) ∧ 0 < m then some (false, e) else none) = _
      by_cases z1 : k = (m : Int) + 1
      · rw [if_pos z1, decide_eq_true z1]
      · rw [if_neg z1, decide_eq_false z1, if_pos (by omega)]
    · have z : (decide (k = (m : Int) + 1) || (decide (k = (m : Int)) && decide ((0 : Int) < (m : Int)))) = false := z
      rw [Bool.or_eq_false_iff, Bool.and_eq_false_iff, decide_eq_false_iff_not, decide_eq_false_iff_not, decide_eq_false_iff_not] at z
      exact hr_no3 ev z.1 (by omega)
theorem part_len (x : Str) : (pHd x).length ≤ x.length ∧ (pTl x).length ≤ x.length := by
  have h1 := PyProof.Rows.fact_partition x ⟨#[32]⟩
  rw [(part_eq x).1, (part_eq x).2] at h1
  exact ⟨h1.1, h1.2.2⟩
theorem at_last {α : Type} (xs : List α) (x : α) : atI (xs ++ [x]) (-1) = some x := by
  have e : ixN (xs ++ [x]).length (-1) = some xs.length := by
    unfold ixN
    rw [if_neg (by omega), List.length_append]
    rw [if_pos (by show -((xs.length + 1 : Nat) : Int) ≤ -1; omega)]
    congr 1
    show ((xs.length + 1 : Nat) + (-1 : Int)).toNat = xs.length
    omega
  unfold atI
  rw [e, Option.bind_some, List.getElem?_append_right (Nat.le_refl _), Nat.sub_self]
  rfl
theorem refs_strs {as : List Addr} {rs : List Str} (h : rs ≠ []) : (HO.lst (as.map V.ref)) ≠ .lst (rs.map V.str) := by
  intro z
  injection z with z
  cases rs with
  | nil => exact h rfl
  | cons r rs =>
    cases as with
    | nil => cases z
    | cons a as => injection z with z1 z2; cases z1
section
variable {K : PySem.W.Frag} {C_REFUSALS C_WORDS C_BadRow : Addr} {H : Hp} {Q : VK} {E : XK} {n : St → Hp → Prop} {bk ct : St → Hp → Prop}
theorem heard_loop (T : TxE K C_REFUSALS C_WORDS C_BadRow) {t : Str} {l p : Addr} {H1 : Hp} (s1 : Same H H1) (hp : H1 p = some (.lst ((rowsOf t).map V.str))) (hb : Bld H H1 l [])
    (q : (rowsOf t).length ≤ 1000 ∧ (∀ x ∈ rowsOf t, x.length ≤ 10000) ∧
  (∀ L, hAt (rowsOf t) (rowsOf t).length = some L → ∀ a H', Same H H' → LogA H' a L → Q (.ref a) H') ∧
  (∀ (i : Nat) L x, hAt (rowsOf t) i = some L → (rowsOf t)[i]? = some x → hst L x = none → ∀ D H', Same H H' → H' D = some (.xd [("row", .int ((i : Int) + 1))]) → E (.ref C_BadRow) (some D) H')) :
    rd_heard_t0_2 K C_BadRow (S_init K) S_of S_goes S_num E ⟨n, Q, bk, ct⟩ [some (.str t), some (.ref l), some (.ref p), none, none, none, none, none] H1 := by
  obtain ⟨hn, hx, hQ, hE⟩ := q
  unfold rd_heard_t0_2
  generalize rowsOf t = rs at *
  walk_at "ev"
  refine ⟨p, rfl, ⟨_, SqL.of hp⟩, ?_⟩
  refine forES (rs.map V.str) (fun i σ H2 => ∃ L v3 v4 v5 v6 v7, σ = [some (.str t), some (.ref l), some (.ref p), v3, v4, v5, v6, v7] ∧ hAt rs i = some L ∧ (L.length ≤ i ∧ ∀ es ∈ L, es.length ≤ i) ∧ Bld H H2 l L ∧ Same H H2 ∧ H2 p = some (.lst (rs.map V.str))) ⟨[], none, none, none, none, none, rfl, rfl, ⟨Nat.le_refl _, fun _ z => nomatch z⟩, hb, s1, hp⟩ ?_ ?_ ?_
  · rintro i σ H2 _ ⟨L, v3, v4, v5, v6, v7, rfl, _, _, _, _, c2⟩; exact SqL.of c2
  · rintro i y t' σ H2 hy ⟨L, v3, v4, v5, v6, v7, rfl, hL, ⟨hLi, hLe⟩, hb2, s2, c2⟩ ht'
    rw [List.getElem?_map] at hy
    obtain ⟨x, hxi, rfl⟩ := Option.map_eq_some_iff.mp hy
    have hxl := hx x (List.mem_of_getElem? hxi)
    have hi := (List.getElem?_eq_some_iff.mp hxi).1
    obtain ⟨pl1, pl2⟩ := part_len x
    have s3 := same_new ht' (.tup [.int ((i : Int) + 1), .str x])
    have c3 : upd H2 t' (.tup [.int ((i : Int) + 1), .str x]) t' = some (.tup [.int ((i : Int) + 1), .str x]) := upd_same
    generalize upd H2 t' (.tup [.int ((i : Int) + 1), .str x]) = H3 at s3 c3 ⊢
    refine ⟨t', _, rfl, SqT.of c3, rfl, ?_⟩
    refine ⟨_, _, rfl, ?_⟩
    walk_at "ev"
    refine ⟨_, _, rfl, ?_⟩
    walk_at "ev"
    refine ⟨rfl, ?_⟩
    walk_at "ev"
    refine ⟨x, _, rfl, rfl, by decide, by omega, fun pt hpt => ?_⟩
    rw [e_blank, (part_eq x).1, (part_eq x).2]
    have s4 := same_new hpt (.tup [.str (pHd x), .str (Txt.partition x ⟨#[32]⟩).2.1, .str (pTl x)])
    have c4 : upd H3 pt (.tup [.str (pHd x), .str (Txt.partition x ⟨#[32]⟩).2.1, .str (pTl x)]) pt = some (.tup [.str (pHd x), .str (Txt.partition x ⟨#[32]⟩).2.1, .str (pTl x)]) := upd_same
    generalize upd H3 pt (.tup [.str (pHd x), .str (Txt.partition x ⟨#[32]⟩).2.1, .str (pTl x)]) = H4 at s4 c4 ⊢
    walk_at "ev"
    refine ⟨pt, _, 0, _, rfl, rfl, SqT.of c4, rfl, ?_⟩
    walk_at "ev"
    refine ⟨pHd x, .non, rfl, by omega, .inl rfl, fun H5 s5 => ?_⟩
    rw [num_non]
    walk_at "ev"
    refine ⟨pt, _, 2, _, rfl, rfl, SqT.of (s5 _ _ c4), rfl, ?_⟩
    walk_at "ev"
    refine ⟨pTl x, rfl, by omega, fun v H6 s6 hv => ?_⟩
    have s26 : Same H2 H6 := s3.trans (s4.trans (s5.trans s6))
    have b5 : Bld H H5 l L := hb2.same (s3.trans (s4.trans s5))
    have b6 : Bld H H6 l L := hb2.same s26
    have c6 := s26 _ _ c2
    have sH6 : Same H H6 := s2.trans s26
    have rne : rs ≠ [] := fun z => by rw [z] at hi; exact absurd hi (Nat.not_lt_zero _)
    have bad : hst L x = none → [V.int ((i : Int) + 1)].length ≤ 100 ∧ ∀ e : Addr, H6 e = none → S_init K [.ref e, .int ((i : Int) + 1)] (upd H6 e (xnew e (.ref C_BadRow) none)) (fun v H2 => v = .non ∧ ∃ dx, H2 e = some (xnew e (.ref C_BadRow) dx) ∧ E (.ref C_BadRow) dx (del H2 e)) E0 := by
      intro hb
      refine ⟨by show 1 ≤ 100; decide, fun e0 he0 => ⟨e0, _, rfl, C_BadRow, upd_same, T.xo, T.xs, by omega, by omega, fun dx hdx ne => ⟨rfl, some dx, ?_, ?_⟩⟩⟩
      · rw [upd_ne (Ne.symm ne), upd_same]
      · rw [upd_ne ne] at hdx
        refine hE i L x hL hxi hb dx _ (fun b o hbo => ?_) ?_
        · have h6 := sH6 _ _ hbo
          have n1 : b ≠ e0 := ne_of_none h6 he0
          have n2 : b ≠ dx := ne_of_none h6 hdx
          rw [del_ne n1, upd_ne n2, upd_ne n1, upd_ne n1]
          exact h6
        · rw [del_ne ne, upd_same]
    obtain ⟨bs0, hl6, lbs⟩ := b6.lst
    cases he : evP (Txt.split (pTl x) ⟨#[32]⟩) with
    | none =>
      rw [he] at hv
      obtain rfl : v = .non := hv
      walk_at "ev"
      exact bad (by unfold hst; rw [hr_no2 _ he])
    | some e =>
      rw [he] at hv
      obtain ⟨a, m, rfl, na, nm, ha, hm⟩ := hv
      obtain ⟨g1, g2⟩ := hr_go (m := L.length) he
      walk_at "ev"
      refine i_lenL (SqL.of hl6) ?_
      rw [List.length_map, lbs]
      walk_at "ev"
      refine ⟨_, _, rfl, ?_⟩
      cases gb : goB (valO (pHd x)) (L.length : Int) with
      | false =>
        walk_at "ev"
        exact bad (by unfold hst; rw [g2 gb])
      | true =>
        obtain ⟨k, ek, hk, hrx⟩ := g1 gb
        rw [ek]
        dsimp only [vO]
        walk_at "ev"
        refine i_lenL (SqL.of hl6) ?_
        rw [List.length_map, lbs]
        walk_at "ev"
        have evS : ∀ {b : Addr} {o : HO}, H5 b = some o → b ≠ a ∧ b ≠ m := fun {b o} hb => ⟨ne_of_none hb na, ne_of_none hb nm⟩
        have fin : ∀ {H7 : Hp} {bs as : List Addr} {b : Addr} {L' : List (List Ev)} {es : List Ev}, BldL H H7 l bs b as L' es → Same H H7 → H7 p = some (.lst (rs.map V.str)) → b ≠ p → EvA H7 (Sx l b) a e → as.length ≤ 1000000 → hAt rs (i + 1) = some (L' ++ [es ++ [e]]) → (L' ++ [es]).length ≤ i + 1 → (∀ fs ∈ L' ++ [es], fs.length ≤ i) →
            rIxL K (.ref l) (.int (-1)) H7 fun x1 H1 => tyV K "list" x1 H1 ∧ tCons (tVar 7) tNil [some (.str t), some (.ref l), some (.ref p), some (.int ((i : Int) + 1)), some (.str x), some (.ref pt), some (.int k), some (.ref a)] H1 fun xs H2 => rAppend x1 xs H2 fun _ H1 => ∃ L v3 v4 v5 v6 v7, [some (V.str t), some (.ref l), some (.ref p), some (.int ((i : Int) + 1)), some (.str x), some (.ref pt), some (.int k), some (.ref a)] = [some (V.str t), some (.ref l), some (.ref p), v3, v4, v5, v6, v7] ∧ hAt rs (i + 1) = some L ∧ (L.length ≤ i + 1 ∧ ∀ es ∈ L, es.length ≤ i + 1) ∧ Bld H H1 l L ∧ Same H H1 ∧ H1 p = some (.lst (rs.map V.str)) := by
          intro H7 bs as b L' es bl sH7 hp7 nbp ea las hA hlen hfs
          refine i_ixL (SqL.of bl.hl) (by rw [List.map_append]; exact at_last _ _) ?_
          walk_at "ev"
          refine ⟨.inl ⟨rfl, _, SqL.of bl.hb⟩, ?_⟩
          walk_at "ev"
          refine ⟨b, _, _, rfl, rfl, bl.hb, by rw [List.length_map, sizeLine_eq]; omega, ?_⟩
          have ea2 := bl.add ea
          rw [List.map_append] at ea2
          refine ⟨L' ++ [es ++ [e]], _, _, _, _, _, rfl, hA, ⟨by rw [List.length_append] at hlen ⊢; exact hlen, fun fs hf => ?_⟩, .inr ⟨bs, b, as ++ [a], L', es ++ [e], rfl, ea2⟩, same_put sH7 bl.b0, by rw [upd_ne (Ne.symm nbp)]; exact hp7⟩
          rcases List.mem_append.mp hf with hf | hf
          · exact Nat.le_succ_of_le (hfs fs (List.mem_append_left _ hf))
          · rw [List.mem_singleton.mp hf, List.length_append]
            exact Nat.succ_le_succ (hfs es (List.mem_append_right _ List.mem_cons_self))
        have st : hAt rs (i + 1) = hst L x := by
          show (hAt rs i).bind _ = _
          rw [hL, Option.bind_some, hxi]; rfl
        unfold hst at st
        rw [hrx] at st
        refine ifd (fun e1 => ?_) (fun e1 => ?_)
        · have e2 : k = (L.length : Int) + 1 := by omega
          rw [decide_eq_true e2] at st
          walk_at "ev"
          refine ⟨.inl ⟨rfl, _, SqL.of hl6⟩, ?_⟩
          walk_at "ev"
          refine ⟨by decide, fun b' hb' => ?_⟩
          have s7 := same_new hb' (.lst [])
          obtain ⟨bs, q1, q2, bl⟩ := b6.new (fresh_of sH6 hb') hb'
          have nbl : b' ≠ l := bl.ne
          rw [List.map_append] at bl
          refine ⟨l, bs.map V.ref, _, rfl, rfl, s7 _ _ q1, by rw [List.length_map, sizeLine_eq]; omega, ?_⟩
          walk_at "es"
          have npl : p ≠ l := fun z => by rw [z, q1] at c6; exact refs_strs rne (Option.some.inj c6)
          have npb : b' ≠ p := fun z => by rw [← z, hb'] at c6; cases c6
          have sH8 : Same H (upd (upd H6 b' (.lst [])) l (.lst (bs.map V.ref ++ [.ref b']))) := same_put (same_put sH6 (fresh_of sH6 hb')) b6.l0
          have l5 := b5.lst
          obtain ⟨bs5, hl5, _⟩ := l5
          refine fin bl sH8 (by rw [upd_ne npl, upd_ne (Ne.symm npb)]; exact c6) npb ?_ (Nat.zero_le _) (by rw [st]; rfl) (by rw [List.length_append]; show L.length + 1 ≤ i + 1; omega) (fun fs hf => (List.mem_append.mp hf).elim (hLe fs) (fun z => by rw [List.mem_singleton.mp z]; exact Nat.zero_le _))
          have n1 := evS hl5
          have n2 : b' ≠ a := fun z => by rw [← z, hb'] at ha; cases ha
          have n3 : b' ≠ m := fun z => by rw [← z, hb'] at hm; cases hm
          refine ⟨fun z => z.elim (fun z => n1.1 z.symm) (fun z => n2 z.symm), m, fun z => z.elim (fun z => n1.2 z.symm) (fun z => n3 z.symm), ?_, ?_⟩
          · rw [upd_ne (Ne.symm n1.1), upd_ne (Ne.symm n2)]; exact ha
          · rw [upd_ne (Ne.symm n1.2), upd_ne (Ne.symm n3)]; exact hm
        · have e2 : ¬ k = (L.length : Int) + 1 := by omega
          rw [decide_eq_false e2] at st
          have hpos : 0 < L.length := (hk.resolve_left e2).2
          walk_at "es"
          rcases b5 with ⟨_, rfl, _⟩ | ⟨bs, b, as, L', es, rfl, bl5⟩
          · exact absurd hpos (Nat.lt_irrefl _)
          have bl6 := bl5.same s6
          have n1 := evS bl5.hl
          have n2 := evS bl5.hb
          have npb : b ≠ p := fun z => by
            have := bl6.hb
            rw [z, c6] at this
            exact refs_strs rne (Option.some.inj this).symm
          refine fin bl6 sH6 c6 npb ⟨fun z => z.elim (fun z => n1.1 z.symm) (fun z => n2.1 z.symm), m, fun z => z.elim (fun z => n1.2 z.symm) (fun z => n2.2 z.symm), ha, hm⟩ (by rw [bl6.cur.length]; have := hLe es (List.mem_append_right _ List.mem_cons_self); omega) (by rw [st]; exact congrArg some (addL_snoc es e L')) (by omega) hLe
  · rintro σ H2 ⟨L, v3, v4, v5, v6, v7, rfl, hL, _, hb2, s2, c2⟩
    rw [List.length_map] at hL
    walk_at "ev"
    exact hQ L hL l _ s2 hb2.log
theorem heard_rd (T : TxE K C_REFUSALS C_WORDS C_BadRow) {t : Str} (q : t.length ≤ 1000000 ∧ (rowsOf t).length ≤ 1000 ∧ (∀ x ∈ rowsOf t, x.length ≤ 10000) ∧
  (∀ L, hAt (rowsOf t) (rowsOf t).length = some L → ∀ a H', Same H H' → LogA H' a L → Q (.ref a) H') ∧
  (∀ (i : Nat) L x, hAt (rowsOf t) i = some L → (rowsOf t)[i]? = some x → hst L x = none → ∀ D H', Same H H' → H' D = some (.xd [("row", .int ((i : Int) + 1))]) → E (.ref C_BadRow) (some D) H')) :
    rd_heard K C_BadRow (S_init K) S_of S_goes S_num E ⟨n, Q, bk, ct⟩ [some (.str t), none, none, none, none, none, none, none] H := by
  obtain ⟨ht, q⟩ := q
  unfold rd_heard
  walk_at "ev"
  refine ⟨by decide, fun l hl => ?_⟩
  have s1 := same_new hl (.lst [])
  have c1 : upd H l (.lst []) l = some (.lst []) := upd_same
  generalize upd H l (.lst []) = H1 at s1 c1 ⊢
  walk_at "ev"
  refine ifnd (fun z => ?_) (fun z => ?_)
  · walk_at "ev"
    refine ⟨t, _, rfl, rfl, by decide, ht, fun p hp => ?_⟩
    have e : Txt.split t "\n" = rowsOf t := by unfold rowsOf; rw [if_neg (show ¬ t = Str.empty from z)]; rfl
    rw [e]
    have s2 := same_new hp (.lst ((rowsOf t).map V.str))
    exact heard_loop T (s1.trans s2) upd_same (.inl ⟨hl, rfl, s2 _ _ c1⟩) q
  · walk_at "ev"
    refine ⟨by decide, fun p hp => ?_⟩
    have e : rowsOf t = [] := by unfold rowsOf; rw [if_pos (show t = Str.empty from z)]
    have s2 := same_new hp (.lst [])
    exact heard_loop T (s1.trans s2) (by rw [e]; exact upd_same) (.inl ⟨hl, rfl, s2 _ _ c1⟩) q
end
def S_text : Sp := fun vs H Q E => ∃ k a, vs = [.int k, .ref a] ∧ ∃ e S, EvA H S a e ∧ Gd e ∧ 0 ≤ k ∧ k ≤ 2000 ∧ Q (.str (txR k e)) H
def S_by : Sp := fun vs H Q E => ∃ c k, vs = [.int c, .int k] ∧ Builtin.Int.intBits c ≤ 2 ^ 20 ∧ 0 ≤ k ∧ k ≤ 100 ∧ ∀ a m e H', Same H H' → H a = none → H m = none → H' a = some (.tup [.str e.1, e.2.1, .ref m]) → H' m = some (.lst (e.2.2.map V.int)) → Gd e → Q (.ref a) H'
theorem txR_snoc (k : Int) (w : Str) (tv : V) (ns : List Int) (m : Int) : txR k (w, tv, ns ++ [m]) = txR k (w, tv, ns) ++ ⟨#[32]⟩ ++ tS m := by
  unfold txR
  show Str.join ⟨#[32]⟩ (tS k :: w :: thS tv :: (ns ++ [m]).map tS) = _
  rw [List.map_append]
  exact join_snoc (ps := tS k :: w :: thS tv :: ns.map tS) (by simp)
section
variable {K : PySem.W.Frag} {H : Hp} {Q : VK} {E : XK} {n : St → Hp → Prop} {bk ct : St → Hp → Prop}
theorem _law_text_of_rd {k : Int} {a : Addr} (q : ∃ e S, EvA H S a e ∧ Gd e ∧ 0 ≤ k ∧ k ≤ 2000 ∧ Q (.str (txR k e)) H) : rd__law_text_of K ⟨n, Q, bk, ct⟩ [some (.int k), some (.ref a), none, none] H := by
  obtain ⟨⟨w, tv, ns⟩, S, ⟨_, l, _, ha, hl⟩, g, k0, k1, h⟩ := q
  have g : EvG w tv ns := g
  dsimp only at ha hl
  have lw := (wds_ok w g.1).2.1
  have lk := tS_len2 k0 k1
  unfold rd__law_text_of
  have go : ∀ z : Str, z = txR k (w, tv, []) → tSeq (tFor (iList K (tOp (rIxT K) (tVar 1) (tC (.int 2)))) (gName 3)
      (tAsg (tOp (G.rCatS) (tOp (G.rCatS) (tVar 2) (tC (.str " "))) (tCB (G.cStrI) (tCons (tVar 3) tNil))) (gName 2)))
      (tRet (tVar 2)) ⟨n, Q, bk, ct⟩ [some (.int k), some (.ref a), some (.str z), none] H := by
    intro z ez
    walk_at "ev"
    refine ⟨a, _, 2, _, rfl, rfl, SqT.of ha, rfl, ?_⟩
    refine ⟨l, rfl, ⟨_, SqL.of hl⟩, ?_⟩
    refine forL (ns.map V.int) (fun i σ H2 => ∃ v2, σ = [some (.int k), some (.ref a), some (.str (txR k (w, tv, ns.take i))), v2] ∧ H2 = H) ⟨none, by rw [ez]; rfl, rfl⟩ ?_ ?_ ?_
    · rintro i σ H2 _ ⟨v2, rfl, rfl⟩; exact SqL.of hl
    · rintro i x σ H2 hx ⟨v2, rfl, rfl⟩
      rw [List.getElem?_map] at hx
      obtain ⟨m, hm, rfl⟩ := Option.map_eq_some_iff.mp hx
      have hmi := g.2.2.2 m (List.mem_of_getElem? hm)
      have gi : EvG w tv (ns.take i) := ⟨g.1, g.2.1, by rw [List.length_take]; have := g.2.2.1; omega, fun x hx => g.2.2.2 x (List.mem_of_mem_take hx)⟩
      have li := (row_ok (e := (w, tv, ns.take i)) gi k0 k1).2.1
      have e1 : (txR k (w, tv, ns.take i) ++ (" " : Str)).length = (txR k (w, tv, ns.take i)).length + 1 := by rw [app_len]; rfl
      walk_at "ev"
      refine i_catS (len_ok (by show _ + 1 ≤ _; omega)) ?_
      walk_at "ev"
      refine i_strI hmi.1 (Int.lt_trans hmi.2 (by decide)) fun t et t1 t2 => ?_
      refine i_catS (len_ok (by rw [e1]; omega)) ?_
      walk_at "ev"
      refine ⟨some (.int m), ?_, rfl⟩
      have e3 : ns.take (i + 1) = ns.take i ++ [m] := by rw [List.take_add_one, hm]; rfl
      rw [e3, txR_snoc, et]
      rfl
    · rintro σ H2 ⟨v2, rfl, rfl⟩
      rw [List.length_map, List.take_length]
      walk_at "ev"
      exact h
  have l1 : (tS k ++ (" " : Str)).length = (tS k).length + 1 := by rw [app_len]; rfl
  have l2 : (tS k ++ (" " : Str) ++ w).length = (tS k).length + 1 + w.length := by rw [app_len, l1]
  have l3 : (tS k ++ (" " : Str) ++ w ++ (" " : Str)).length = (tS k).length + 1 + w.length + 1 := by rw [app_len, l2]; rfl
  have ej : txR k (w, tv, []) = tS k ++ (" " : Str) ++ w ++ (" " : Str) ++ thS tv := by
    refine str_ext ?_
    unfold txR
    rw [join_jl]
    simp only [PyProof.Rows.cps_toList_append, List.append_assoc]
    rfl
  walk_at "ev"
  refine i_strI k0 (Int.lt_of_le_of_lt k1 (by decide)) fun t et t1 t2 => ?_
  obtain rfl : t = tS k := et
  walk_at "ev"
  refine i_catS (len_ok (by show _ + 1 ≤ _; omega)) ?_
  walk_at "ev"
  refine ⟨a, _, 0, _, rfl, rfl, SqT.of ha, rfl, ?_⟩
  refine i_catS (len_ok (by rw [l1]; omega)) ?_
  walk_at "ev"
  refine i_catS (len_ok (by rw [l2]; show _ + 1 ≤ _; omega)) ?_
  walk_at "ev"
  refine ⟨a, _, 1, _, rfl, rfl, SqT.of ha, rfl, ?_⟩
  rcases g.2.1 with ⟨_, z, hz, rfl⟩ | ⟨_, rfl | ⟨i, rfl, h0, h1⟩⟩
  · walk_at "ev"
    refine ⟨a, _, 1, _, rfl, rfl, SqT.of ha, rfl, ?_⟩
    walk_at "ev"
    have := (rsn_ok z hz).2
    refine .inr ⟨z, rfl, i_catS (len_ok (by rw [l3]; omega)) ?_⟩
    exact go _ ej.symm
  · walk_at "ev"
    refine i_catS (len_ok (by rw [l3]; show _ + 1 ≤ _; omega)) ?_
    exact go _ ej.symm
  · walk_at "ev"
    refine ⟨a, _, 1, _, rfl, rfl, SqT.of ha, rfl, ?_⟩
    walk_at "ev"
    have := tS_len h0 h1
    refine .inl ⟨i, rfl, ?_, i_catS (len_ok (by rw [l3]; show _ + (tS i).length ≤ _; omega)) ?_⟩
    · exact log_ok h0 h1
    exact go _ ej.symm
theorem by_t6 {c k way : Int} {w : Str} {tv : V} {Hx : Hp} (sx : Same H Hx) (k0 : 0 ≤ k) (k1 : k ≤ 100) (hw : w ∈ wds) (ht : (w = rfd ∧ ∃ z ∈ rsn, tv = .str z) ∨ (w ≠ rfd ∧ (tv = .non ∨ ∃ i : Int, tv = .int i ∧ -(10 ^ 60) < i ∧ i < 10 ^ 60)))
    (h : ∀ a m e H', Same H H' → H a = none → H m = none → H' a = some (.tup [.str e.1, e.2.1, .ref m]) → H' m = some (.lst (e.2.2.map V.int)) → Gd e → Q (.ref a) H') :
    rd__law_event_by_t0_6 K ⟨n, Q, bk, ct⟩ [some (.int c), some (.int k), some (.int way), some (.str w), some tv, none] Hx := by
  unfold rd__law_event_by_t0_6
  walk_at "ev"
  refine i_lcg ?_
  walk_at "ev"
  have m0 : 0 ≤ way / 114 % 4 := by omega
  have m1 : way / 114 % 4 < 4 := by omega
  generalize way / 114 % 4 = mm at m0 m1 ⊢
  refine ⟨_, rfl, by omega, by omega, ?_⟩
  refine lc_newR rfl (by omega) (fun i y _ => ∃ z : Int, y = .int z ∧ 0 ≤ z ∧ z < 10 ^ 60) (fun _ _ _ _ z _ => z) (fun i H1 q hq => hq) (fun i H1 hi s1 q hq => ?_) fun ys H2 s2 hyl hy p hp => ?_
  · have hi' : (i : Int) < 4 := by omega
    walk_at "caps"
    walk_at "ev"
    rw [p60]
    walk_at "ev"
    refine ⟨by decide, fun l hl => ?_⟩
    have s3 := same_new hl (.lst [.int 10, .int (10 ^ 60)])
    have c3 : upd H1 l (.lst [.int 10, .int (10 ^ 60)]) l = some (.lst [.int 10, .int (10 ^ 60)]) := upd_same
    generalize upd H1 l (.lst [.int 10, .int (10 ^ 60)]) = H3 at s3 c3 ⊢
    walk_at "ev"
    have j0 : 0 ≤ way / 57 % 2 := by omega
    have j1 : way / 57 % 2 < 2 := by omega
    generalize way / 57 % 2 = jj at j0 j1 ⊢
    have two : jj = 0 ∨ jj = 1 := by omega
    rcases two with rfl | rfl
    · refine i_ixL (SqL.of c3) (atI_int (by decide) rfl) ?_
      walk_at "ev"
      exact hq _ _ s3 ⟨_, rfl, Int.emod_nonneg _ (by decide), Int.lt_trans (Int.emod_lt_of_pos _ (by decide)) (by decide)⟩
    · refine i_ixL (SqL.of c3) (atI_int (by decide) rfl) ?_
      refine i_I (by decide) ?_
      exact hq _ _ s3 ⟨_, rfl, Int.emod_nonneg _ (by decide), Int.emod_lt_of_pos _ (by decide)⟩
  have ey : ∃ ns : List Int, ys = ns.map V.int ∧ ns.length ≤ 40 ∧ ∀ z ∈ ns, 0 ≤ z ∧ z < 10 ^ 60 := by
    have gen : ∀ ys : List V, (∀ y ∈ ys, ∃ z : Int, y = .int z ∧ 0 ≤ z ∧ z < 10 ^ 60) → ∃ ns : List Int, ys = ns.map V.int ∧ ∀ z ∈ ns, 0 ≤ z ∧ z < 10 ^ 60 := by
      intro ys
      induction ys with
      | nil => intro _; exact ⟨[], rfl, fun _ z => nomatch z⟩
      | cons y ys ih =>
        intro h
        obtain ⟨z, rfl, hz⟩ := h _ List.mem_cons_self
        obtain ⟨ns, rfl, hn⟩ := ih (fun y hy => h y (List.mem_cons_of_mem _ hy))
        exact ⟨z :: ns, rfl, fun x hx => (List.mem_cons.mp hx).elim (fun e => by rw [e]; exact hz) (hn x)⟩
    obtain ⟨ns, rfl, hn⟩ := gen ys (fun y hy0 => by
      obtain ⟨i, hi⟩ := List.getElem?_of_mem hy0
      exact hy i y hi)
    refine ⟨ns, rfl, ?_, hn⟩
    rw [List.length_map] at hyl
    omega
  obtain ⟨ns, rfl, ln, hn⟩ := ey
  have s3 := same_new hp (.lst (ns.map V.int))
  have c3 : upd H2 p (.lst (ns.map V.int)) p = some (.lst (ns.map V.int)) := upd_same
  generalize upd H2 p (.lst (ns.map V.int)) = H3 at s3 c3 ⊢
  walk_at "ev"
  refine ⟨by show 3 ≤ _; decide, fun a ha => ?_⟩
  have s4 := same_new ha (.tup [.str w, tv, .ref p])
  exact h a p (w, tv, ns) _ (sx.trans (s2.trans (s3.trans s4))) (fresh_of (sx.trans (s2.trans s3)) ha) (fresh_of (sx.trans s2) hp) upd_same (s4 _ _ c3) ⟨hw, ht, ln, hn⟩
theorem by_t5 {c k way : Int} {w : Str} {tv : V} {Hx : Hp} (sx : Same H Hx) (k0 : 0 ≤ k) (k1 : k ≤ 100) (hw : w ∈ wds) (ht : tv = .non ∨ ∃ i : Int, tv = .int i ∧ -(10 ^ 60) < i ∧ i < 10 ^ 60)
    (h : ∀ a m e H', Same H H' → H a = none → H m = none → H' a = some (.tup [.str e.1, e.2.1, .ref m]) → H' m = some (.lst (e.2.2.map V.int)) → Gd e → Q (.ref a) H') :
    rd__law_event_by_t0_5 K ⟨n, Q, bk, ct⟩ [some (.int c), some (.int k), some (.int way), some (.str w), some tv, none] Hx := by
  unfold rd__law_event_by_t0_5
  walk_at "ev"
  refine ifd (fun e => ?_) (fun e => ?_)
  · walk_at "ev"
    refine ⟨by decide, fun l3 hl3 => ?_⟩
    have s3 := same_new hl3 (.lst (rsn.map V.str))
    have c3 : upd Hx l3 (.lst (rsn.map V.str)) l3 = some (.lst (rsn.map V.str)) := upd_same
    walk_at "ev"
    obtain ⟨z, hz, hzm⟩ := rsn_at (i := c % 4) (by omega) (by omega)
    refine i_ixL (xs := rsn.map V.str) (v := .str z) (SqL.of c3) (atI_int (by omega) (by rw [List.getElem?_map, hz]; rfl)) ?_
    walk_at "ev"
    exact by_t6 (sx.trans s3) k0 k1 hw (.inl ⟨e, z, hzm, rfl⟩) h
  · walk_at "ev"
    exact by_t6 sx k0 k1 hw (.inr ⟨e, ht⟩) h
theorem _law_event_by_rd {c k : Int} (q : Builtin.Int.intBits c ≤ 2 ^ 20 ∧ 0 ≤ k ∧ k ≤ 100 ∧ ∀ a m e H', Same H H' → H a = none → H m = none → H' a = some (.tup [.str e.1, e.2.1, .ref m]) → H' m = some (.lst (e.2.2.map V.int)) → Gd e → Q (.ref a) H') :
    rd__law_event_by K S_words ⟨n, Q, bk, ct⟩ [some (.int c), some (.int k), none, none, none, none] H := by
  obtain ⟨cb', k0, k1, h⟩ := q
  have cb : Builtin.Int.intBits (c + 3) ≤ 2 ^ 20 + 4 := Nat.le_trans (intBits_add_le (n := 2) cb' (by decide)) (by decide)
  unfold rd__law_event_by
  have kk : 17 * k * k ≤ 170000 ∧ 0 ≤ 17 * k * k := by
    have z1 : 17 * k ≤ 1700 := by omega
    have z2 := Int.mul_le_mul z1 k1 k0 (by decide)
    have z3 := Int.mul_nonneg (show 0 ≤ 17 * k by omega) k0
    omega
  walk_at "ev"
  refine ⟨rfl, fun l2 hl2 => ?_⟩
  have s2 := same_new hl2 (.lst (wds.map V.str))
  have c2 : upd H l2 (.lst (wds.map V.str)) l2 = some (.lst (wds.map V.str)) := upd_same
  generalize upd H l2 (.lst (wds.map V.str)) = H2 at s2 c2 ⊢
  generalize (c + 17 * k * k + 29) * 48271 % 7919 = way
  walk_at "ev"
  obtain ⟨w, hz, hw⟩ := wds_at (i := way % 19) (by omega) (by omega)
  refine i_ixL (v := .str w) (SqL.of c2) (atI_int (by omega) (by rw [List.getElem?_map, hz]; rfl)) ?_
  walk_at "ev"
  rw [p60]
  walk_at "ev"
  have b0 := Int.emod_nonneg c (b := 10 ^ 60) (by decide)
  have b1 := Int.emod_lt_of_pos c (b := 10 ^ 60) (by decide)
  generalize c % 10 ^ 60 = cm at b0 b1 ⊢
  have q0 := Int.emod_nonneg ((c + 3) * 31415926535897932384626433832795028841971693993751) (b := 10 ^ 60) (by decide)
  have q1 := Int.emod_lt_of_pos ((c + 3) * 31415926535897932384626433832795028841971693993751) (b := 10 ^ 60) (by decide)
  have j0 : 0 ≤ way / 19 % 3 := by omega
  have j1 : way / 19 % 3 < 3 := by omega
  generalize hjj : way / 19 % 3 = jj at j0 j1 ⊢
  refine ifd (fun e0 => ?_) (fun e0 => ?_)
  · walk_at "ev"
    refine i_I (IntMulOk.of_le cb (show Builtin.Int.intBits 31415926535897932384626433832795028841971693993751 ≤ 200 by decide) (by decide)) ?_
    walk_at "ev"
    rw [p60]
    walk_at "ev"
    generalize (c + 3) * 31415926535897932384626433832795028841971693993751 % 10 ^ 60 = qm at q0 q1 ⊢
    refine ifd (fun e1 => by omega) (fun e1 => ?_)
    walk_at "ev"
    exact by_t5 s2 k0 k1 hw (.inr ⟨_, rfl, by omega, by omega⟩) h
  · walk_at "ev"
    refine ifd (fun e1 => ?_) (fun e1 => ?_)
    · walk_at "ev"
      exact by_t5 s2 k0 k1 hw (.inl rfl) h
    · walk_at "ev"
      exact by_t5 s2 k0 k1 hw (.inr ⟨_, rfl, by omega, by omega⟩) h
end
def S_spoilt : Sp := fun vs H Q E => ∃ k a way, vs = [.int k, .ref a, .int way] ∧ ∃ (i : Nat) (e : Ev) (S : Addr → Prop), k = (i : Int) ∧ 1 ≤ i ∧ i ≤ 1000 ∧ EvA H S a e ∧ Gd e ∧ ∀ z H', Same H H' → Bad i z → Q (.str z) H'
def fiv : List Str := ["kept", "Made", "sweep", "", "refuse"]
def fx5 : List Str := ["none", "+1", "", "-0", "emptyfull"]
def fou : List Str := [" ", " 00", " -1", " -"]
def fou' : List Str := ["", "00", "-1", "-"]
theorem fiv_ok : ∀ w ∈ fiv, w ∉ wds ∧ 32 ∉ w.cps.toList ∧ 10 ∉ w.cps.toList ∧ w.length ≤ 10 := by decide
theorem fx5_ok : ∀ x ∈ fx5, x ∉ rsn ∧ x ≠ dsh ∧ loadO x = none ∧ 32 ∉ x.cps.toList ∧ 10 ∉ x.cps.toList ∧ x.length ≤ 10 := by decide
theorem fou_ok : ∀ y ∈ fou, ∃ y' ∈ fou', y = ⟨#[32]⟩ ++ y' := by decide
theorem fou_ok2 : ∀ y ∈ fou', valO y = none ∧ 32 ∉ y.cps.toList ∧ 10 ∉ y.cps.toList ∧ y.length ≤ 10 := by decide
theorem okTh_fx5 {w x : Str} (h : x ∈ fx5) : ¬ okTh w x = true := by
  obtain ⟨h1, h2, h3, _⟩ := fx5_ok x h
  unfold okTh
  split
  · rw [decide_eq_false h1]; exact Bool.false_ne_true
  · rw [decide_eq_false h2, h3]; simp
theorem join2 (a b : Str) : (Str.join ⟨#[32]⟩ [a, b]).cps.toList = a.cps.toList ++ 32 :: b.cps.toList := by rw [join_jl]; rfl
theorem joinc (a : Str) {ps : List Str} (h : ps ≠ []) : (Str.join ⟨#[32]⟩ (a :: ps)).cps.toList = a.cps.toList ++ 32 :: (Str.join ⟨#[32]⟩ ps).cps.toList := by
  rw [join_jl, join_jl]
  cases ps with
  | nil => exact absurd rfl h
  | cons p ps => rfl
section
variable {K : PySem.W.Frag} {H : Hp} {Q : VK} {E : XK} {n : St → Hp → Prop} {bk ct : St → Hp → Prop}
theorem _law_spoilt_rd {k : Int} {a : Addr} {way : Int} (q : ∃ (i : Nat) (e : Ev) (S : Addr → Prop), k = (i : Int) ∧ 1 ≤ i ∧ i ≤ 1000 ∧ EvA H S a e ∧ Gd e ∧ ∀ z H', Same H H' → Bad i z → Q (.str z) H') :
    rd__law_spoilt K S_text ⟨n, Q, bk, ct⟩ [some (.int k), some (.ref a), some (.int way), none, none, none, none] H := by
  obtain ⟨i, e, S, rfl, i1, i2, ea, g, h⟩ := q
  have ro := row_ok (e := e) (k := (i : Int)) g (by omega) (by omega)
  have lk := tS_len2 (j := (i : Int)) (by omega) (by omega)
  have lt := (EvG.len g).1
  have lw := (wds_ok e.1 g.1).2.1
  obtain ⟨_, m, _, ha, hm⟩ := id ea
  unfold rd__law_spoilt
  walk_at "ev"
  refine ⟨_, _, rfl, e, S, ea, g, by omega, by omega, ?_⟩
  walk_at "ev"
  refine i_strI (by omega) (Int.lt_of_le_of_lt (show (i : Int) ≤ 2000 by omega) (by decide)) fun t et t1 t2 => ?_
  obtain rfl : t = tS (i : Int) := et
  walk_at "ev"
  refine i_lenS (len_ok (by omega)) ?_
  walk_at "ev"
  have j0 : 0 ≤ way % 8 := by omega
  have j1 : way % 8 < 8 := by omega
  generalize way % 8 = kind at j0 j1 ⊢
  have cr := cut_row (i : Int) e
  have cl : (cutS (txR (i : Int) e) (some ((tS (i : Int)).length : Int)) none).length ≤ 2700 := Nat.le_trans (cutS_length _ _ _) ro.2.1
  refine ifd (fun e0 => ?_) (fun e0 => ?_)
  · walk_at "ev"
    refine i_strI (by omega) (Int.lt_of_le_of_lt (show (i : Int) + 2 ≤ 2000 by omega) (by decide)) fun t et t1 t2 => ?_
    obtain rfl : t = tS ((i : Int) + 2) := et
    walk_at "ev"
    refine i_slS (len_ok (by omega)) ?_
    refine i_catS (len_ok (by omega)) ?_
    refine h _ _ (Same.refl _) (bad_num g (j := (i : Int) + 2) (by omega) (by omega) (fun m hm => by omega) ?_)
    rw [PyProof.Rows.cps_toList_append, cr]
  walk_at "ev"
  refine ifd (fun e1 => ?_) (fun e1 => ?_)
  · walk_at "ev"
    have mx : ∃ j : Nat, (if (i : Int) - 2 > 0 then (i : Int) - 2 else 0) = (j : Int) ∧ j ≤ 1000 ∧ (i ≤ 2 → j = 0) ∧ (2 < i → j + 2 = i) := ⟨(if (i : Int) - 2 > 0 then (i : Int) - 2 else 0).toNat, by split <;> omega, by split <;> omega, by intro _; split <;> omega, by intro _; split <;> omega⟩
    obtain ⟨j, ej, j2, j3, j4⟩ := mx
    rw [ej]
    refine i_strI (by omega) (Int.lt_of_le_of_lt (show (j : Int) ≤ 2000 by omega) (by decide)) fun t et t1 t2 => ?_
    obtain rfl : t = tS (j : Int) := et
    walk_at "ev"
    refine i_slS (len_ok (by omega)) ?_
    refine i_catS (len_ok (by omega)) ?_
    refine h _ _ (Same.refl _) (bad_num g (j := (j : Int)) (by omega) (by omega) (fun m hm => by omega) ?_)
    rw [PyProof.Rows.cps_toList_append, cr]
  walk_at "ev"
  refine ifd (fun e2 => ?_) (fun e2 => ?_)
  · walk_at "ev"
    refine i_catS (len_ok (by show 1 + _ ≤ _; omega)) ?_
    refine h _ _ (Same.refl _) (bad_hd g (a := 48 :: (tS (i : Int)).cps.toList) ?_ ?_ (by rw [List.length_cons, str_len]; omega) ?_ ?_)
    · intro z; rcases List.mem_cons.mp z with z | z
      · cases z
      · exact tS_free 32 ⟨by decide, by decide⟩ _ z
    · intro z; rcases List.mem_cons.mp z with z | z
      · cases z
      · exact tS_free 10 ⟨by decide, by decide⟩ _ z
    · unfold valO
      rw [if_neg]
      rintro ⟨⟨_, _, z⟩, _⟩
      refine z ⟨rfl, ?_⟩
      show 1 < (48 :: (tS (i : Int)).cps.toList).toArray.size
      rw [List.size_toArray, List.length_cons, str_len]
      omega
    · rw [PyProof.Rows.cps_toList_append, txR_l]
      rfl
  walk_at "ev"
  refine ifd (fun e3 => ?_) (fun e3 => ?_)
  · walk_at "ev"
    refine i_slS (len_ok (by omega)) ?_
    exact h _ _ (Same.refl _) (bad_hd g (a := []) (fun z => nomatch z) (fun z => nomatch z) (by decide) (by decide) (by rw [cr]; rfl))
  walk_at "ev"
  have pn : prt e.1 e.2.1 e.2.2 ≠ [] := by unfold prt; simp
  refine ⟨kind, rfl, ?_⟩
  by_cases e4 : kind = 4
  · rw [if_pos e4]
    refine ⟨txR (i : Int) e, rfl, by omega, ?_⟩
    refine h _ _ (Same.refl _) (bad_tl (j := (i : Int)) (by omega) (by omega) (ps := Str.empty :: prt e.1 e.2.1 e.2.2) (by simp) ?_ ?_ ?_ ?_ ?_)
    · intro p hp; rcases List.mem_cons.mp hp with rfl | hp
      · decide
      · exact EvG.free g p hp
    · intro p hp; rcases List.mem_cons.mp hp with rfl | hp
      · decide
      · exact prt_10 g p hp
    · rw [← str_len, joinc _ pn, List.length_append, List.length_cons, str_len, str_len]
      show 0 + (_ + 1) ≤ _
      have : (Str.join ⟨#[32]⟩ (prt e.1 e.2.1 e.2.2)).length ≤ 2600 := lt
      omega
    · unfold prt
      exact evP_bad (fun z => absurd (okTh_in z) (by decide))
    · rw [show (("  " : Str)) = ⟨#[32, 32]⟩ from rfl, e_blank, rep_eq (txR_l _ _) (tS_free 32 ⟨by decide, by decide⟩ _), joinc _ pn]
      rfl
  rw [if_neg e4]
  walk_at "ev"
  have l1 : (tS (i : Int) ++ (" " : Str)).length = (tS (i : Int)).length + 1 := by rw [app_len]; rfl
  have w0 : 0 ≤ way / 8 % 5 := by omega
  have w1 : way / 8 % 5 < 5 := by omega
  have pfree : ∀ p ∈ thS e.2.1 :: e.2.2.map tS, 32 ∉ p.cps.toList := fun p hp => EvG.free g p (List.mem_cons_of_mem _ hp)
  have p10 : ∀ p ∈ thS e.2.1 :: e.2.2.map tS, 10 ∉ p.cps.toList := fun p hp => prt_10 g p (List.mem_cons_of_mem _ hp)
  have ltl : (Str.join ⟨#[32]⟩ (thS e.2.1 :: e.2.2.map tS)).length ≤ 2600 := by
    have z : (txE e.1 e.2.1 e.2.2).length = _ := len_l (joinc e.1 (ps := thS e.2.1 :: e.2.2.map tS) (by simp))
    rw [str_len, str_len] at z
    omega
  refine ifd (fun e5 => ?_) (fun e5 => ?_)
  · walk_at "ev"
    refine ⟨by decide, fun l hl => ?_⟩
    have s1 := same_new hl (.lst (fiv.map V.str))
    have c1 : upd H l (.lst (fiv.map V.str)) l = some (.lst (fiv.map V.str)) := upd_same
    walk_at "ev"
    obtain ⟨w, hw, hwm⟩ := at_of (l := fiv) w0 (by show _ < ((5 : Nat) : Int); omega)
    obtain ⟨f1, f2, f3, f4⟩ := fiv_ok w hwm
    refine i_ixL (SqL.of c1) hw ?_
    walk_at "ev"
    refine i_strI (by omega) (Int.lt_of_le_of_lt (show (i : Int) ≤ 2000 by omega) (by decide)) fun t et t1 t2 => ?_
    obtain rfl : t = tS (i : Int) := et
    walk_at "ev"
    refine i_catS (len_ok (by show _ + 1 ≤ _; omega)) ?_
    walk_at "ev"
    refine i_catS (len_ok (by rw [l1]; omega)) ?_
    walk_at "ev"
    refine ⟨a, _, 0, _, rfl, rfl, SqT.of (s1 _ _ ha), rfl, ?_⟩
    walk_at "ev"
    refine i_lenS (len_ok (by omega)) ?_
    walk_at "ev"
    have cw := cut_word (i : Int) e
    have cl2 : (cutS (txR (i : Int) e) (some (((tS (i : Int)).length : Int) + 1 + (e.1.length : Int))) none).length ≤ 2700 := Nat.le_trans (cutS_length _ _ _) ro.2.1
    refine i_slS (len_ok (by omega)) ?_
    refine i_catS (len_ok (by rw [app_len, l1]; omega)) ?_
    refine h _ _ s1 (bad_tl (j := (i : Int)) (by omega) (by omega) (ps := w :: thS e.2.1 :: e.2.2.map tS) (by simp) ?_ ?_ ?_ (evP_bad fun z => f1 (okTh_in z)) ?_)
    · intro p hp; rcases List.mem_cons.mp hp with rfl | hp
      · exact f2
      · exact pfree p hp
    · intro p hp; rcases List.mem_cons.mp hp with rfl | hp
      · exact f3
      · exact p10 p hp
    · rw [← str_len, joinc _ (ps := thS e.2.1 :: e.2.2.map tS) (by simp), List.length_append, List.length_cons, str_len, str_len]; omega
    · rw [PyProof.Rows.cps_toList_append, PyProof.Rows.cps_toList_append, PyProof.Rows.cps_toList_append, cw, joinc _ (ps := thS e.2.1 :: e.2.2.map tS) (by simp), List.append_assoc, List.append_assoc]
      rfl
  walk_at "ev"
  refine ifd (fun e6 => ?_) (fun e6 => ?_)
  · walk_at "ev"
    refine i_strI (by omega) (Int.lt_of_le_of_lt (show (i : Int) ≤ 2000 by omega) (by decide)) fun t et t1 t2 => ?_
    obtain rfl : t = tS (i : Int) := et
    walk_at "ev"
    refine i_catS (len_ok (by show _ + 1 ≤ _; omega)) ?_
    walk_at "ev"
    refine ⟨a, _, 0, _, rfl, rfl, SqT.of ha, rfl, ?_⟩
    refine i_catS (len_ok (by rw [l1]; omega)) ?_
    walk_at "ev"
    refine i_catS (len_ok (by rw [app_len, l1]; show _ + 1 ≤ _; omega)) ?_
    walk_at "ev"
    refine ⟨by decide, fun l hl => ?_⟩
    have s1 := same_new hl (.lst (fx5.map V.str))
    have c1 : upd H l (.lst (fx5.map V.str)) l = some (.lst (fx5.map V.str)) := upd_same
    walk_at "ev"
    obtain ⟨x, hx, hxm⟩ := at_of (l := fx5) w0 (by show _ < ((5 : Nat) : Int); omega)
    obtain ⟨_, _, _, f2, f3, f4⟩ := fx5_ok x hxm
    refine i_ixL (SqL.of c1) hx ?_
    have l4 : (tS (i : Int) ++ (" " : Str) ++ e.1 ++ (" " : Str)).length = (tS (i : Int)).length + 1 + e.1.length + 1 := by rw [app_len, app_len, l1]; rfl
    refine i_catS (len_ok (by rw [l4]; omega)) ?_
    refine h _ _ s1 (bad_tl (j := (i : Int)) (by omega) (by omega) (ps := [e.1, x]) (by simp) ?_ ?_ ?_ (evP_bad (okTh_fx5 hxm)) ?_)
    · intro p hp; rcases List.mem_cons.mp hp with rfl | hp
      · exact (wds_ok _ g.1).1
      · rw [List.mem_singleton.mp hp]; exact f2
    · intro p hp; rcases List.mem_cons.mp hp with rfl | hp
      · exact wds_10 _ g.1
      · rw [List.mem_singleton.mp hp]; exact f3
    · rw [← str_len, join2, List.length_append, List.length_cons, str_len, str_len]; omega
    · rw [PyProof.Rows.cps_toList_append, PyProof.Rows.cps_toList_append, PyProof.Rows.cps_toList_append, PyProof.Rows.cps_toList_append, join2, List.append_assoc, List.append_assoc, List.append_assoc]
      rfl
  walk_at "ev"
  refine ⟨by decide, fun l hl => ?_⟩
  have s1 := same_new hl (.lst (fou.map V.str))
  have c1 : upd H l (.lst (fou.map V.str)) l = some (.lst (fou.map V.str)) := upd_same
  walk_at "ev"
  obtain ⟨y, hy, hym⟩ := at_of (l := fou) (i := way / 8 % 4) (by omega) (by show _ < ((4 : Nat) : Int); omega)
  obtain ⟨y', hym', rfl⟩ := fou_ok y hym
  obtain ⟨f1, f2, f3, f4⟩ := fou_ok2 y' hym'
  refine i_ixL (SqL.of c1) hy ?_
  have ly : ((⟨#[32]⟩ : Str) ++ y').length = 1 + y'.length := by rw [app_len]; rfl
  refine i_catS (len_ok (by rw [ly]; omega)) ?_
  have js : Str.join ⟨#[32]⟩ (prt e.1 e.2.1 e.2.2 ++ [y']) = txE e.1 e.2.1 e.2.2 ++ ⟨#[32]⟩ ++ y' := join_snoc pn
  refine h _ _ s1 (bad_tl (j := (i : Int)) (by omega) (by omega) (ps := prt e.1 e.2.1 e.2.2 ++ [y']) (by simp) ?_ ?_ ?_ ?_ ?_)
  · intro p hp; rcases List.mem_append.mp hp with hp | hp
    · exact EvG.free g p hp
    · rw [List.mem_singleton.mp hp]; exact f2
  · intro p hp; rcases List.mem_append.mp hp with hp | hp
    · exact prt_10 g p hp
    · rw [List.mem_singleton.mp hp]; exact f3
  · rw [js, app_len, app_len]
    show _ + 1 + _ ≤ _
    omega
  · unfold prt
    refine evP_bad2 (fun z => ?_)
    have z : ((e.2.2.map tS) ++ [y']).all (fun p => (valO p).isSome) = true := z
    rw [List.all_append, Bool.and_eq_true] at z
    have z2 := z.2
    rw [List.all_cons, f1] at z2
    exact Bool.false_ne_true z2
  · rw [js, PyProof.Rows.cps_toList_append, PyProof.Rows.cps_toList_append, PyProof.Rows.cps_toList_append, PyProof.Rows.cps_toList_append, txR_l, List.append_assoc, List.append_assoc]
    rfl
end
def HB (t : Str) (i : Nat) (L : List (List Ev)) (x : Str) : Prop := t.length ≤ 1000000 ∧ (rowsOf t).length ≤ 1000 ∧ (∀ x ∈ rowsOf t, x.length ≤ 10000) ∧ hAt (rowsOf t) i = some L ∧ (rowsOf t)[i]? = some x ∧ hst L x = none
def S_same : Sp := fun vs H Q E => ∃ v u, vs = [v, u] ∧ ∃ (a b : Addr) (e : Ev) (S S' : Addr → Prop), v = .ref a ∧ u = .ref b ∧ EvA H S a e ∧ EvA H S' b e ∧ Gd e ∧ Q (.bl true) H
def S_slog : Sp := fun vs H Q E => ∃ a b, vs = [.ref a, .ref b] ∧ ∃ L, LogA H a L ∧ LogA H b L ∧ (∀ es ∈ L, ∀ e ∈ es, Gd e) ∧ ∀ H', Same H H' → Q (.bl true) H'
def S_refused : Sp := fun vs H Q E => ∃ t, vs = [.str t] ∧ ∃ i L x, HB t i L x ∧ ∀ H', Same H H' → Q (.int ((i : Int) + 1)) H'
def S_classes : Sp := fun vs H Q E => ∃ t, vs = [.str t] ∧ ∃ i L x, HB t i L x ∧ ∀ p H', Same H H' → H' p = some (.lst [.bl true, .bl true, .bl false, .bl false]) → Q (.ref p) H'
def S_logby (K : PySem.W.Frag) : Sp := fun vs H Q E => ∃ a, vs = [.ref a] ∧ ∃ ns : List Int, SqL K H a (ns.map V.int) ∧ ns.length ≤ 63 ∧ BitsOk ns ∧ ∀ l ps L H', Same H H' → LogA H' l L → Chn ps L → ps.length ≤ 60 → Q (.ref l) H'
theorem hAt_mono {rs : List Str} : ∀ {i j : Nat}, i ≤ j → hAt rs i = none → hAt rs j = none
  | i, j, h, e => by
    induction j with
    | zero => have : i = 0 := by omega
              subst this; exact e
    | succ j ih =>
      by_cases z : i = j + 1
      · subst z; exact e
      · show (hAt rs j).bind _ = none
        rw [ih (by omega)]; rfl
theorem hAt_bad {rs : List Str} {i : Nat} {L : List (List Ev)} {x : Str} (h : hAt rs i = some L) (hx : rs[i]? = some x) (hs : hst L x = none) : hAt rs (i + 1) = none := by
  show (hAt rs i).bind _ = none
  rw [h, Option.bind_some, hx]; exact hs
theorem hAt_one {rs : List Str} {i j : Nat} {L L' : List (List Ev)} {x x' : Str} (h : hAt rs i = some L) (hx : rs[i]? = some x) (hs : hst L x = none) (h' : hAt rs j = some L') (hx' : rs[j]? = some x') (hs' : hst L' x' = none) : i = j := by
  rcases Nat.lt_trichotomy i j with z | z | z
  · have := hAt_mono (show i + 1 ≤ j from z) (hAt_bad h hx hs)
    rw [h'] at this; cases this
  · exact z
  · have := hAt_mono (show j + 1 ≤ i from z) (hAt_bad h' hx' hs')
    rw [h] at this; cases this
theorem Gd.th {e : Ev} (g : Gd e) : e.2.1 = .non ∨ (∃ i, e.2.1 = .int i) ∨ ∃ z, e.2.1 = .str z := by
  rcases g.2.1 with ⟨_, z, _, h⟩ | ⟨_, h | ⟨i, h, _⟩⟩
  · exact .inr (.inr ⟨z, h⟩)
  · exact .inl h
  · exact .inr (.inl ⟨i, h⟩)
section
variable {K : PySem.W.Frag} {C_REFUSALS C_WORDS C_BadRow C_GreyError C_NoSlot C_Twice : Addr} {H : Hp} {Q : VK} {E : XK} {n : St → Hp → Prop} {bk ct : St → Hp → Prop}
theorem _law_same_rd {v u : V} (q : ∃ (a b : Addr) (e : Ev) (S S' : Addr → Prop), v = .ref a ∧ u = .ref b ∧ EvA H S a e ∧ EvA H S' b e ∧ Gd e ∧ Q (.bl true) H) : rd__law_same K S_whole ⟨n, Q, bk, ct⟩ [some v, some u, none] H := by
  obtain ⟨a, b, ⟨w, tv, ns⟩, S, S', rfl, rfl, ea, eb, g, h⟩ := q
  obtain ⟨l, ha, hl⟩ := ea.row
  obtain ⟨m, hb, hm⟩ := eb.row
  dsimp only at ha hl hb hm
  unfold rd__law_same
  walk_at "ev"
  refine i_isiT_tuple ha ?_
  walk_at "ev"
  refine ⟨a, _, rfl, .inr (SqT.of ha), ?_⟩
  walk_at "ev"
  refine ifnd (fun z => absurd rfl z) (fun _ => ?_)
  walk_at "ev"
  refine ⟨a, _, 0, _, rfl, rfl, SqT.of ha, rfl, ?_⟩
  walk_at "ev"
  refine ⟨b, _, 1, _, rfl, rfl, SqT.of hb, rfl, ?_⟩
  rcases g.th with e | ⟨i, e⟩ | ⟨z, e⟩
  · obtain rfl : tv = .non := e
    walk_at "ev"
    refine ⟨a, _, 1, _, rfl, rfl, SqT.of ha, rfl, ?_⟩
    walk_at "ev"
    refine ⟨b, _, 1, _, rfl, rfl, SqT.of hb, rfl, ?_⟩
    walk_at "ev"
    refine ⟨b, _, 1, _, rfl, rfl, SqT.of hb, rfl, ?_⟩
    walk_at "es"
    exact same_tail rfl ha hl hb hm h
  · obtain rfl : tv = .int i := e
    walk_at "ev"
    refine ⟨b, _, 1, _, rfl, rfl, SqT.of hb, rfl, ?_⟩
    walk_at "ev"
    refine ⟨b, _, 1, _, rfl, rfl, SqT.of hb, rfl, ?_⟩
    walk_at "ev"
    refine ⟨b, _, 1, _, rfl, rfl, SqT.of hb, rfl, ?_⟩
    walk_at "ev"
    refine ⟨a, _, 1, _, rfl, rfl, SqT.of ha, rfl, ?_⟩
    walk_at "ev"
    refine ⟨i, rfl, ?_⟩
    walk_at "es"
    exact same_tail rfl ha hl hb hm h
  · obtain rfl : tv = .str z := e
    walk_at "ev"
    refine ⟨b, _, 1, _, rfl, rfl, SqT.of hb, rfl, ?_⟩
    walk_at "ev"
    refine ⟨a, _, 1, _, rfl, rfl, SqT.of ha, rfl, ?_⟩
    walk_at "ev"
    refine ⟨b, _, 1, _, rfl, rfl, SqT.of hb, rfl, ?_⟩
    walk_at "ev"
    refine ⟨b, _, 1, _, rfl, rfl, SqT.of hb, rfl, ?_⟩
    walk_at "es"
    exact same_tail rfl ha hl hb hm h
theorem _law_refused_rd (T : TxE K C_REFUSALS C_WORDS C_BadRow) {t : Str} (q : ∃ i L x, HB t i L x ∧ ∀ H', Same H H' → Q (.int ((i : Int) + 1)) H') : rd__law_refused K C_BadRow (S_heard C_BadRow) ⟨n, Q, bk, ct⟩ [some (.str t), none, none] H := by
  obtain ⟨i, L, x, ⟨h1, h2, h3, h4, h5, h6⟩, h⟩ := q
  unfold rd__law_refused
  walk_at "ev"
  refine ⟨t, rfl, h1, h2, h3, fun L' hL' => ?_, fun j L' x' g1 g2 g3 D H' s hD => ⟨rfl, fun ea hea => ?_⟩⟩
  · have hi := (List.getElem?_eq_some_iff.mp h5).1
    have := hAt_mono (show i + 1 ≤ (rowsOf t).length from hi) (hAt_bad h4 h5 h6)
    rw [hL'] at this; cases this
  · obtain rfl := hAt_one h4 h5 h6 g1 g2 g3
    have s1 := same_new hea (xobj ea (.ref C_BadRow) (some D))
    have c1 : upd H' ea (xobj ea (.ref C_BadRow) (some D)) ea = some (xobj ea (.ref C_BadRow) (some D)) := upd_same
    simp only [List.set_cons_succ, List.set_cons_zero]
    walk_at "ev"
    refine ⟨ea, C_BadRow, D, _, _, rfl, c1, s1 _ _ hD, T.xg, rfl, ?_⟩
    walk_at "ev"
    simp only [List.set_cons_succ, List.set_cons_zero]
    walk_at "ev"
    exact h _ (s.trans s1)
theorem _law_classes_rd {isk : Value → Value → Option Bool} (k1 : isk (.ref C_BadRow) (.ref C_BadRow) = some true) (k2 : isk (.ref C_BadRow) (.ref C_GreyError) = some true) (k3 : isk (.ref C_BadRow) (.ref C_NoSlot) = some false) (k4 : isk (.ref C_BadRow) (.ref C_Twice) = some false)
    {t : Str} (q : ∃ i L x, HB t i L x ∧ ∀ p H', Same H H' → H' p = some (.lst [.bl true, .bl true, .bl false, .bl false]) → Q (.ref p) H') : rd__law_classes C_BadRow C_GreyError C_NoSlot C_Twice (S_heard C_BadRow) isk ⟨n, Q, bk, ct⟩ [some (.str t), none, none] H := by
  obtain ⟨i, L, x, ⟨h1, h2, h3, h4, h5, h6⟩, h⟩ := q
  unfold rd__law_classes
  walk_at "ev"
  refine ⟨by decide, fun p0 hp0 => ?_⟩
  have s0 := same_new hp0 (.lst [])
  generalize upd H p0 (.lst []) = H0 at s0 ⊢
  walk_at "ev"
  refine ⟨t, rfl, h1, h2, h3, fun L' hL' => ?_, fun j L' x' g1 g2 g3 D H' s hD => ⟨rfl, fun ea hea => ?_⟩⟩
  · have hi := (List.getElem?_eq_some_iff.mp h5).1
    have := hAt_mono (show i + 1 ≤ (rowsOf t).length from hi) (hAt_bad h4 h5 h6)
    rw [hL'] at this; cases this
  · have s1 := same_new hea (xobj ea (.ref C_BadRow) (some D))
    have c1 : upd H' ea (xobj ea (.ref C_BadRow) (some D)) ea = some (xobj ea (.ref C_BadRow) (some D)) := upd_same
    generalize upd H' ea (xobj ea (.ref C_BadRow) (some D)) = H1 at s1 c1 ⊢
    have ask : ∀ (C : Addr) (b : Bool) (Q' : VK), isk (.ref C_BadRow) (.ref C) = some b → Q' (.bl b) H1 → cIsiX [C_BadRow] isk [.ref ea, .ref C] H1 Q' := fun C b Q' e k => ⟨ea, .ref C, C_BadRow, b, ⟨_, rfl, rfl⟩, List.Mem.head _, ⟨_, c1⟩, e, k⟩
    simp only [List.set_cons_succ, List.set_cons_zero]
    walk_at "ev"
    refine ask _ _ _ k1 ?_
    walk_at "ev"
    refine ask _ _ _ k2 ?_
    walk_at "ev"
    refine ask _ _ _ k3 ?_
    walk_at "ev"
    refine ask _ _ _ k4 ?_
    walk_at "ev"
    refine ⟨by show 4 ≤ _; decide, fun p hp => ?_⟩
    walk_at "ev"
    simp only [List.set_cons_succ, List.set_cons_zero]
    walk_at "ev"
    exact h p _ (s0.trans (s.trans (s1.trans (same_new hp _)))) upd_same
end
theorem refs_ints {as : List Addr} {ns : List Int} (h : ns ≠ []) : (HO.lst (as.map V.ref)) ≠ .lst (ns.map V.int) := by
  intro z
  injection z with z
  cases ns with
  | nil => exact h rfl
  | cons r rs =>
    cases as with
    | nil => cases z
    | cons a as => injection z with z1 z2; cases z1
theorem at_len {α : Type} (xs : List α) (x : α) {i : Int} (h : i = (xs.length : Int)) : atI (xs ++ [x]) i = some x := by
  subst h
  exact atI_int (by omega) (by rw [Int.toNat_natCast, List.getElem?_append_right (Nat.le_refl _), Nat.sub_self]; rfl)
theorem Chn.le {ps : List (Nat × Ev)} {L : List (List Ev)} (c : Chn ps L) : ∀ es ∈ L, es.length ≤ ps.length := by
  induction c with
  | nil => intro es h; cases h
  | new _ _ ih =>
    intro es h
    rw [List.length_append]
    rcases List.mem_append.mp h with h | h
    · exact Nat.le_succ_of_le (ih es h)
    · rw [List.mem_singleton.mp h]; exact Nat.le_add_left _ _
  | add _ _ ih =>
    intro es h
    rw [List.length_append]
    rcases List.mem_append.mp h with h | h
    · exact Nat.le_succ_of_le (ih es (List.mem_append_left _ h))
    · rw [List.mem_singleton.mp h, List.length_append]
      exact Nat.succ_le_succ (ih _ (List.mem_append_right _ List.mem_cons_self))
section
variable {K : PySem.W.Frag} {H : Hp} {Q : VK} {E : XK} {n : St → Hp → Prop} {bk ct : St → Hp → Prop}
theorem _law_same_log_rd {a b : Addr} (q : ∃ L, LogA H a L ∧ LogA H b L ∧ (∀ es ∈ L, ∀ e ∈ es, Gd e) ∧ ∀ H', Same H H' → Q (.bl true) H') : rd__law_same_log K S_same ⟨n, Q, bk, ct⟩ [some (.ref a), some (.ref b), none, none, none, none] H := by
  obtain ⟨L, ⟨as, ha, ala⟩, ⟨bs, hb, alb⟩, g, h⟩ := q
  have la := ala.length
  have lb := alb.length
  unfold rd__law_same_log
  walk_at "ev"
  refine i_isiL_list ha ?_
  walk_at "ev"
  refine i_lenL (SqL.of ha) ?_
  walk_at "ev"
  refine i_lenL (SqL.of hb) ?_
  walk_at "ev"
  rw [List.length_map, List.length_map]
  refine ifnd (fun z => absurd (by omega) z) (fun _ => ?_)
  walk_at "ev"
  refine ⟨a, b, rfl, ⟨_, SqL.of ha⟩, ⟨_, SqL.of hb⟩, ?_⟩
  refine forZ (as.map V.ref) (bs.map V.ref) (by rw [List.length_map, List.length_map]; omega) (fun i σ H2 => ∃ v2 v3 v4 v5, σ = [some (.ref a), some (.ref b), v2, v3, v4, v5] ∧ Same H H2) ⟨none, none, none, none, rfl, Same.refl _⟩ ?_ ?_ ?_
  · rintro i σ H2 _ ⟨v2, v3, v4, v5, rfl, s2⟩; exact ⟨SqL.of (s2 _ _ ha), SqL.of (s2 _ _ hb)⟩
  · rintro i x y tp σ H2 hx hy ⟨v2, v3, v4, v5, rfl, s2⟩ htp
    rw [List.getElem?_map] at hx hy
    obtain ⟨c, hc, rfl⟩ := Option.map_eq_some_iff.mp hx
    obtain ⟨d, hd, rfl⟩ := Option.map_eq_some_iff.mp hy
    obtain ⟨es, hes, ⟨_, cs, hcs, alc⟩⟩ := ala.getL hc
    obtain ⟨es', hes', ⟨_, ds, hds, ald⟩⟩ := alb.getL hd
    rw [hes] at hes'
    cases hes'
    have lc := alc.length
    have ld := ald.length
    have s3 := same_new htp (.tup [.ref c, .ref d])
    have c3 : upd H2 tp (.tup [.ref c, .ref d]) tp = some (.tup [.ref c, .ref d]) := upd_same
    generalize upd H2 tp (.tup [.ref c, .ref d]) = H3 at s3 c3 ⊢
    have hc3 := s3 _ _ (s2 _ _ hcs)
    have hd3 := s3 _ _ (s2 _ _ hds)
    refine ⟨tp, _, rfl, SqT.of c3, rfl, ?_⟩
    refine ⟨_, _, rfl, ?_⟩
    walk_at "ev"
    refine ⟨_, _, rfl, ?_⟩
    walk_at "ev"
    refine ⟨rfl, ?_⟩
    walk_at "ev"
    refine i_isiL_list hc3 ?_
    walk_at "ev"
    refine i_lenL (SqL.of hc3) ?_
    walk_at "ev"
    refine i_lenL (SqL.of hd3) ?_
    walk_at "ev"
    rw [List.length_map, List.length_map]
    refine ifnd (fun z => absurd (by omega) z) (fun _ => ?_)
    walk_at "ev"
    refine ⟨c, d, rfl, ⟨_, SqL.of hc3⟩, ⟨_, SqL.of hd3⟩, ?_⟩
    refine forZ (cs.map V.ref) (ds.map V.ref) (by rw [List.length_map, List.length_map]; omega) (fun j σ H4 => ∃ v4 v5, σ = [some (.ref a), some (.ref b), some (.ref c), some (.ref d), v4, v5] ∧ Same H H4) ⟨_, _, rfl, s2.trans s3⟩ ?_ ?_ ?_
    · rintro j σ H4 _ ⟨v4, v5, rfl, s4⟩; exact ⟨SqL.of (s4 _ _ hcs), SqL.of (s4 _ _ hds)⟩
    · rintro j x y tq σ H4 hx hy ⟨v4, v5, rfl, s4⟩ htq
      rw [List.getElem?_map] at hx hy
      obtain ⟨f, hf, rfl⟩ := Option.map_eq_some_iff.mp hx
      obtain ⟨k, hk, rfl⟩ := Option.map_eq_some_iff.mp hy
      obtain ⟨e, he, ef⟩ := alc.getL hf
      obtain ⟨e', he', ek⟩ := ald.getL hk
      rw [he] at he'
      cases he'
      have s5 := same_new htq (.tup [.ref f, .ref k])
      have c5 : upd H4 tq (.tup [.ref f, .ref k]) tq = some (.tup [.ref f, .ref k]) := upd_same
      generalize upd H4 tq (.tup [.ref f, .ref k]) = H5 at s5 c5 ⊢
      refine ⟨tq, _, rfl, SqT.of c5, rfl, ?_⟩
      refine ⟨_, _, rfl, ?_⟩
      walk_at "ev"
      refine ⟨_, _, rfl, ?_⟩
      walk_at "ev"
      refine ⟨rfl, ?_⟩
      walk_at "ev"
      refine ⟨_, _, rfl, f, k, e, _, _, rfl, rfl, ef.go (kx_same (s4.trans s5)), ek.go (kx_same (s4.trans s5)), g es (List.mem_of_getElem? hes) e (List.mem_of_getElem? he), ?_⟩
      walk_at "ev"
      exact ⟨_, _, rfl, s4.trans s5⟩
    · rintro σ H4 ⟨v4, v5, rfl, s4⟩
      exact ⟨_, _, _, _, rfl, s4⟩
  · rintro σ H2 ⟨v2, v3, v4, v5, rfl, s2⟩
    walk_at "ev"
    exact h _ s2
theorem _law_log_by_rd {a : Addr} (q : ∃ ns : List Int, SqL K H a (ns.map V.int) ∧ ns.length ≤ 63 ∧ BitsOk ns ∧ ∀ l ps L H', Same H H' → LogA H' l L → Chn ps L → ps.length ≤ 60 → Q (.ref l) H') : rd__law_log_by K S_by ⟨n, Q, bk, ct⟩ [some (.ref a), none, none, none] H := by
  obtain ⟨ns, hS, hlen, hbits, h⟩ := q
  unfold rd__law_log_by
  walk_at "ev"
  refine ⟨by decide, fun l hl => ?_⟩
  have s1 := same_new hl (.lst [])
  have c1 : upd H l (.lst []) l = some (.lst []) := upd_same
  generalize upd H l (.lst []) = H1 at s1 c1 ⊢
  walk_at "ev"
  refine ⟨a, _, rfl, s1.seq hS, fun cp hcp => ?_⟩
  have ec : cutV (ns.map V.int) (some 0) (some 60) = ((ns.drop (HT.sIx ns.length 0 (some 0))).take (HT.sIx ns.length ns.length (some 60) - HT.sIx ns.length 0 (some 0))).map V.int := by
    unfold cutV
    rw [List.map_take, List.map_drop, List.length_map]
  rw [ec]
  have l60 : HT.sIx ns.length ns.length (some 60) ≤ 60 := by unfold HT.sIx; dsimp only; rw [if_neg (by decide)]; simp; omega
  generalize hcs : (ns.drop (HT.sIx ns.length 0 (some 0))).take (HT.sIx ns.length ns.length (some 60) - HT.sIx ns.length 0 (some 0)) = cs
  have lcs : cs.length ≤ 60 := by rw [← hcs, List.length_take]; omega
  have bcs : BitsOk cs := fun i hi => hbits i (List.mem_of_mem_drop (List.mem_of_mem_take (by rw [hcs]; exact hi)))
  have s2 := same_new hcp (.lst (cs.map V.int))
  have c2 : upd H1 cp (.lst (cs.map V.int)) cp = some (.lst (cs.map V.int)) := upd_same
  generalize upd H1 cp (.lst (cs.map V.int)) = H2 at s2 c2 ⊢
  walk_at "ev"
  refine ⟨cp, rfl, ⟨_, SqL.of c2⟩, ?_⟩
  refine forE (cs.map V.int) (fun i σ Hx => ∃ ps L v2 v3, σ = [some (.ref a), some (.ref l), v2, v3] ∧ Chn ps L ∧ ps.length = i ∧ Bld H Hx l L ∧ Same H Hx ∧ Hx cp = some (.lst (cs.map V.int))) ⟨[], [], none, none, rfl, .nil, rfl, .inl ⟨hl, rfl, s2 _ _ c1⟩, s1.trans s2, c2⟩ ?_ ?_ ?_
  · rintro i σ Hx _ ⟨ps, L, v2, v3, rfl, _, _, _, _, c⟩; exact SqL.of c
  · rintro i x tp σ Hx hx ⟨ps, L, v2, v3, rfl, ch, lps, bl, sx, cx⟩ htp
    rw [List.getElem?_map] at hx
    obtain ⟨c, hc, rfl⟩ := Option.map_eq_some_iff.mp hx
    have hi := (List.getElem?_eq_some_iff.mp hc).1
    have cne : cs ≠ [] := fun z => by rw [z] at hi; exact absurd hi (Nat.not_lt_zero _)
    have chl := ch.len.1
    have s3 := same_new htp (.tup [.int i, .int c])
    have c3 : upd Hx tp (.tup [.int i, .int c]) tp = some (.tup [.int i, .int c]) := upd_same
    generalize upd Hx tp (.tup [.int i, .int c]) = H3 at s3 c3 ⊢
    have b3 := bl.same s3
    have cx3 := s3 _ _ cx
    have sx3 := sx.trans s3
    obtain ⟨bs0, hl3, lbs⟩ := b3.lst
    refine ⟨tp, _, rfl, SqT.of c3, rfl, ?_⟩
    refine ⟨_, _, rfl, ?_⟩
    walk_at "ev"
    refine ⟨_, _, rfl, ?_⟩
    walk_at "ev"
    refine ⟨rfl, ?_⟩
    walk_at "ev"
    refine i_lenL (SqL.of hl3) ?_
    walk_at "ev"
    have kk : (i : Int) * (i : Int) ≤ 3600 ∧ 0 ≤ (i : Int) * (i : Int) := ⟨Int.mul_le_mul (show (i : Int) ≤ 60 by omega) (show (i : Int) ≤ 60 by omega) (by omega) (by decide), Int.mul_nonneg (by omega) (by omega)⟩
    have cb := bcs c (List.mem_of_getElem? hc)
    have fin : ∀ {H4 : Hp} {bs as : List Addr} {b : Addr} {L' : List (List Ev)} {es : List Ev}, BldL H H4 l bs b as L' es → Same H H4 → H4 cp = some (.lst (cs.map V.int)) → b ≠ cp → as.length ≤ 100 → (∀ e, Gd e → ∃ ps', Chn ps' (L' ++ [es ++ [e]]) ∧ ps'.length = i + 1) →
        (tDrop (tBM K "list" rAppend (tOp (rIxL K) (tVar 1) (tOp (rI0 fun i j => .int (i - j)) (tCB (G.cLenL K) (tCons (tVar 1) tNil)) (tC (.int 1)))) (tCons (tCall S_by [] E0 (tCons (tVar 3) (tCons (tVar 2) tNil))) tNil))) ⟨fun σ Hx => ∃ ps L v2 v3, σ = [some (.ref a), some (.ref l), v2, v3] ∧ Chn ps L ∧ ps.length = i + 1 ∧ Bld H Hx l L ∧ Same H Hx ∧ Hx cp = some (.lst (cs.map V.int)), Q, tRet (tVar 1) ⟨n, Q, bk, ct⟩, fun σ Hx => ∃ ps L v2 v3, σ = [some (.ref a), some (.ref l), v2, v3] ∧ Chn ps L ∧ ps.length = i + 1 ∧ Bld H Hx l L ∧ Same H Hx ∧ Hx cp = some (.lst (cs.map V.int))⟩ [some (.ref a), some (.ref l), some (.int i), some (.int c)] H4 := by
      intro H4 bs as b L' es b4 s4 c4 nbc las mk
      walk_at "ev"
      refine i_lenL (SqL.of b4.hl) ?_
      walk_at "ev"
      refine i_ixL (SqL.of b4.hl) (by rw [List.map_append]; exact at_len _ _ (by rw [List.length_append]; show ((_ + 1 : Nat) : Int) - 1 = _; omega)) ?_
      walk_at "ev"
      refine ⟨.inl ⟨rfl, _, SqL.of b4.hb⟩, ?_⟩
      walk_at "ev"
      refine ⟨_, _, rfl, cb, by omega, by omega, fun av m e H5 s5 na nm ha hm ge => ?_⟩
      have b5 := b4.same s5
      walk_at "ev"
      refine ⟨b, _, _, rfl, rfl, b5.hb, by rw [List.length_map, sizeLine_eq]; omega, ?_⟩
      have n1 : av ≠ l ∧ av ≠ b := ⟨ne_of_none b4.hl na |> Ne.symm, ne_of_none b4.hb na |> Ne.symm⟩
      have n2 : m ≠ l ∧ m ≠ b := ⟨ne_of_none b4.hl nm |> Ne.symm, ne_of_none b4.hb nm |> Ne.symm⟩
      have b6 := b5.add (a := av) (e := e) ⟨fun z => z.elim n1.1 n1.2, m, fun z => z.elim n2.1 n2.2, ha, hm⟩
      rw [List.map_append] at b6
      obtain ⟨ps', ch', lp'⟩ := mk e ge
      exact ⟨ps', _, _, _, rfl, ch', lp', .inr ⟨bs, b, as ++ [av], L', es ++ [e], rfl, b6⟩, same_put (s4.trans s5) b5.b0, by rw [upd_ne (Ne.symm nbc)]; exact s5 _ _ c4⟩
    have newc : (tDrop (tBM K "list" rAppend (tVar 1) (tCons (tLst tNil) tNil))) ⟨(tDrop (tBM K "list" rAppend (tOp (rIxL K) (tVar 1) (tOp (rI0 fun i j => .int (i - j)) (tCB (G.cLenL K) (tCons (tVar 1) tNil)) (tC (.int 1)))) (tCons (tCall S_by [] E0 (tCons (tVar 3) (tCons (tVar 2) tNil))) tNil))) ⟨fun σ Hx => ∃ ps L v2 v3, σ = [some (.ref a), some (.ref l), v2, v3] ∧ Chn ps L ∧ ps.length = i + 1 ∧ Bld H Hx l L ∧ Same H Hx ∧ Hx cp = some (.lst (cs.map V.int)), Q, tRet (tVar 1) ⟨n, Q, bk, ct⟩, fun σ Hx => ∃ ps L v2 v3, σ = [some (.ref a), some (.ref l), v2, v3] ∧ Chn ps L ∧ ps.length = i + 1 ∧ Bld H Hx l L ∧ Same H Hx ∧ Hx cp = some (.lst (cs.map V.int))⟩, Q, tRet (tVar 1) ⟨n, Q, bk, ct⟩, fun σ Hx => ∃ ps L v2 v3, σ = [some (.ref a), some (.ref l), v2, v3] ∧ Chn ps L ∧ ps.length = i + 1 ∧ Bld H Hx l L ∧ Same H Hx ∧ Hx cp = some (.lst (cs.map V.int))⟩ [some (.ref a), some (.ref l), some (.int i), some (.int c)] H3 := by
      walk_at "ev"
      refine ⟨.inl ⟨rfl, _, SqL.of hl3⟩, ?_⟩
      walk_at "ev"
      refine ⟨by decide, fun b' hb' => ?_⟩
      have s7 := same_new hb' (.lst [])
      obtain ⟨bs, q1, q2, bl'⟩ := b3.new (fresh_of sx3 hb') hb'
      rw [List.map_append] at bl'
      refine ⟨l, bs.map V.ref, _, rfl, rfl, s7 _ _ q1, by rw [List.length_map, sizeLine_eq]; omega, ?_⟩
      have npl : cp ≠ l := fun z => by rw [z, q1] at cx3; exact refs_ints cne (Option.some.inj cx3)
      have npb : b' ≠ cp := fun z => by rw [← z, hb'] at cx3; cases cx3
      exact fin bl' (same_put (same_put sx3 (fresh_of sx3 hb')) b3.l0) (by rw [upd_ne npl, upd_ne (Ne.symm npb)]; exact cx3) npb (Nat.zero_le _) fun e ge => ⟨_, ch.new ge, by rw [List.length_append, lps]; rfl⟩
    refine ifd (fun e0 => ?_) (fun e0 => ?_)
    · exact newc
    · walk_at "ev"
      refine ifnd (fun e1 => ?_) (fun e1 => ?_)
      · exact newc
      · rcases b3 with ⟨_, rfl, _⟩ | ⟨bs, b, as, L', es, rfl, b4⟩
        · exact absurd (by rw [List.length_map, lbs]; rfl) e0
        · have npb : b ≠ cp := fun z => by
            have := b4.hb
            rw [z, cx3] at this
            exact refs_ints cne (Option.some.inj this).symm
          exact fin b4 sx3 cx3 npb (by rw [b4.cur.length]; have := ch.le es (List.mem_append_right _ List.mem_cons_self); omega) fun e ge => ⟨_, ch.add ge, by rw [List.length_append, lps]; rfl⟩
  · rintro σ Hx ⟨ps, L, v2, v3, rfl, ch, lps, bl, sx, cx⟩
    rw [List.length_map] at lps
    walk_at "ev"
    exact h l ps L _ sx bl.log ch (by omega)
end
theorem jl_snocN (c : Nat) (p : Str) {ps : List Str} (h : ps ≠ []) : Str.join ⟨#[c]⟩ (ps ++ [p]) = Str.join ⟨#[c]⟩ ps ++ ⟨#[c]⟩ ++ p := by
  refine str_ext ?_
  rw [join_jl, jl_snoc c p h, PyProof.Rows.cps_toList_append, PyProof.Rows.cps_toList_append, join_jl, List.append_assoc]
  rfl
theorem jl_lenN (c : Nat) {ps : List Str} (h : ps ≠ []) : (Str.join ⟨#[c]⟩ ps).length + 1 = (ps.map (·.length)).sum + ps.length := by
  rw [← jl_len c h, ← join_jl, str_len]
theorem rows_join {rs : List Str} (h10 : ∀ x ∈ rs, 10 ∉ x.cps.toList) (hne : rs ≠ [Str.empty]) : rowsOf (Str.join nl rs) = rs := by
  cases rs with
  | nil => rfl
  | cons r rs =>
    have hj := jl_lenN 10 (ps := r :: rs) (by simp)
    have z : ¬ Str.join nl (r :: rs) = Str.empty := fun z => by
      have hj : (Str.join nl (r :: rs)).length + 1 = _ := hj
      rw [z] at hj
      have e0 : Str.empty.length = 0 := rfl
      rw [e0, List.map_cons, List.sum_cons, List.length_cons] at hj
      have h1 : r.length = 0 := by omega
      have h2 : rs.length = 0 := by omega
      have h3 : rs = [] := List.eq_nil_of_length_eq_zero h2
      subst h3
      have h4 : r = Str.empty := str_ext (by
        have : r.cps.toList.length = 0 := by rw [str_len]; exact h1
        rw [List.eq_nil_of_length_eq_zero this]; rfl)
      exact hne (by rw [h4])
    unfold rowsOf
    rw [if_neg z]
    exact split_join (by simp) h10
theorem sum_le {c : Nat} : ∀ {rs : List Str}, (∀ x ∈ rs, x.length ≤ c) → (rs.map (·.length)).sum ≤ c * rs.length
  | [], _ => Nat.zero_le _
  | r :: rs, h => by
    have ih := sum_le (rs := rs) (fun x hx => h x (List.mem_cons_of_mem _ hx))
    have := h r List.mem_cons_self
    rw [List.map_cons, List.sum_cons, List.length_cons, Nat.mul_add, Nat.mul_one]
    omega
theorem hb_of {rs : List Str} {i : Nat} {L : List (List Ev)} {x : Str} (h10 : ∀ x ∈ rs, 10 ∉ x.cps.toList) (hne : rs ≠ [Str.empty]) (hl : ∀ x ∈ rs, x.length ≤ 5000) (hn : rs.length ≤ 62) (ha : hAt rs i = some L) (hx : rs[i]? = some x) (hs : hst L x = none) : HB (Str.join nl rs) i L x := by
  have e := rows_join h10 hne
  have sm := sum_le hl
  refine ⟨?_, by rw [e]; omega, fun x hx => by rw [e] at hx; have := hl x hx; omega, by rw [e]; exact ha, by rw [e]; exact hx, hs⟩
  by_cases z : rs = []
  · subst z; decide
  · have := jl_lenN 10 z
    show (Str.join ⟨#[10]⟩ rs).length ≤ _
    omega
theorem hst_none {L : List (List Ev)} {x : Str} (h : hr x L.length = none) : hst L x = none := by unfold hst; rw [h]
theorem rws_ok {ps : List (Nat × Ev)} {L : List (List Ev)} (c : Chn ps L) (hz : ps.length ≤ 60) : ∀ x ∈ rws ps, 10 ∉ x.cps.toList ∧ 1 ≤ x.length ∧ x.length ≤ 2700 := by
  intro x hx
  obtain ⟨p, hp, rfl⟩ := List.mem_map.mp hx
  have := c.len.2 p hp
  have r := row_ok (e := p.2) (k := (p.1 : Int)) (c.good p hp) (by omega) (by omega)
  exact ⟨r.1, r.2.2, r.2.1⟩
theorem rws_len (ps : List (Nat × Ev)) : (rws ps).length = ps.length := List.length_map _
theorem hb_ins {ps : List (Nat × Ev)} {L : List (List Ev)} (c : Chn ps L) (hz : ps.length ≤ 60) (hn : ps ≠ []) {i : Nat} (hi : i ≤ ps.length) : ∃ L', HB (Str.join nl ((rws ps).take i ++ [Str.empty] ++ (rws ps).drop i)) i L' Str.empty := by
  have ok := rws_ok c hz
  have li : ((rws ps).take i).length = i := by rw [List.length_take, rws_len]; omega
  obtain ⟨L', _, e'⟩ := hAt_good c (by omega) (ts := (rws ps).take i ++ [Str.empty] ++ (rws ps).drop i) i hi (fun j hj => by
    rw [List.append_assoc, List.getElem?_append_left (by omega), List.getElem?_take_of_lt hj])
  have hm : ∀ x ∈ (rws ps).take i ++ [Str.empty] ++ (rws ps).drop i, 10 ∉ x.cps.toList ∧ x.length ≤ 5000 := fun x hx => by
    rcases List.mem_append.mp hx with hx | hx
    · rcases List.mem_append.mp hx with hx | hx
      · have := ok x (List.mem_of_mem_take hx); exact ⟨this.1, by omega⟩
      · rw [List.mem_singleton.mp hx]; decide
    · have := ok x (List.mem_of_mem_drop hx); exact ⟨this.1, by omega⟩
  have hl : ((rws ps).take i ++ [Str.empty] ++ (rws ps).drop i).length = ps.length + 1 := by
    rw [List.length_append, List.length_append, li, List.length_drop, rws_len]
    show i + 1 + (ps.length - i) = _
    omega
  have hp : 0 < ps.length := List.length_pos_iff.mpr hn
  refine ⟨L', hb_of (fun x hx => (hm x hx).1) (fun z => ?_) (fun x hx => (hm x hx).2) (by omega) e' ?_ (hst_none (hr_empty _))⟩
  · have := congrArg List.length z
    rw [hl] at this
    have : ps.length + 1 = 1 := this
    omega
  · rw [List.append_assoc, List.getElem?_append_right (by omega), li, Nat.sub_self]; rfl
theorem hb_bad {ps : List (Nat × Ev)} {L : List (List Ev)} (c : Chn ps L) (hz : ps.length ≤ 60) {xs : List Str} {i : Nat} {p : Nat × Ev} {z : Str} (hp : ps[i]? = some p) (hl : xs.length = ps.length) (hg : ∀ j, j < i → xs[j]? = (rws ps)[j]?) (hx : xs[i]? = some z) (hb : Bad p.1 z)
    (ok : ∀ x ∈ xs, 10 ∉ x.cps.toList ∧ 1 ≤ x.length ∧ x.length ≤ 5000) : ∃ L', HB (Str.join nl xs) i L' z := by
  have hi := (List.getElem?_eq_some_iff.mp hp).1
  obtain ⟨L', c', e'⟩ := hAt_good c (by omega) (ts := xs) i (Nat.le_of_lt hi) hg
  obtain ⟨L1, c1, k1⟩ := c.at i (Nat.le_of_lt hi)
  obtain rfl := c1.uniq c'
  obtain ⟨m1, _⟩ := k1 p hp
  refine ⟨L1, hb_of (fun x hx => (ok x hx).1) (fun w => ?_) (fun x hx => (ok x hx).2.2) (by omega) e' hx (hst_none (hb.2.2 _ m1))⟩
  have := (ok Str.empty (by rw [w]; exact List.mem_cons_self)).2.1
  exact absurd this (by decide)
theorem hb_one {t x : Str} {rs : List Str} (e : t = Str.join nl rs) (h10 : ∀ x ∈ rs, 10 ∉ x.cps.toList) (hne : rs ≠ [Str.empty]) (hl : ∀ x ∈ rs, x.length ≤ 5000) (hn : rs.length ≤ 62) (hx : rs[0]? = some x) (h : hr x 0 = none) : HB t 0 [] x := by
  subst e
  exact hb_of h10 hne hl hn rfl hx (hst_none h)
theorem hb1 : HB "\n" 0 [] Str.empty := hb_one (rs := [Str.empty, Str.empty]) (by decide) (by decide) (by decide) (by decide) (by decide) rfl (hr_empty 0)
theorem hb2 : HB " " 0 [] " " := hb_one (rs := [" "]) (by decide) (by decide) (by decide) (by decide) (by decide) rfl (hr_no1 0 (by decide))
theorem hb3 : HB "0 made -" 0 [] "0 made -" := hb_one (rs := ["0 made -"]) (by decide) (by decide) (by decide) (by decide) (by decide) rfl (hr_no3 (k := 0) (by decide) (by decide) (by decide))
theorem hb4 : HB "2 made -" 0 [] "2 made -" := hb_one (rs := ["2 made -"]) (by decide) (by decide) (by decide) (by decide) (by decide) rfl (hr_no3 (k := 2) (by decide) (by decide) (by decide))
theorem heard_all {ps : List (Nat × Ev)} {L : List (List Ev)} (c : Chn ps L) (hz : ps.length ≤ 60) : rowsOf (Str.join nl (rws ps)) = rws ps ∧ hAt (rws ps) (rws ps).length = some L ∧ (Str.join nl (rws ps)).length ≤ 1000000 := by
  have ok := rws_ok c hz
  refine ⟨rows_join (fun x hx => (ok x hx).1) (fun z => ?_), ?_, ?_⟩
  · have := (ok Str.empty (by rw [z]; exact List.mem_cons_self)).2.1
    exact absurd this (by decide)
  · obtain ⟨L', c', e'⟩ := hAt_good c (by omega) (ts := rws ps) ps.length (Nat.le_refl _) (fun _ _ => rfl)
    rw [List.take_length] at c'
    rw [rws_len, e', c.uniq c']
  · have sm := sum_le (rs := rws ps) (fun x hx => (ok x hx).2.2)
    rw [rws_len] at sm
    by_cases z : rws ps = []
    · rw [z]; decide
    · have := jl_lenN 10 z
      rw [rws_len] at this
      show (Str.join ⟨#[10]⟩ (rws ps)).length ≤ _
      omega
theorem hAt_no {rs : List Str} {L : List (List Ev)} (h : hAt rs rs.length = some L) : ∀ (i : Nat) L' x, hAt rs i = some L' → rs[i]? = some x → hst L' x = none → False := fun i L' x h1 h2 h3 => by
  have := hAt_mono (show i + 1 ≤ rs.length from (List.getElem?_eq_some_iff.mp h2).1) (hAt_bad h1 h2 h3)
  rw [h] at this; cases this
theorem al_pick {P : Nat → Addr → Prop} : ∀ (ys : List V) (k : Nat), (∀ (i : Nat) y, ys[i]? = some y → ∃ b, y = .ref b ∧ P (k + i) b) → ∃ bs : List Addr, ys = bs.map V.ref ∧ ∀ (i : Nat) b, bs[i]? = some b → P (k + i) b
  | [], k, _ => ⟨[], rfl, fun i b h => by simp at h⟩
  | y :: ys, k, h => by
    obtain ⟨b, rfl, hb⟩ := h 0 y rfl
    obtain ⟨bs, rfl, hbs⟩ := al_pick ys (k + 1) (fun i y hy => by
      have := h (i + 1) y hy
      rw [show k + (i + 1) = k + 1 + i by omega] at this
      exact this)
    refine ⟨b :: bs, rfl, fun i c hc => ?_⟩
    cases i with
    | zero => cases hc; exact hb
    | succ i =>
      have := hbs i c hc
      rw [show k + 1 + i = k + (i + 1) by omega] at this
      exact this
theorem al_ofget {α β : Type} {P : α → β → Prop} : ∀ {xs : List α} {ys : List β}, xs.length = ys.length → (∀ (i : Nat) x y, xs[i]? = some x → ys[i]? = some y → P x y) → Al P xs ys
  | [], [], _, _ => .nil
  | [], _ :: _, h, _ => by cases h
  | _ :: _, [], h, _ => by cases h
  | x :: xs, y :: ys, h, f => .cons (f 0 x y rfl rfl) (al_ofget (Nat.succ.inj h) fun i a b ha hb => f (i + 1) a b ha hb)
section
variable {K : PySem.W.Frag} {C_REFUSALS C_WORDS C_BadRow : Addr} {H : Hp} {Q : VK} {E : XK} {n : St → Hp → Prop} {bk ct : St → Hp → Prop}
theorem law_14 {r : Addr} {xs : List Str} {m : Nat} {L : List (List Ev)} {z : Str} {s0 s1 s2 s3 s4 s6 s7 s8 s9 s10 s12 s13 s14 s15 : Option V} (hr : H r = some (.lst (xs.map V.str))) (hn : xs.length ≤ 62) (hl : ∀ x ∈ xs, x.length ≤ 5000) (hb : HB (Str.join nl xs) m L z) (h : ∀ H', Q (.bl true) H') :
    rd_law_t0_14 K S_classes S_refused S_whole ⟨n, Q, bk, ct⟩ [s0, s1, s2, s3, s4, some (.ref r), s6, s7, s8, s9, s10, some (.int m), s12, s13, s14, s15] H := by
  unfold rd_law_t0_14
  walk_at "ev"
  have sm := sum_le hl
  refine ⟨("\n" : Str), r, xs, rfl, rfl, SqL.of hr, by decide, by omega, ?_⟩
  rw [show Txt.join "\n" xs = Str.join nl xs from StrLaws.glued_eq_join _ _]
  walk_at "ev"
  refine ⟨_, rfl, m, L, z, hb, fun H1 z1 => ?_⟩
  walk_at "ev"
  refine ⟨_, rfl, ?_⟩
  walk_at "ev"
  refine ifd (fun _ => ?_) (fun e => absurd rfl e)
  walk_at "ev"
  refine ⟨_, rfl, m, L, z, hb, fun p H2 z2 hp => ?_⟩
  walk_at "ev"
  refine ⟨by show 4 ≤ _; decide, fun q hq => ?_⟩
  walk_at "ev"
  refine ⟨p, q, _, _, rfl, rfl, SqL.of (same_new hq _ _ _ hp), SqL.of upd_same, fun _ => ⟨rfl, rfl⟩, ?_⟩
  exact h _
def PrA (H0 H : Hp) (q : Addr) (p : Nat × Ev) : Prop := ∃ a, H q = some (.tup [.int p.1, .ref a]) ∧ EvA H0 nS a p.2
theorem PrA.go {H0 H H' : Hp} {q : Addr} {p : Nat × Ev} (h : PrA H0 H q p) (k : ∀ x xs, H x = some (.tup xs) → H' x = some (.tup xs)) : PrA H0 H' q p := let ⟨a, h1, h2⟩ := h; ⟨a, k _ _ h1, h2⟩
structure Spo (ps : List (Nat × Ev)) (xs : List Str) (m : Nat) (i : Nat) : Prop where
  len : xs.length = ps.length
  le : m ≤ ps.length
  pre : ∀ j, j < m → xs[j]? = (rws ps)[j]?
  bad : m < ps.length → ∃ p z, ps[m]? = some p ∧ xs[m]? = some z ∧ Bad p.1 z
  go : 0 < i → m < ps.length
  ok : ∀ x ∈ xs, 10 ∉ x.cps.toList ∧ 1 ≤ x.length ∧ x.length ≤ 5000
theorem Spo.start {ps : List (Nat × Ev)} {L : List (List Ev)} (c : Chn ps L) (hz : ps.length ≤ 60) : Spo ps (rws ps) ps.length 0 :=
  ⟨rws_len ps, Nat.le_refl _, fun _ _ => rfl, fun z => absurd z (Nat.lt_irrefl _), fun z => absurd z (Nat.lt_irrefl _), fun x hx => let h := rws_ok c hz x hx; ⟨h.1, h.2.1, by omega⟩⟩
theorem Spo.step {ps : List (Nat × Ev)} {xs : List Str} {m i k : Nat} {p : Nat × Ev} {z : Str} (s : Spo ps xs m i) (hp : ps[k]? = some p) (hb : Bad p.1 z) : Spo ps (xs.set k z) (if k < m then k else m) (i + 1) := by
  have hk := (List.getElem?_eq_some_iff.mp hp).1
  have hm := s.le
  have hl := s.len
  refine ⟨by rw [List.length_set]; exact hl, by split <;> omega, fun j hj => ?_, fun _ => ?_, fun _ => ?_, fun x hx => ?_⟩
  · have : k ≠ j ∧ j < m := by split at hj <;> omega
    rw [List.getElem?_set_ne this.1]
    exact s.pre j this.2
  · split
    · exact ⟨p, z, hp, List.getElem?_set_self (by omega), hb⟩
    · by_cases e : k = m
      · subst e
        exact ⟨p, z, hp, List.getElem?_set_self (by omega), hb⟩
      · obtain ⟨p', z', h1, h2, h3⟩ := s.bad (by omega)
        exact ⟨p', z', h1, by rw [List.getElem?_set_ne e]; exact h2, h3⟩
  · split <;> omega
  · rcases List.mem_or_eq_of_mem_set hx with h | rfl
    · exact s.ok x h
    · exact ⟨hb.1, hb.2.1⟩
theorem law_12 {H0 : Hp} {sa r pr : Addr} {ns : List Int} {ps : List (Nat × Ev)} {L : List (List Ev)} {qs : List Addr} {s1 s2 s3 s4 s7 s8 s9 s10 s11 s12 s13 s14 s15 : Option V} (hS : SqL K H0 sa (ns.map V.int)) (c : Chn ps L) (hz : ps.length ≤ 60) (hn : ps ≠ []) (s0 : Same H0 H) (r0 : H0 r = none) (hr : H r = some (.lst ((rws ps).map V.str))) (hp : H pr = some (.lst (qs.map V.ref))) (al : Al (PrA H0 H) qs ps) (h : ∀ H', Q (.bl true) H') :
    rd_law_t0_12 K (S_at K) S_classes S_refused S_spoilt S_whole ⟨n, Q, bk, ct⟩ [some (.ref sa), s1, s2, s3, s4, some (.ref r), some (.ref pr), s7, s8, s9, s10, s11, s12, s13, s14, s15] H := by
  have hlen : 0 < ps.length := List.length_pos_iff.mpr hn
  have hlr := rws_len ps
  have npr : pr ≠ r := fun z => by
    rw [z, hr] at hp
    have hp := Option.some.inj hp
    injection hp with hp
    cases hw : rws ps with
    | nil => rw [hw] at hlr; exact absurd hlr (by simp; omega)
    | cons x xs =>
      rw [hw] at hp
      cases qs with
      | nil => cases hp
      | cons q qs => injection hp with z1 z2; cases z1
  unfold rd_law_t0_12
  walk_at "ev"
  refine i_lenL (SqL.of hr) ?_
  walk_at "ev"
  rw [List.length_map, hlr]
  refine ⟨sa, 1, rfl, ns, s0.seq hS, by decide, fun z => ?_⟩
  walk_at "ev"
  refine ⟨_, rfl, by omega, by omega, ?_⟩
  refine forR (fun i σ Hx => ∃ xs m v3 v10 v12 v13 v14, σ = [some (.ref sa), s1, s2, v3, s4, some (.ref r), some (.ref pr), s7, s8, s9, v10, some (.int (m : Nat)), v12, v13, v14, s15] ∧ Spo ps xs m i ∧ Hx r = some (.lst (xs.map V.str)) ∧ Hx pr = some (.lst (qs.map V.ref)) ∧ Al (PrA H0 Hx) qs ps ∧ Same H0 Hx) ⟨rws ps, ps.length, s3, s10, s12, s13, s14, rfl, .start c hz, hr, hp, al, s0⟩ ?_ ?_
  · rintro i σ Hx hi ⟨xs, m, v3, v10, v12, v13, v14, rfl, sp, hr1, hp1, al1, sx⟩
    have hi2 : i < 2 := by omega
    walk_at "ev"
    refine ⟨sa, _, rfl, ns, sx.seq hS, by omega, fun w => ?_⟩
    walk_at "ev"
    generalize (w + 7 * (0 + (i : Int)) + 3) * 69621 % 5003 = way
    have lx := sp.len
    refine i_lenL (SqL.of hr1) ?_
    rw [List.length_map, lx]
    walk_at "ev"
    have a0 : 0 ≤ way / 40 % (ps.length : Int) := Int.emod_nonneg _ (by omega)
    have a1 : way / 40 % (ps.length : Int) < ps.length := Int.emod_lt_of_pos _ (by omega)
    obtain ⟨k, ek⟩ : ∃ k : Nat, way / 40 % (ps.length : Int) = (k : Int) := ⟨_, (Int.toNat_of_nonneg a0).symm⟩
    rw [ek] at a0 a1 ⊢
    have hk : k < ps.length := by omega
    have lq := al1.length
    have hkp : ps[k]? = some ps[k] := List.getElem?_eq_getElem hk
    have hpm : ps[k] ∈ ps := List.getElem_mem hk
    obtain ⟨q, hq, av, ha, ea⟩ := al1.get hkp
    generalize ps[k] = p at hkp ha ea hpm
    refine i_ixL (SqL.of hp1) (atI_int a0 (by rw [Int.toNat_natCast, List.getElem?_map, hq]; rfl)) ?_
    walk_at "ev"
    refine ⟨_, _, rfl, SqT.of ha, rfl, ?_⟩
    refine ⟨_, _, rfl, ?_⟩
    walk_at "ev"
    refine ⟨_, _, rfl, ?_⟩
    walk_at "ev"
    refine ⟨rfl, ?_⟩
    walk_at "ev"
    have pn := c.len.2 p hpm
    refine ⟨_, _, _, rfl, p.1, p.2, nS, rfl, pn.1, by omega, ea.go (kx_same sx), c.good p hpm, fun y H2 s2' hy => ?_⟩
    walk_at "ev"
    have hr2 := s2' _ _ hr1
    refine ⟨r, _, _, k, rfl, rfl, hr2, ixN_nat (by rw [List.length_map]; omega), ?_⟩
    walk_at "ev"
    have em : (if (k : Int) < (m : Int) then (k : Int) else (m : Int)) = ((if k < m then k else m : Nat) : Int) := by
      by_cases z : k < m
      · rw [if_pos z, if_pos (by omega)]
      · rw [if_neg z, if_neg (by omega)]
    rw [em]
    refine ⟨xs.set k y, _, _, _, _, _, _, rfl, sp.step hkp hy, by rw [upd_same, List.map_set], by rw [upd_ne npr]; exact s2' _ _ hp1, al1.mono fun a b ab => ab.go fun x o hx => ?_, same_put (sx.trans s2') r0⟩
    rw [upd_ne (fun e => by rw [e, hr1] at hx; cases hx)]
    exact s2' _ _ hx
  · rintro σ Hx ⟨xs, m, v3, v10, v12, v13, v14, rfl, sp, hr1, hp1, al1, sx⟩
    have hm := sp.go (by omega)
    obtain ⟨p, w, h1, h2, h3⟩ := sp.bad hm
    obtain ⟨L', hb⟩ := hb_bad c hz h1 sp.len sp.pre h2 h3 sp.ok
    exact law_14 hr1 (by have := sp.len; omega) (fun x hx => (sp.ok x hx).2.2) hb h
theorem app_empty (t : Str) : t ++ Str.empty = t := str_ext (by rw [PyProof.Rows.cps_toList_append]; exact List.append_nil _)
theorem nl_ins {rs : List Str} (h : rs ≠ []) : Str.join nl rs ++ ("\n" : Str) = Str.join nl (rs.take rs.length ++ [Str.empty] ++ rs.drop rs.length) := by
  rw [List.take_length, List.drop_length, List.append_nil]
  show _ = Str.join ⟨#[10]⟩ _
  rw [jl_snocN 10 Str.empty h, app_empty]
  rfl
theorem cut_take {xs : List V} {k : Nat} (h : k ≤ xs.length) : cutV xs none (some (k : Int)) = xs.take k := by
  have x1 : HT.sIx xs.length xs.length (some (k : Int)) = k := by
    unfold HT.sIx
    dsimp only
    rw [if_neg (by omega)]
    simp; omega
  unfold cutV
  rw [x1]
  rfl
theorem cut_drop {xs : List V} {k : Nat} (h : k ≤ xs.length) : cutV xs (some (k : Int)) none = xs.drop k := by
  have x1 : HT.sIx xs.length 0 (some (k : Int)) = k := by
    unfold HT.sIx
    dsimp only
    rw [if_neg (by omega)]
    simp; omega
  unfold cutV
  rw [x1]
  exact List.take_of_length_le (by rw [List.length_drop]; exact Nat.le_refl _)
theorem law_9 {H0 : Hp} {sa r pr : Addr} {ns : List Int} {ps : List (Nat × Ev)} {L : List (List Ev)} {qs : List Addr} {s1 s2 s3 s4 s7 s9 s10 s11 s12 s13 s14 s15 : Option V} (hS : SqL K H0 sa (ns.map V.int)) (c : Chn ps L) (hz : ps.length ≤ 60) (s0 : Same H0 H) (r0 : H0 r = none) (hr : H r = some (.lst ((rws ps).map V.str))) (hp : H pr = some (.lst (qs.map V.ref))) (al : Al (PrA H0 H) qs ps) (h : ∀ H', Q (.bl true) H') :
    rd_law_t0_9 K (S_at K) S_classes S_refused S_spoilt S_whole ⟨n, Q, bk, ct⟩ [some (.ref sa), s1, s2, s3, s4, some (.ref r), some (.ref pr), s7, some (.str (Str.join nl (rws ps))), s9, s10, s11, s12, s13, s14, s15] H := by
  have hlr := rws_len ps
  unfold rd_law_t0_9
  walk_at "ev"
  refine i_lenL (SqL.of hr) ?_
  rw [List.length_map, hlr]
  walk_at "ev"
  refine ifd (fun e => ?_) (fun e => ?_)
  · walk_at "ev"
    refine ⟨_, rfl, 0, _, _, hb1, fun H1 z1 => ?_⟩
    walk_at "ev"
    refine ifnd (fun z => absurd (by decide) z) (fun _ => ?_)
    walk_at "ev"
    refine ⟨_, rfl, 0, _, _, hb2, fun H2 z2 => ?_⟩
    walk_at "ev"
    refine ifnd (fun z => absurd (by decide) z) (fun _ => ?_)
    walk_at "ev"
    refine ⟨_, rfl, 0, _, _, hb3, fun H3 z3 => ?_⟩
    walk_at "ev"
    refine ifd (fun _ => ?_) (fun z => absurd (by decide) z)
    walk_at "ev"
    refine ⟨_, rfl, 0, _, _, hb4, fun H4 z4 => ?_⟩
    walk_at "ev"
    exact h _
  · walk_at "ev"
    refine ⟨sa, 3, rfl, ns, s0.seq hS, by decide, fun z => ?_⟩
    walk_at "ev"
    refine i_lenL (SqL.of hr) ?_
    rw [List.length_map, hlr]
    walk_at "ev"
    have a0 : 0 ≤ z % ((ps.length : Int) + 1) := Int.emod_nonneg _ (by omega)
    have a1 : z % ((ps.length : Int) + 1) < ps.length + 1 := Int.emod_lt_of_pos _ (by omega)
    obtain ⟨k, ek⟩ : ∃ k : Nat, z % ((ps.length : Int) + 1) = (k : Int) := ⟨_, (Int.toNat_of_nonneg a0).symm⟩
    rw [ek] at a0 a1 ⊢
    have hn : ps ≠ [] := fun z => e (by rw [z]; rfl)
    have hrn : rws ps ≠ [] := fun z => e (by rw [← hlr, z]; rfl)
    have l0 := (heard_all c hz).2.2
    have lj : (Str.join nl (rws ps)).length ≤ 170000 := by
      have ok := rws_ok c hz
      have sm := sum_le (rs := rws ps) (fun x hx => (ok x hx).2.2)
      have := jl_lenN 10 hrn
      show (Str.join ⟨#[10]⟩ (rws ps)).length ≤ _
      omega
    refine i_catS (len_ok (by show _ + 1 ≤ _; omega)) ?_
    rw [nl_ins hrn, hlr]
    walk_at "ev"
    obtain ⟨L1, g1⟩ := hb_ins c hz hn (Nat.le_refl _)
    refine ⟨_, rfl, _, _, _, g1, fun H1 z1 => ?_⟩
    walk_at "ev"
    have hr1 := z1 _ _ hr
    refine i_lenL (SqL.of hr1) ?_
    rw [List.length_map, hlr]
    walk_at "ev"
    refine ifnd (fun z => absurd rfl z) (fun _ => ?_)
    walk_at "ev"
    have kx : k ≤ ((rws ps).map V.str).length := by rw [List.length_map, hlr]; omega
    refine ⟨r, _, rfl, SqL.of hr1, fun q1 hq1 => ?_⟩
    rw [cut_take kx]
    have z2 := same_new hq1 (.lst (((rws ps).map V.str).take k))
    have c2 : upd H1 q1 (.lst (((rws ps).map V.str).take k)) q1 = some (.lst (((rws ps).map V.str).take k)) := upd_same
    generalize upd H1 q1 (.lst (((rws ps).map V.str).take k)) = H2 at z2 c2 ⊢
    walk_at "ev"
    refine ⟨by decide, fun q2 hq2 => ?_⟩
    have z3 := same_new hq2 (.lst [.str ("" : Str)])
    have c3 : upd H2 q2 (.lst [.str ("" : Str)]) q2 = some (.lst [.str ("" : Str)]) := upd_same
    generalize upd H2 q2 (.lst [.str ("" : Str)]) = H3 at z3 c3 ⊢
    walk_at "ev"
    have lt : (((rws ps).map V.str).take k).length = k := by rw [List.length_take]; omega
    refine ⟨q1, q2, ((rws ps).map V.str).take k, [.str ("" : Str)], rfl, rfl, z3 _ _ c2, c3, by rw [lt, sizeLine_eq]; show k + 1 ≤ _; omega, fun q3 hq3 => ?_⟩
    have e4 : ((rws ps).map V.str).take k ++ [.str ("" : Str)] = ((rws ps).take k ++ [Str.empty]).map V.str := by rw [List.map_append, List.map_take]; rfl
    rw [e4]
    have z4 := same_new hq3 (.lst (((rws ps).take k ++ [Str.empty]).map V.str))
    have c4 : upd H3 q3 (.lst (((rws ps).take k ++ [Str.empty]).map V.str)) q3 = some (.lst (((rws ps).take k ++ [Str.empty]).map V.str)) := upd_same
    generalize upd H3 q3 (.lst (((rws ps).take k ++ [Str.empty]).map V.str)) = H4 at z4 c4 ⊢
    walk_at "ev"
    refine ⟨r, _, rfl, SqL.of (z4 _ _ (z3 _ _ (z2 _ _ hr1))), fun q4 hq4 => ?_⟩
    rw [cut_drop kx, ← List.map_drop]
    have z5 := same_new hq4 (.lst (((rws ps).drop k).map V.str))
    have c5 : upd H4 q4 (.lst (((rws ps).drop k).map V.str)) q4 = some (.lst (((rws ps).drop k).map V.str)) := upd_same
    generalize upd H4 q4 (.lst (((rws ps).drop k).map V.str)) = H5 at z5 c5 ⊢
    walk_at "ev"
    refine ⟨q3, q4, _, _, rfl, rfl, z5 _ _ c4, c5, by rw [List.length_map, List.length_map, List.length_append, List.length_take, List.length_drop, hlr, sizeLine_eq]; show min _ _ + 1 + _ ≤ _; omega, fun q5 hq5 => ?_⟩
    rw [← List.map_append]
    have z6 := same_new hq5 (.lst (((rws ps).take k ++ [Str.empty] ++ (rws ps).drop k).map V.str))
    have c6 : upd H5 q5 (.lst (((rws ps).take k ++ [Str.empty] ++ (rws ps).drop k).map V.str)) q5 = some (.lst (((rws ps).take k ++ [Str.empty] ++ (rws ps).drop k).map V.str)) := upd_same
    generalize upd H5 q5 (.lst (((rws ps).take k ++ [Str.empty] ++ (rws ps).drop k).map V.str)) = H6 at z6 c6 ⊢
    walk_at "ev"
    have hm : ∀ x ∈ (rws ps).take k ++ [Str.empty] ++ (rws ps).drop k, x.length ≤ 5000 := fun x hx => by
      have ok := rws_ok c hz
      rcases List.mem_append.mp hx with hx | hx
      · rcases List.mem_append.mp hx with hx | hx
        · have := ok x (List.mem_of_mem_take hx); omega
        · rw [List.mem_singleton.mp hx]; decide
      · have := ok x (List.mem_of_mem_drop hx); omega
    have sm := sum_le hm
    have hlm : ((rws ps).take k ++ [Str.empty] ++ (rws ps).drop k).length = ps.length + 1 := by
      rw [List.length_append, List.length_append, List.length_take, List.length_drop, hlr]
      show min _ _ + 1 + _ = _
      omega
    refine ⟨("\n" : Str), q5, _, rfl, rfl, SqL.of c6, by decide, by omega, ?_⟩
    rw [show Txt.join "\n" ((rws ps).take k ++ [Str.empty] ++ (rws ps).drop k) = Str.join nl ((rws ps).take k ++ [Str.empty] ++ (rws ps).drop k) from StrLaws.glued_eq_join _ _]
    walk_at "ev"
    obtain ⟨L2, g2⟩ := hb_ins c hz hn (show k ≤ ps.length by omega)
    refine ⟨_, rfl, _, _, _, g2, fun H7 z7 => ?_⟩
    walk_at "ev"
    refine ifnd (fun z => absurd rfl z) (fun _ => ?_)
    have sA : Same H H7 := z1.trans (z2.trans (z3.trans (z4.trans (z5.trans (z6.trans z7)))))
    walk_at "ev"
    exact law_12 hS c hz hn (s0.trans sA) r0 (sA _ _ hr) (sA _ _ hp) (al.mono fun a b ab => ab.go fun x o hx => sA _ _ hx) h
theorem al_two {α : Type} {P P' : Addr → α → Prop} {R : V → V → Prop} {as : List Addr} {xs : List α} (h : Al P as xs) : ∀ {bs : List Addr}, Al P' bs xs → (∀ a b x, x ∈ xs → P a x → P' b x → R (.ref a) (.ref b)) → Al R (as.map V.ref) (bs.map V.ref) := by
  induction h with
  | nil =>
    intro bs h' _
    cases h'
    exact .nil
  | cons p _ ih =>
    intro bs h' f
    cases h' with
    | cons p' u' => exact .cons (f _ _ _ List.mem_cons_self p p') (ih u' fun a b x hx => f a b x (List.mem_cons_of_mem _ hx))
theorem ints_flat (ns : List Int) : (ns.map V.int).all flatV = true := by
  rw [List.all_eq_true]
  intro x hx
  obtain ⟨i, _, rfl⟩ := List.mem_map.mp hx
  rfl
theorem dq_ev {d : Nat} {a b : Addr} {e : Ev} (g : Gd e) (ha : EvA H nS a e) (hb : EvA H nS b e) : Dq K H (d + 2) (.ref a) (.ref b) := by
  obtain ⟨_, m, _, a1, a2⟩ := ha
  obtain ⟨_, k, _, b1, b2⟩ := hb
  have th : flatV e.2.1 = true := by rcases g.th with z | ⟨i, z⟩ | ⟨s, z⟩ <;> rw [z] <;> rfl
  exact .inr ⟨a, b, rfl, rfl, .inr ⟨_, _, .inr ⟨SqT.of a1, SqT.of b1⟩, .cons (dq_flat rfl) (.cons (dq_flat th) (.cons (.inr ⟨m, k, rfl, rfl, .inr ⟨_, _, .inl ⟨SqL.of a2, SqL.of b2⟩, dq_flats (ints_flat _)⟩⟩) .nil))⟩⟩
theorem dq_ls {d : Nat} {a b : Addr} {es : List Ev} (g : ∀ e ∈ es, Gd e) (ha : LsA H nS a es) (hb : LsA H nS b es) : Dq K H (d + 3) (.ref a) (.ref b) := by
  obtain ⟨_, as, a1, a2⟩ := ha
  obtain ⟨_, bs, b1, b2⟩ := hb
  exact .inr ⟨a, b, rfl, rfl, .inr ⟨_, _, .inl ⟨SqL.of a1, SqL.of b1⟩, al_two a2 b2 fun a b e he ha hb => dq_ev (g e he) ha hb⟩⟩
theorem Chn.goodL {ps : List (Nat × Ev)} {L : List (List Ev)} (c : Chn ps L) : ∀ es ∈ L, ∀ e ∈ es, Gd e := by
  intro es hes e he
  obtain ⟨i, hi⟩ := List.getElem?_of_mem hes
  have := flt_mem (k := 0) hi he
  rw [c.flat] at this
  exact c.good _ this
theorem law_7 (T : TxE K C_REFUSALS C_WORDS C_BadRow) {H0 : Hp} {sa l ha r pr : Addr} {ns : List Int} {ps : List (Nat × Ev)} {L : List (List Ev)} {qs : List Addr} {s2 s3 s7 s10 s11 s12 s13 s14 s15 : Option V} (hS : SqL K H0 sa (ns.map V.int)) (c : Chn ps L) (hz : ps.length ≤ 60) (s0 : Same H0 H) (hl : LogA H0 l L) (hh : LogA H0 ha L) (r0 : H0 r = none) (hr : H r = some (.lst ((rws ps).map V.str))) (hp : H pr = some (.lst (qs.map V.ref))) (al : Al (PrA H0 H) qs ps) (h : ∀ H', Q (.bl true) H') :
    rd_law_t0_7 K (S_at K) S_classes S_refused S_slog S_spoilt S_whole (S_heard C_BadRow) ⟨n, Q, bk, ct⟩ [some (.ref sa), some (.ref l), s2, s3, some (.ref ha), some (.ref r), some (.ref pr), s7, some (.str (Str.join nl (rws ps))), some (.str (Str.join nl (rws ps))), s10, s11, s12, s13, s14, s15] H := by
  have hl1 := hl.same s0
  have hh1 := hh.same s0
  unfold rd_law_t0_7
  walk_at "ev"
  refine ifnd (fun z => absurd rfl z) (fun _ => ?_)
  walk_at "ev"
  have hl2 := hl1
  have hh2 := hh1
  obtain ⟨bs, b1, b2⟩ := hl2
  obtain ⟨cs, c1, c2⟩ := hh2
  refine i_eqN (.inl ⟨SqL.of c1, SqL.of b1⟩) (al_two c2 b2 fun a b es he ha hb => dq_ls (c.goodL es he) ha hb) ?_
  walk_at "ev"
  obtain ⟨e1, e2, e3⟩ := heard_all c hz
  have ok := rws_ok c hz
  have hlr := rws_len ps
  refine ⟨_, rfl, e3, by rw [e1]; omega, fun x hx => by rw [e1] at hx; have := ok x hx; omega, fun L' hL' a H' s lg => ?_, fun i L' x h1 h2 h3 => ?_⟩
  · rw [e1, e2] at hL'
    cases hL'
    walk_at "ev"
    refine ⟨a, l, rfl, L, lg, hl1.same s, c.goodL, fun H2 z2 => ?_⟩
    walk_at "ev"
    have sA := s.trans z2
    exact law_9 hS c hz (s0.trans sA) r0 (sA _ _ hr) (sA _ _ hp) (al.mono fun a b ab => ab.go fun x o hx => sA _ _ hx) h
  · rw [e1] at h1 h2
    exact absurd (hAt_no e2 i L' x h1 h2 h3) id
theorem law_2 (T : TxE K C_REFUSALS C_WORDS C_BadRow) {sa l ha : Addr} {ns : List Int} {ps : List (Nat × Ev)} {L : List (List Ev)} (hS : SqL K H sa (ns.map V.int)) (c : Chn ps L) (hz : ps.length ≤ 60) (hl : LogA H l L) (hh : LogA H ha L) (h : ∀ H', Q (.bl true) H') :
    rd_law_t0_2 K (S_at K) S_classes S_refused S_slog S_spoilt S_text S_whole (S_heard C_BadRow) S_report ⟨n, Q, bk, ct⟩ [some (.ref sa), some (.ref l), none, none, some (.ref ha), none, none, none, none, none, none, none, none, none, none, none] H := by
  have hfl := c.flat
  have hle := c.len.1
  have hl' := hl
  obtain ⟨bs, hb, alb⟩ := hl'
  have lbs := alb.length
  unfold rd_law_t0_2
  walk_at "ev"
  refine ⟨by decide, fun r hr => ?_⟩
  have s1 := same_new hr (.lst [])
  have c1 : upd H r (.lst []) r = some (.lst []) := upd_same
  generalize upd H r (.lst []) = H1 at s1 c1 ⊢
  walk_at "ev"
  refine ⟨by decide, fun pr hpr => ?_⟩
  have npr : pr ≠ r := fun z => by rw [z, c1] at hpr; cases hpr
  have s2 := same_new hpr (.lst [])
  have c2 : upd H1 pr (.lst []) pr = some (.lst []) := upd_same
  have hpr0 := fresh_of s1 hpr
  generalize upd H1 pr (.lst []) = H2 at s2 c2 ⊢
  walk_at "ev"
  refine ⟨l, rfl, ⟨_, SqL.of ((s1.trans s2) _ _ hb)⟩, ?_⟩
  refine forE (bs.map V.ref) (fun i σ Hx => ∃ v2 v3 v7 qs, σ = [some (.ref sa), some (.ref l), v2, v3, some (.ref ha), some (.ref r), some (.ref pr), v7, none, none, none, none, none, none, none, none] ∧ Same H Hx ∧ Hx r = some (.lst ((rws (flt 0 (L.take i))).map V.str)) ∧ Hx pr = some (.lst (qs.map V.ref)) ∧ Al (PrA H Hx) qs (flt 0 (L.take i))) ⟨none, none, none, [], rfl, s1.trans s2, s2 _ _ c1, c2, .nil⟩ ?_ ?_ ?_
  · rintro i σ Hx _ ⟨v2, v3, v7, qs, rfl, sx, _, _, _⟩; exact SqL.of (sx _ _ hb)
  · rintro i x tp σ Hx hx ⟨v2, v3, v7, qs, rfl, sx, cr, cp, al⟩ htp
    rw [List.getElem?_map] at hx
    obtain ⟨b, hbi, rfl⟩ := Option.map_eq_some_iff.mp hx
    obtain ⟨es, hes, ⟨_, as, has, ale⟩⟩ := alb.getL hbi
    have las := ale.length
    have hi : i < 60 := by have := (List.getElem?_eq_some_iff.mp hes).1; omega
    have s3 := same_new htp (.tup [.int i, .ref b])
    have c3 : upd Hx tp (.tup [.int i, .ref b]) tp = some (.tup [.int i, .ref b]) := upd_same
    generalize upd Hx tp (.tup [.int i, .ref b]) = H3 at s3 c3 ⊢
    refine ⟨tp, _, rfl, SqT.of c3, rfl, ?_⟩
    refine ⟨_, _, rfl, ?_⟩
    walk_at "ev"
    refine ⟨_, _, rfl, ?_⟩
    walk_at "ev"
    refine ⟨rfl, ?_⟩
    walk_at "ev"
    refine ⟨b, rfl, ⟨_, SqL.of (s3 _ _ (sx _ _ has))⟩, ?_⟩
    have fl := flt_le L 0 (i + 1)
    rw [hfl, flt_take hes, List.length_append, List.length_map] at fl
    refine forL (as.map V.ref) (fun j σ Hy => ∃ v3 qs, σ = [some (.ref sa), some (.ref l), some (.ref b), v3, some (.ref ha), some (.ref r), some (.ref pr), some (.int i), none, none, none, none, none, none, none, none] ∧ Same H Hy ∧ Hy r = some (.lst ((rws (flt 0 (L.take i) ++ (es.take j).map (fun e => (0 + i + 1, e)))).map V.str)) ∧ Hy pr = some (.lst (qs.map V.ref)) ∧ Al (PrA H Hy) qs (flt 0 (L.take i) ++ (es.take j).map (fun e => (0 + i + 1, e)))) ⟨v3, qs, rfl, sx.trans s3, by rw [List.take_zero, List.map_nil, List.append_nil]; exact s3 _ _ cr, s3 _ _ cp, by rw [List.take_zero, List.map_nil, List.append_nil]; exact al.mono fun a b ab => ab.go fun x o hx => s3 _ _ hx⟩ ?_ ?_ ?_
    · rintro j σ Hy _ ⟨v3, qs, rfl, sy, _, _, _⟩; exact SqL.of (sy _ _ has)
    · rintro j x σ Hy hx ⟨v3, qs, rfl, sy, dr, dp, al2⟩
      rw [List.getElem?_map] at hx
      obtain ⟨av, hav, rfl⟩ := Option.map_eq_some_iff.mp hx
      obtain ⟨e, he, ea⟩ := ale.getL hav
      have hj := (List.getElem?_eq_some_iff.mp he).1
      have lq := al2.length
      rw [List.length_append, List.length_map, List.length_take] at lq
      walk_at "ev"
      refine ⟨.inl ⟨rfl, _, SqL.of dp⟩, ?_⟩
      walk_at "ev"
      refine ⟨by show 2 ≤ _; decide, fun q hq => ?_⟩
      have s4 := same_new hq (.tup [.int ((i : Int) + 1), .ref av])
      have c4 : upd Hy q (.tup [.int ((i : Int) + 1), .ref av]) q = some (.tup [.int ((i : Int) + 1), .ref av]) := upd_same
      generalize upd Hy q (.tup [.int ((i : Int) + 1), .ref av]) = H4 at s4 c4 ⊢
      walk_at "ev"
      have dp4 := s4 _ _ dp
      have dr4 := s4 _ _ dr
      refine ⟨pr, _, _, rfl, rfl, dp4, by rw [List.length_map, sizeLine_eq]; omega, ?_⟩
      have k5 : ∀ x xs, H4 x = some (.tup xs) → upd H4 pr (.lst (qs.map V.ref ++ [.ref q])) x = some (.tup xs) := fun x xs hx => by rw [upd_ne (fun e => by rw [e, dp4] at hx; cases hx)]; exact hx
      have dr5 : upd H4 pr (.lst (qs.map V.ref ++ [.ref q])) r = some (.lst ((rws (flt 0 (L.take i) ++ (es.take j).map (fun e => (0 + i + 1, e)))).map V.str)) := by rw [upd_ne (Ne.symm npr)]; exact dr4
      have dp5 : upd H4 pr (.lst (qs.map V.ref ++ [.ref q])) pr = some (.lst ((qs ++ [q]).map V.ref)) := by rw [upd_same, List.map_append]; rfl
      have s5 : Same H (upd H4 pr (.lst (qs.map V.ref ++ [.ref q]))) := same_put (sy.trans s4) hpr0
      generalize upd H4 pr (.lst (qs.map V.ref ++ [.ref q])) = H5 at k5 dr5 dp5 s5 ⊢
      walk_at "ev"
      refine ⟨.inl ⟨rfl, _, SqL.of dr5⟩, ?_⟩
      walk_at "ev"
      refine ⟨_, _, rfl, e, nS, ea.go (kx_same s5), c.goodL es (List.mem_of_getElem? hes) e (List.mem_of_getElem? he), by omega, by omega, ?_⟩
      walk_at "ev"
      refine ⟨r, _, _, rfl, rfl, dr5, by unfold rws; rw [List.length_map, List.length_map, List.length_append, List.length_map, List.length_take, sizeLine_eq]; omega, ?_⟩
      have e1 : ((0 + i + 1 : Nat) : Int) = (i : Int) + 1 := by omega
      have ej : es.take (j + 1) = es.take j ++ [e] := by rw [List.take_add_one, he]; rfl
      walk_at "ev"
      refine ⟨_, qs ++ [q], rfl, same_put s5 hr, ?_, by rw [upd_ne npr]; exact dp5, ?_⟩
      · rw [upd_same, ej]
        unfold rws
        rw [List.map_append (l₁ := es.take j), ← List.append_assoc, List.map_append (l₂ := [e].map _), List.map_append (f := V.str)]
        show _ = some (HO.lst (_ ++ [V.str (txR ((0 + i + 1 : Nat) : Int) e)]))
        rw [e1]
      · rw [ej, List.map_append, ← List.append_assoc]
        have k6 : ∀ x xs, H5 x = some (.tup xs) → upd H5 r (.lst ((rws (flt 0 (L.take i) ++ (es.take j).map (fun e => (0 + i + 1, e)))).map V.str ++ [.str (txR ((i : Int) + 1) e)])) x = some (.tup xs) := fun x xs hx => by rw [upd_ne (fun e => by rw [e, dr5] at hx; cases hx)]; exact hx
        refine Al.app (al2.mono fun a b ab => ab.go fun x o hx => k6 _ _ (k5 _ _ (s4 _ _ hx))) ⟨av, k6 _ _ (k5 _ _ ?_), ea⟩
        show H4 q = some (.tup [.int ((0 + i + 1 : Nat) : Int), .ref av])
        rw [e1]; exact c4
    · rintro σ Hy ⟨v3, qs, rfl, sy, dr, dp, al2⟩
      rw [List.length_map, las, List.take_length, ← flt_take hes] at dr al2
      exact ⟨_, _, _, qs, rfl, sy, dr, dp, al2⟩
  · rintro σ Hx ⟨v2, v3, v7, qs, rfl, sx, cr, cp, al⟩
    rw [List.length_map, lbs, List.take_length, hfl] at cr al
    unfold rd_law_t0_5
    walk_at "ev"
    have ok := rws_ok c hz
    have sm := sum_le (rs := rws ps) (fun x hx => (ok x hx).2.2)
    have hlr := rws_len ps
    refine ⟨("\n" : Str), r, _, rfl, rfl, SqL.of cr, by decide, by omega, ?_⟩
    rw [show Txt.join "\n" (rws ps) = Str.join nl (rws ps) from StrLaws.glued_eq_join _ _]
    walk_at "ev"
    refine ⟨ha, rfl, L, hh.same sx, fun p hp => by rw [hfl] at hp; exact c.good p hp, by omega, by rw [hfl]; omega, fun H5 s5 => ?_⟩
    rw [hfl]
    walk_at "ev"
    exact law_7 T hS c hz (sx.trans s5) hl hh hr (s5 _ _ cr) (s5 _ _ cp) (al.mono fun a b ab => ab.go fun x o hx => s5 _ _ hx) h
def S_law (K : PySem.W.Frag) : Sp := fun vs H Q E => ∃ a, vs = [.ref a] ∧ ∃ ns : List Int, SqL K H a (ns.map V.int) ∧ ns.length ≤ 63 ∧ BitsOk ns ∧ ∀ H', Q (.bl true) H'
theorem law_rd (T : TxE K C_REFUSALS C_WORDS C_BadRow) {a : Addr} (q : ∃ ns : List Int, SqL K H a (ns.map V.int) ∧ ns.length ≤ 63 ∧ BitsOk ns ∧ ∀ H', Q (.bl true) H') : rd_law K (S_at K) S_classes (S_logby K) S_refused S_slog S_spoilt S_text S_whole (S_heard C_BadRow) S_report ⟨n, Q, bk, ct⟩ [some (.ref a), none, none, none, none, none, none, none, none, none, none, none, none, none, none, none] H := by
  obtain ⟨ns, hS, hlen, hbits, h⟩ := q
  unfold rd_law
  walk_at "ev"
  refine ⟨a, rfl, ns, hS, hlen, hbits, fun l ps L H1 s1 hl c hz => ?_⟩
  walk_at "ev"
  have hl' := hl
  obtain ⟨bs, hb, alb⟩ := hl'
  have lbs := alb.length
  have hle := c.len.1
  refine i_lcg ?_
  walk_at "ev"
  refine ⟨l, rfl, ⟨_, SqL.of hb⟩, ?_⟩
  refine lc_newL (SqL.of hb) (by rw [List.length_map]; omega) (fun i y Hx => ∃ b, y = .ref b ∧ ∃ es, L[i]? = some es ∧ LsA Hx nS b es) (fun i y Ha Hb ⟨b, e1, es, e2, e3⟩ sm => ⟨b, e1, es, e2, e3.go (kx_same sm)⟩) (fun x Ha q hq => hq) (fun i x Ha hx sa q hq => ?_) fun ys H5 s5 hyl hy pl hpl => ?_
  · rw [List.getElem?_map] at hx
    obtain ⟨b, hbi, rfl⟩ := Option.map_eq_some_iff.mp hx
    obtain ⟨es, hes, ⟨_, as, has, ale⟩⟩ := alb.getL hbi
    have las := ale.length
    have lel := c.le es (List.mem_of_getElem? hes)
    walk_at "caps"
    walk_at "ev"
    refine i_lcg ?_
    walk_at "ev"
    have has1 := sa _ _ has
    refine ⟨b, rfl, ⟨_, SqL.of has1⟩, ?_⟩
    refine lc_newL (SqL.of has1) (by rw [List.length_map]; omega) (fun j y Hx => ∃ av, y = .ref av ∧ ∃ e, es[j]? = some e ∧ EvA Hx nS av e) (fun i y Ha Hb ⟨b, e1, es, e2, e3⟩ sm => ⟨b, e1, es, e2, e3.go (kx_same sm)⟩) (fun x Ha q hq => hq) (fun j x Hc hx sc q2 hq2 => ?_) fun zs H6 s6 hzl hzz pz hpz => ?_
    · rw [List.getElem?_map] at hx
      obtain ⟨av, hav, rfl⟩ := Option.map_eq_some_iff.mp hx
      obtain ⟨e, he, ea⟩ := ale.getL hav
      obtain ⟨m, r1, r2⟩ := ea.row
      have sH := sa.trans sc
      have r1 := sH _ _ r1
      have r2 := sH _ _ r2
      walk_at "caps"
      walk_at "ev"
      refine ⟨av, _, 0, _, rfl, rfl, SqT.of r1, rfl, ?_⟩
      walk_at "ev"
      refine ⟨av, _, 1, _, rfl, rfl, SqT.of r1, rfl, ?_⟩
      walk_at "ev"
      refine ⟨av, _, 2, _, rfl, rfl, SqT.of r1, rfl, ?_⟩
      walk_at "ev"
      refine ⟨m, _, rfl, SqL.of r2, fun k hk => ?_⟩
      have z1 := same_new hk (.lst (e.2.2.map V.int))
      have d1 : upd Hc k (.lst (e.2.2.map V.int)) k = some (.lst (e.2.2.map V.int)) := upd_same
      refine ⟨by show 3 ≤ _; decide, fun pt hpt => ?_⟩
      have z2 := same_new hpt (.tup [.str e.1, e.2.1, .ref k])
      exact hq2 _ _ (z1.trans z2) ⟨pt, rfl, e, he, fun z => z, k, fun z => z, upd_same, z2 _ _ d1⟩
    · obtain ⟨as', rfl, hp⟩ := al_pick (P := fun j av => ∃ e, es[j]? = some e ∧ EvA H6 nS av e) zs 0 (fun j y hyj => by rw [Nat.zero_add]; exact hzz j y hyj)
      have z2 := same_new hpz (.lst (as'.map V.ref))
      rw [List.length_map, List.length_map] at hzl
      refine hq _ _ (s6.trans z2) ⟨pz, rfl, es, hes, fun z => z, as', upd_same, al_ofget (by omega) fun j x y hx hy => ?_⟩
      obtain ⟨e, he, ee⟩ := hp j x hx
      rw [Nat.zero_add, hy] at he
      cases he
      exact ee.go (kx_same z2)
  · obtain ⟨bs', rfl, hp⟩ := al_pick (P := fun j b => ∃ es, L[j]? = some es ∧ LsA H5 nS b es) ys 0 (fun j y hyj => by rw [Nat.zero_add]; exact hy j y hyj)
    have z2 := same_new hpl (.lst (bs'.map V.ref))
    have d2 : upd H5 pl (.lst (bs'.map V.ref)) pl = some (.lst (bs'.map V.ref)) := upd_same
    rw [List.length_map, List.length_map] at hyl
    have sA := s1.trans (s5.trans z2)
    walk_at "ev"
    refine law_2 T (sA.seq hS) c hz (hl.same (s5.trans z2)) ⟨bs', d2, al_ofget (by omega) fun j x y hx hy => ?_⟩ h
    obtain ⟨e, he, ee⟩ := hp j x hx
    rw [Nat.zero_add, hy] at he
    cases he
    exact ee.go (kx_same z2)
end

def top (i : Nat) : Stmt := PySem.Challenge.pw_greywalk_k39_logs_heard.main.body.getD i (.Pass ⟨0, 0, 0, 0⟩)
abbrev s_TextError___init__ : Stmt := inClass (top 2) 0
abbrev s_made_of : Stmt := top 9
abbrev s_number_of : Stmt := top 10
abbrev s_load_of : Stmt := top 11
abbrev s_event_row : Stmt := top 17
abbrev s_event_of : Stmt := top 18
abbrev s_has_thing : Stmt := top 19
abbrev s_thing_of : Stmt := top 20
abbrev s_report : Stmt := top 21
abbrev s_heard : Stmt := top 22
abbrev s_goes_on : Stmt := top 23
abbrev s__law_cell_at : Stmt := top 25
abbrev s__law_whole : Stmt := top 26
abbrev s__law_words : Stmt := top 27
abbrev s__law_event_by : Stmt := top 28
abbrev s__law_text_of : Stmt := top 29
abbrev s__law_spoilt : Stmt := top 30
abbrev s__law_same : Stmt := top 31
abbrev s__law_same_log : Stmt := top 32
abbrev s__law_refused : Stmt := top 33
abbrev s__law_classes : Stmt := top 34
abbrev s__law_log_by : Stmt := top 35
abbrev s_law : Stmt := top 36
structure Txt (K : PySem.W.Frag) (mg : Str → Option Value) (C_GreyError C_TextError C_BadRow C_Twice C_NoSlot C_REFUSALS C_WORDS f_TextError___init__ f_made_of f_number_of f_load_of f_event_row f_event_of f_has_thing f_thing_of f_report f_heard f_goes_on f__law_cell_at f__law_whole f__law_words f__law_event_by f__law_text_of f__law_spoilt f__law_same f__law_same_log f__law_refused f__law_classes f__law_log_by : Addr) : Prop where
  m_GreyError : mg "GreyError" = some (.ref C_GreyError)
  m_TextError : mg "TextError" = some (.ref C_TextError)
  m_BadRow : mg "BadRow" = some (.ref C_BadRow)
  m_Twice : mg "Twice" = some (.ref C_Twice)
  m_NoSlot : mg "NoSlot" = some (.ref C_NoSlot)
  m_REFUSALS : mg "REFUSALS" = some (.ref C_REFUSALS)
  m_WORDS : mg "WORDS" = some (.ref C_WORDS)
  xi_BadRow : G.XInit K C_BadRow f_TextError___init__
  xs_BadRow : G.XSet K C_BadRow "row"
  xr_BadRow : PySem.W.findIn K (.ref C_BadRow) "row" = some none
  xb_GreyError : G.XBase K C_GreyError
  e_BadRow_BadRow : PySem.W.exmOne K (.ref C_BadRow) (.ref C_BadRow) = some true
  e_BadRow_TextError : PySem.W.exmOne K (.ref C_BadRow) (.ref C_TextError) = some true
  exc : G.ExcAll K [C_BadRow]
  me_TextError___init__ : Meth K C_TextError "__init__" f_TextError___init__
  m_made_of : mg "made_of" = some (.ref f_made_of)
  m_number_of : mg "number_of" = some (.ref f_number_of)
  m_load_of : mg "load_of" = some (.ref f_load_of)
  m_event_row : mg "event_row" = some (.ref f_event_row)
  m_event_of : mg "event_of" = some (.ref f_event_of)
  m_has_thing : mg "has_thing" = some (.ref f_has_thing)
  m_thing_of : mg "thing_of" = some (.ref f_thing_of)
  m_report : mg "report" = some (.ref f_report)
  m_heard : mg "heard" = some (.ref f_heard)
  m_goes_on : mg "goes_on" = some (.ref f_goes_on)
  m__law_cell_at : mg "_law_cell_at" = some (.ref f__law_cell_at)
  m__law_whole : mg "_law_whole" = some (.ref f__law_whole)
  m__law_words : mg "_law_words" = some (.ref f__law_words)
  m__law_event_by : mg "_law_event_by" = some (.ref f__law_event_by)
  m__law_text_of : mg "_law_text_of" = some (.ref f__law_text_of)
  m__law_spoilt : mg "_law_spoilt" = some (.ref f__law_spoilt)
  m__law_same : mg "_law_same" = some (.ref f__law_same)
  m__law_same_log : mg "_law_same_log" = some (.ref f__law_same_log)
  m__law_refused : mg "_law_refused" = some (.ref f__law_refused)
  m__law_classes : mg "_law_classes" = some (.ref f__law_classes)
  m__law_log_by : mg "_law_log_by" = some (.ref f__law_log_by)
  z_all : mg "all" = none
  z_bool : mg "bool" = none
  z_enumerate : mg "enumerate" = none
  z_int : mg "int" = none
  z_isinstance : mg "isinstance" = none
  z_len : mg "len" = none
  z_list : mg "list" = none
  z_max : mg "max" = none
  z_min : mg "min" = none
  z_range : mg "range" = none
  z_str : mg "str" = none
  z_tuple : mg "tuple" = none
  z_zip : mg "zip" = none
  g_FIGURES : G.GC mg "FIGURES" (.str "0123456789")
  g_MOST_FIGURES : G.GC mg "MOST_FIGURES" (.int 60)
  g_NOTHING : G.GC mg "NOTHING" (.str "-")
  g_REFUSED : G.GC mg "REFUSED" (.str "refused")
  sq_REFUSALS : G.TupG K C_REFUSALS [.str "empty", .str "field", .str "full", .str "name"]
  sq_WORDS : G.TupG K C_WORDS [.str "made", .str "got", .str "put", .str "copied", .str "dropped", .str "given", .str "wrote", .str "read", .str "named", .str "sought", .str "begin", .str "walk", .str "look", .str "cut", .str "lost", .str "back", .str "pass", .str "end"]
  q1 : PySem.W.kitOne K (.ref C_BadRow) (.ref C_BadRow) = some true
  q2 : PySem.W.kitOne K (.ref C_BadRow) (.ref C_GreyError) = some true
  q3 : PySem.W.kitOne K (.ref C_BadRow) (.ref C_NoSlot) = some false
  q4 : PySem.W.kitOne K (.ref C_BadRow) (.ref C_Twice) = some false
theorem sc_TextError___init__ : FnScope ["self", "row"] ["self", "row"] (defScope s_TextError___init__) := ⟨rfl, rfl, rfl, by decide +kernel, rfl, by decide +kernel, by decide +kernel⟩
theorem sc_made_of : FnScope ["text", "signs", "most"] ["text", "signs", "most"] (defScope s_made_of) := ⟨rfl, rfl, rfl, by decide +kernel, rfl, by decide +kernel, by decide +kernel⟩
theorem sc_number_of : FnScope ["text", "most", "number"] ["text", "most"] (defScope s_number_of) := ⟨rfl, rfl, rfl, by decide +kernel, rfl, by decide +kernel, by decide +kernel⟩
theorem sc_load_of : FnScope ["text", "number"] ["text"] (defScope s_load_of) := ⟨rfl, rfl, rfl, by decide +kernel, rfl, by decide +kernel, by decide +kernel⟩
theorem sc_event_row : FnScope ["event", "thing"] ["event"] (defScope s_event_row) := ⟨rfl, rfl, rfl, by decide +kernel, rfl, by decide +kernel, by decide +kernel⟩
theorem sc_event_of : FnScope ["text", "parts", "numbers"] ["text"] (defScope s_event_of) := ⟨rfl, rfl, rfl, by decide +kernel, rfl, by decide +kernel, by decide +kernel⟩
theorem sc_has_thing : FnScope ["word", "text"] ["word", "text"] (defScope s_has_thing) := ⟨rfl, rfl, rfl, by decide +kernel, rfl, by decide +kernel, by decide +kernel⟩
theorem sc_thing_of : FnScope ["word", "text"] ["word", "text"] (defScope s_thing_of) := ⟨rfl, rfl, rfl, by decide +kernel, rfl, by decide +kernel, by decide +kernel⟩
theorem sc_report : FnScope ["log", "rows", "number", "events"] ["log"] (defScope s_report) := ⟨rfl, rfl, rfl, by decide +kernel, rfl, by decide +kernel, by decide +kernel⟩
theorem sc_heard : FnScope ["text", "log", "rows", "place", "row", "parts", "number", "event"] ["text"] (defScope s_heard) := ⟨rfl, rfl, rfl, by decide +kernel, rfl, by decide +kernel, by decide +kernel⟩
theorem sc_goes_on : FnScope ["number", "many"] ["number", "many"] (defScope s_goes_on) := ⟨rfl, rfl, rfl, by decide +kernel, rfl, by decide +kernel, by decide +kernel⟩
theorem sc__law_cell_at : FnScope ["_law_script", "_law_k"] ["_law_script", "_law_k"] (defScope s__law_cell_at) := ⟨rfl, rfl, rfl, by decide +kernel, rfl, by decide +kernel, by decide +kernel⟩
theorem sc__law_whole : FnScope ["_law_found"] ["_law_found"] (defScope s__law_whole) := ⟨rfl, rfl, rfl, by decide +kernel, rfl, by decide +kernel, by decide +kernel⟩
theorem sc__law_words : FnScope ["_law_some"] [] (defScope s__law_words) := ⟨rfl, rfl, rfl, by decide +kernel, rfl, by decide +kernel, by decide +kernel⟩
theorem sc__law_event_by : FnScope ["_law_cell", "_law_k", "_law_way", "_law_word", "_law_thing", "_law_numbers"] ["_law_cell", "_law_k"] (defScope s__law_event_by) := ⟨rfl, rfl, rfl, by decide +kernel, rfl, by decide +kernel, by decide +kernel⟩
theorem sc__law_text_of : FnScope ["_law_number", "_law_event", "_law_text", "_law_other"] ["_law_number", "_law_event"] (defScope s__law_text_of) := ⟨rfl, rfl, rfl, by decide +kernel, rfl, by decide +kernel, by decide +kernel⟩
theorem sc__law_spoilt : FnScope ["_law_number", "_law_event", "_law_way", "_law_text", "_law_size", "_law_kind", "_law_word"] ["_law_number", "_law_event", "_law_way"] (defScope s__law_spoilt) := ⟨rfl, rfl, rfl, by decide +kernel, rfl, by decide +kernel, by decide +kernel⟩
theorem sc__law_same : FnScope ["_law_found", "_law_due", "_law_number"] ["_law_found", "_law_due"] (defScope s__law_same) := ⟨rfl, rfl, rfl, by decide +kernel, rfl, by decide +kernel, by decide +kernel⟩
theorem sc__law_same_log : FnScope ["_law_found", "_law_due", "_law_ones", "_law_others", "_law_one", "_law_other"] ["_law_found", "_law_due"] (defScope s__law_same_log) := ⟨rfl, rfl, rfl, by decide +kernel, rfl, by decide +kernel, by decide +kernel⟩
theorem sc__law_refused : FnScope ["_law_text", "_law_told", "e"] ["_law_text"] (defScope s__law_refused) := ⟨rfl, rfl, rfl, by decide +kernel, rfl, by decide +kernel, by decide +kernel⟩
theorem sc__law_classes : FnScope ["_law_text", "_law_told", "e"] ["_law_text"] (defScope s__law_classes) := ⟨rfl, rfl, rfl, by decide +kernel, rfl, by decide +kernel, by decide +kernel⟩
theorem sc__law_log_by : FnScope ["_law_script", "_law_log", "_law_k", "_law_cell"] ["_law_script"] (defScope s__law_log_by) := ⟨rfl, rfl, rfl, by decide +kernel, rfl, by decide +kernel, by decide +kernel⟩
theorem sc_law : FnScope ["_law_script", "_law_log", "_law_events", "_law_event", "_law_handed", "_law_rows", "_law_pairs", "_law_k", "_law_text", "_law_found", "_law_at", "_law_least", "_law_j", "_law_way", "_law_number", "_law_told"] ["_law_script"] (defScope s_law) := ⟨rfl, rfl, rfl, by decide +kernel, rfl, by decide +kernel, by decide +kernel⟩
section
variable {P : Program} {w : World} {K : PySem.W.Frag} {mg : Str → Option Value} {base : Heap} {C_GreyError C_TextError C_BadRow C_Twice C_NoSlot C_REFUSALS C_WORDS f_TextError___init__ f_made_of f_number_of f_load_of f_event_row f_event_of f_has_thing f_thing_of f_report f_heard f_goes_on f__law_cell_at f__law_whole f__law_words f__law_event_by f__law_text_of f__law_spoilt f__law_same f__law_same_log f__law_refused f__law_classes f__law_log_by : Addr} (T : Txt K mg C_GreyError C_TextError C_BadRow C_Twice C_NoSlot C_REFUSALS C_WORDS f_TextError___init__ f_made_of f_number_of f_load_of f_event_row f_event_of f_has_thing f_thing_of f_report f_heard f_goes_on f__law_cell_at f__law_whole f__law_words f__law_event_by f__law_text_of f__law_spoilt f__law_same f__law_same_log f__law_refused f__law_classes f__law_log_by)
include T
theorem ok_TextError___init__ {fd : FuncData} (F : Fun K "__init__" "TextError.__init__" s_TextError___init__ f_TextError___init__ fd) : FnOk P w K mg base (G.CXe P w) 1 f_TextError___init__ fd ["self", "row"] (S_init K) := by
  have sc := sc_TextError___init__
  have tx : TxE K C_REFUSALS C_WORDS C_BadRow := ⟨T.xi_BadRow.xo, T.xs_BadRow, ⟨T.exc _ (List.Mem.head _), T.xr_BadRow⟩, T.sq_REFUSALS, T.sq_WORDS⟩
  refine G.fok F sc (fun vs H Q E h => ?_) (fun cdv A outer s H vs Q E hr h => ?_)
  · obtain ⟨z0, z1, rfl, q⟩ := h; rfl
  · refine ⟨rd_TextError___init__ K, (pss_cons (ps_expr (G.pe_binit rfl T.m_GreyError T.xb_GreyError (pa_cons (pv 0) (pa_cons (G.pe_fs (G.PL.cons (pe_str) (G.PL.cons (G.pe_fmt (pv 1)) G.PL.nil))) pa_nil))))
      (pss_one (G.ps_xset (pv 0) (pv 1) rfl))), ?_⟩
    obtain ⟨z0, z1, rfl, q⟩ := h
    exact TextError___init___rd q
theorem ok_made_of {fd : FuncData} (F : Fun K "made_of" "made_of" s_made_of f_made_of fd) : FnOk P w K mg base (G.CXe P w) 1 f_made_of fd ["text", "signs", "most"] (S_made) := by
  have sc := sc_made_of
  have tx : TxE K C_REFUSALS C_WORDS C_BadRow := ⟨T.xi_BadRow.xo, T.xs_BadRow, ⟨T.exc _ (List.Mem.head _), T.xr_BadRow⟩, T.sq_REFUSALS, T.sq_WORDS⟩
  refine G.fok F sc (fun vs H Q E h => ?_) (fun cdv A outer s H vs Q E hr h => ?_)
  · obtain ⟨z0, z1, z2, rfl, q⟩ := h; rfl
  · refine ⟨rd_made_of K, (pss_one (ps_ret ((pe_and (pe_chain op_le op_le (pe_int) (pe_callB G.call_lenS (by rfl) T.z_len G.boot_len (pa_cons (pv 0) pa_nil)) (pv 2)) (pe_one (pe_callB (G.call_all rfl) (by rfl) T.z_all G.boot_all (pa_cons (G.pe_lc (cns := ["signs"]) [1] (G.pi_str (pv 0)) (fun _ _ _ _ _ => G.pf_nil) (fun _ _ _ _ _ => (pe_cmpR G.op_inS (pv 0) (pv 1) (by with_unfolding_all rfl))) rfl rfl (by repeat (first | exact trivial | refine ⟨rfl, ?_⟩)) (by repeat (first | exact trivial | refine ⟨rfl, ?_⟩)) rfl (by decide +kernel) rfl (by decide +kernel) (by decide +kernel) rfl (by decide +kernel)) pa_nil))))))), ?_⟩
    obtain ⟨z0, z1, z2, rfl, q⟩ := h
    exact made_of_rd q
theorem ok_number_of {fd : FuncData} (F : G.FunD K "number_of" "number_of" s_number_of f_number_of fd) {fd_made_of : FuncData} (G_made_of : FnOk P w K mg base (G.CXe P w) 1 f_made_of fd_made_of ["text", "signs", "most"] (S_made)) (b_made_of : Binds K fd_made_of ["text", "signs", "most"] []) (k_made_of : PySem.W.keepIn K (.ref f_made_of) = true) : FnOk P w K mg base (G.CXe P w) 2 f_number_of fd ["text", "most"] (S_num) := by
  have sc := sc_number_of
  have tx : TxE K C_REFUSALS C_WORDS C_BadRow := ⟨T.xi_BadRow.xo, T.xs_BadRow, ⟨T.exc _ (List.Mem.head _), T.xr_BadRow⟩, T.sq_REFUSALS, T.sq_WORDS⟩
  refine G.fokD F sc (fun vs H Q E h => ?_) (fun cdv A outer s H vs Q E hr h => ?_)
  · obtain ⟨z0, z1, rfl, q⟩ := h; rfl
  · refine ⟨rd_number_of K (S_made), (pss_cons (ps_if (pt_not (pt_val (pe_call G_made_of (hr.mono (by decide)) rfl T.m_made_of k_made_of b_made_of .nil G.passE0 (pa_cons (pv 0) (pa_cons (T.g_FIGURES.pe rfl) (pa_cons (T.g_MOST_FIGURES.pe rfl) pa_nil)))))) (pss_one (ps_ret (pe_non))) pss_nil)
      (pss_cons (ps_if (PW.pt (pw_and (pt_val (pe_bm PySem.F.plainAttrs_str PySem.F.slot_str_startswith PySem.F.type_str_startswith G.mt_startswith (pv 0) (pa_cons (pe_str) pa_nil))) (pw_and1 (pt_cmpR op_ne (pv 0) (pe_str) (nomark _))))) (pss_one (ps_ret (pe_non))) pss_nil)
      (pss_cons (ps_set (i := 2) sc.nd rfl (Or.inl rfl) (pe_callTy G.call_intS (by rfl) T.z_int G.boot_int (pa_cons (pv 0) pa_nil)))
      (pss_cons (ps_if (PW.pt (pw_and (pt_cmpR G.op_notN_ (pv 1) (pe_non) (nomark _)) (pw_and1 (pt_cmpR op_gt (pv 2) (pv 1) (nomark _))))) (pss_one (ps_ret (pe_non))) pss_nil)
      (pss_one (ps_ret (pv 2))))))), ?_⟩
    obtain ⟨z0, z1, rfl, q⟩ := h
    exact number_of_rd q
theorem ok_load_of {fd : FuncData} (F : Fun K "load_of" "load_of" s_load_of f_load_of fd) {fd_number_of : FuncData} (G_number_of : FnOk P w K mg base (G.CXe P w) 2 f_number_of fd_number_of ["text", "most"] (S_num)) (b_number_of : Binds K fd_number_of ["text", "most"] []) (k_number_of : PySem.W.keepIn K (.ref f_number_of) = true) {ds_number_of_1 : List Value} (bd_number_of_1 : Binds K fd_number_of ["text", "most"] ds_number_of_1) (hd_number_of_1 : Vals [.non] ds_number_of_1) : FnOk P w K mg base (G.CXe P w) 3 f_load_of fd ["text"] (S_load) := by
  have sc := sc_load_of
  have tx : TxE K C_REFUSALS C_WORDS C_BadRow := ⟨T.xi_BadRow.xo, T.xs_BadRow, ⟨T.exc _ (List.Mem.head _), T.xr_BadRow⟩, T.sq_REFUSALS, T.sq_WORDS⟩
  refine G.fok F sc (fun vs H Q E h => ?_) (fun cdv A outer s H vs Q E hr h => ?_)
  · obtain ⟨z0, rfl, q⟩ := h; rfl
  · refine ⟨rd_load_of K (S_num), (pss_cons (ps_if (pt_not (pt_val (pe_bm PySem.F.plainAttrs_str PySem.F.slot_str_startswith PySem.F.type_str_startswith G.mt_startswith (pv 0) (pa_cons (pe_str) pa_nil)))) (pss_one (ps_ret (pe_call G_number_of (hr.mono (by decide)) rfl T.m_number_of k_number_of bd_number_of_1 hd_number_of_1 G.passE0 (pa_cons (pv 0) pa_nil)))) pss_nil)
      (pss_cons (ps_set (i := 1) sc.nd rfl (Or.inl rfl) (pe_call G_number_of (hr.mono (by decide)) rfl T.m_number_of k_number_of bd_number_of_1 hd_number_of_1 G.passE0 (pa_cons (pe_slice G.sl_str (pv 0) (po_some (pe_int)) po_none) pa_nil)))
      (pss_cons (ps_if (PW.pt (pw_or (pt_cmpR G.op_isN_ (pv 1) (pe_non) (nomark _)) (pw_or1 (pt_cmpR op_eq (pv 1) (pe_int) (nomark _))))) (pss_one (ps_ret (pe_non))) pss_nil)
      (pss_one (ps_ret (pe_un un_neg (pv 1))))))), ?_⟩
    obtain ⟨z0, rfl, q⟩ := h
    exact load_of_rd q
theorem ok_event_row {fd : FuncData} (F : Fun K "event_row" "event_row" s_event_row f_event_row fd) : FnOk P w K mg base (G.CXe P w) 1 f_event_row fd ["event"] (S_row) := by
  have sc := sc_event_row
  have tx : TxE K C_REFUSALS C_WORDS C_BadRow := ⟨T.xi_BadRow.xo, T.xs_BadRow, ⟨T.exc _ (List.Mem.head _), T.xr_BadRow⟩, T.sq_REFUSALS, T.sq_WORDS⟩
  refine G.fok F sc (fun vs H Q E h => ?_) (fun cdv A outer s H vs Q E hr h => ?_)
  · obtain ⟨z0, rfl, q⟩ := h; rfl
  · refine ⟨rd_event_row K, (pss_cons (ps_set (i := 1) sc.nd rfl (Or.inl rfl) (pe_ifExp (pt_cmpR G.op_isN_ (pe_ix ix_tup (pv 0) (pe_int) (fun _ _ => rfl)) (pe_non) (nomark _)) (T.g_NOTHING.pe rfl) (pe_callTy G.call_strV (by rfl) T.z_str G.boot_str (pa_cons (pe_ix ix_tup (pv 0) (pe_int) (fun _ _ => rfl)) pa_nil))))
      (pss_one (ps_ret (pe_bm PySem.F.plainAttrs_str PySem.F.slot_str_join PySem.F.type_str_join G.mt_join (pe_str) (pa_cons (pe_op op_cat (pe_lst (pa_cons (pe_ix ix_tup (pv 0) (pe_int) (fun _ _ => rfl)) (pa_cons (pv 1) pa_nil))) (G.pe_lc (cns := []) [] (pi_list (pe_ix ix_tup (pv 0) (pe_int) (fun _ _ => rfl))) (fun _ _ _ _ _ => G.pf_nil) (fun _ _ _ _ _ => (pe_callTy G.call_strI (by rfl) T.z_str G.boot_str (pa_cons (pv 0) pa_nil))) rfl rfl (by repeat (first | exact trivial | refine ⟨rfl, ?_⟩)) (by repeat (first | exact trivial | refine ⟨rfl, ?_⟩)) rfl (by decide +kernel) rfl (by decide +kernel) (by decide +kernel) rfl (by decide +kernel))) pa_nil))))), ?_⟩
    obtain ⟨z0, rfl, q⟩ := h
    exact event_row_rd q
theorem ok_event_of {fd : FuncData} (F : Fun K "event_of" "event_of" s_event_of f_event_of fd) {fd_has_thing : FuncData} (G_has_thing : FnOk P w K mg base (G.CXe P w) 4 f_has_thing fd_has_thing ["word", "text"] (S_has)) (b_has_thing : Binds K fd_has_thing ["word", "text"] []) (k_has_thing : PySem.W.keepIn K (.ref f_has_thing) = true) {fd_number_of : FuncData} (G_number_of : FnOk P w K mg base (G.CXe P w) 2 f_number_of fd_number_of ["text", "most"] (S_num)) (b_number_of : Binds K fd_number_of ["text", "most"] []) (k_number_of : PySem.W.keepIn K (.ref f_number_of) = true) {fd_thing_of : FuncData} (G_thing_of : FnOk P w K mg base (G.CXe P w) 4 f_thing_of fd_thing_of ["word", "text"] (S_thing)) (b_thing_of : Binds K fd_thing_of ["word", "text"] []) (k_thing_of : PySem.W.keepIn K (.ref f_thing_of) = true) {ds_number_of_1 : List Value} (bd_number_of_1 : Binds K fd_number_of ["text", "most"] ds_number_of_1) (hd_number_of_1 : Vals [.non] ds_number_of_1) : FnOk P w K mg base (G.CXe P w) 5 f_event_of fd ["text"] (S_of) := by
  have sc := sc_event_of
  have tx : TxE K C_REFUSALS C_WORDS C_BadRow := ⟨T.xi_BadRow.xo, T.xs_BadRow, ⟨T.exc _ (List.Mem.head _), T.xr_BadRow⟩, T.sq_REFUSALS, T.sq_WORDS⟩
  refine G.fok F sc (fun vs H Q E h => ?_) (fun cdv A outer s H vs Q E hr h => ?_)
  · obtain ⟨z0, rfl, q⟩ := h; rfl
  · refine ⟨rd_event_of K (S_has) (S_num) (S_thing), (pss_cons (ps_set (i := 1) sc.nd rfl (Or.inl rfl) (pe_bm PySem.F.plainAttrs_str PySem.F.slot_str_split PySem.F.type_str_split G.mt_split (pv 0) (pa_cons (pe_str) pa_nil)))
      (pss_cons (ps_if (PW.pt (pw_or (pt_cmpR op_lt (pe_callB G.call_lenL (by rfl) T.z_len G.boot_len (pa_cons (pv 1) pa_nil)) (pe_int) (nomark _)) (pw_or1 (pt_not (pt_val (pe_call G_has_thing (hr.mono (by decide)) rfl T.m_has_thing k_has_thing b_has_thing .nil G.passE0 (pa_cons (pe_ix ix_list (pv 1) (pe_int) (fun _ _ => rfl)) (pa_cons (pe_ix ix_list (pv 1) (pe_int) (fun _ _ => rfl)) pa_nil)))))))) (pss_one (ps_ret (pe_non))) pss_nil)
      (pss_cons (G.ps_lcset (iz := 2) (cns := []) [] (pi_list (pe_slice sl_list (pv 1) (po_some (pe_int)) po_none)) (fun _ _ _ _ _ => G.pf_nil) (fun _ _ _ _ _ => (pe_call G_number_of (hr.mono (by decide)) rfl T.m_number_of k_number_of bd_number_of_1 hd_number_of_1 G.passE0 (pa_cons (pv 0) pa_nil))) rfl rfl (by repeat (first | exact trivial | refine ⟨rfl, ?_⟩)) (by repeat (first | exact trivial | refine ⟨rfl, ?_⟩)) rfl (by decide +kernel) rfl (by decide +kernel) (by decide +kernel) rfl (by decide +kernel) sc.nd rfl (Or.inl rfl) (Or.inr rfl) rfl)
      (pss_cons (ps_if (pt_cmpR op_in_seq (pe_non) (pv 2) (by with_unfolding_all rfl)) (pss_one (ps_ret (pe_non))) pss_nil)
      (pss_one (ps_ret (pe_tup (pa_cons (pe_ix ix_list (pv 1) (pe_int) (fun _ _ => rfl)) (pa_cons (pe_call G_thing_of (hr.mono (by decide)) rfl T.m_thing_of k_thing_of b_thing_of .nil G.passE0 (pa_cons (pe_ix ix_list (pv 1) (pe_int) (fun _ _ => rfl)) (pa_cons (pe_ix ix_list (pv 1) (pe_int) (fun _ _ => rfl)) pa_nil))) (pa_cons (pv 2) pa_nil)))))))))), ?_⟩
    obtain ⟨z0, rfl, q⟩ := h
    exact event_of_rd q
theorem ok_has_thing {fd : FuncData} (F : Fun K "has_thing" "has_thing" s_has_thing f_has_thing fd) {fd_load_of : FuncData} (G_load_of : FnOk P w K mg base (G.CXe P w) 3 f_load_of fd_load_of ["text"] (S_load)) (b_load_of : Binds K fd_load_of ["text"] []) (k_load_of : PySem.W.keepIn K (.ref f_load_of) = true) : FnOk P w K mg base (G.CXe P w) 4 f_has_thing fd ["word", "text"] (S_has) := by
  have sc := sc_has_thing
  have tx : TxE K C_REFUSALS C_WORDS C_BadRow := ⟨T.xi_BadRow.xo, T.xs_BadRow, ⟨T.exc _ (List.Mem.head _), T.xr_BadRow⟩, T.sq_REFUSALS, T.sq_WORDS⟩
  refine G.fok F sc (fun vs H Q E h => ?_) (fun cdv A outer s H vs Q E hr h => ?_)
  · obtain ⟨z0, z1, rfl, q⟩ := h; rfl
  · refine ⟨rd_has_thing K C_REFUSALS C_WORDS (S_load), (pss_cons (ps_if (pt_cmpR op_eq (pv 0) (T.g_REFUSED.pe rfl) (nomark _)) (pss_one (ps_ret (pe_cmpR op_in_seq (pv 1) (pe_glob rfl T.m_REFUSALS rfl) (by with_unfolding_all rfl)))) pss_nil)
      (pss_one (ps_ret ((pe_and (pe_cmpR op_in_seq (pv 0) (pe_glob rfl T.m_WORDS rfl) (by with_unfolding_all rfl)) (pe_one ((pe_or (pe_cmpR op_eq (pv 1) (T.g_NOTHING.pe rfl) (nomark _)) (pe_one (pe_cmpR G.op_notN_ (pe_call G_load_of (hr.mono (by decide)) rfl T.m_load_of k_load_of b_load_of .nil G.passE0 (pa_cons (pv 1) pa_nil)) (pe_non) (nomark _))))))))))), ?_⟩
    obtain ⟨z0, z1, rfl, q⟩ := h
    exact has_thing_rd tx q
theorem ok_thing_of {fd : FuncData} (F : Fun K "thing_of" "thing_of" s_thing_of f_thing_of fd) {fd_load_of : FuncData} (G_load_of : FnOk P w K mg base (G.CXe P w) 3 f_load_of fd_load_of ["text"] (S_load)) (b_load_of : Binds K fd_load_of ["text"] []) (k_load_of : PySem.W.keepIn K (.ref f_load_of) = true) : FnOk P w K mg base (G.CXe P w) 4 f_thing_of fd ["word", "text"] (S_thing) := by
  have sc := sc_thing_of
  have tx : TxE K C_REFUSALS C_WORDS C_BadRow := ⟨T.xi_BadRow.xo, T.xs_BadRow, ⟨T.exc _ (List.Mem.head _), T.xr_BadRow⟩, T.sq_REFUSALS, T.sq_WORDS⟩
  refine G.fok F sc (fun vs H Q E h => ?_) (fun cdv A outer s H vs Q E hr h => ?_)
  · obtain ⟨z0, z1, rfl, q⟩ := h; rfl
  · refine ⟨rd_thing_of (S_load), (pss_one (ps_ret (pe_ifExp (pt_cmpR op_eq (pv 0) (T.g_REFUSED.pe rfl) (nomark _)) (pv 1) (pe_call G_load_of (hr.mono (by decide)) rfl T.m_load_of k_load_of b_load_of .nil G.passE0 (pa_cons (pv 1) pa_nil))))), ?_⟩
    obtain ⟨z0, z1, rfl, q⟩ := h
    exact thing_of_rd q
theorem ok_report {fd : FuncData} (F : Fun K "report" "report" s_report f_report fd) {fd_event_row : FuncData} (G_event_row : FnOk P w K mg base (G.CXe P w) 1 f_event_row fd_event_row ["event"] (S_row)) (b_event_row : Binds K fd_event_row ["event"] []) (k_event_row : PySem.W.keepIn K (.ref f_event_row) = true) : FnOk P w K mg base (G.CXe P w) 2 f_report fd ["log"] (S_report) := by
  have sc := sc_report
  have tx : TxE K C_REFUSALS C_WORDS C_BadRow := ⟨T.xi_BadRow.xo, T.xs_BadRow, ⟨T.exc _ (List.Mem.head _), T.xr_BadRow⟩, T.sq_REFUSALS, T.sq_WORDS⟩
  refine G.fok F sc (fun vs H Q E h => ?_) (fun cdv A outer s H vs Q E hr h => ?_)
  · obtain ⟨z0, rfl, q⟩ := h; rfl
  · refine ⟨rd_report K (S_row), (pss_cons (ps_set (i := 1) sc.nd rfl (Or.inl rfl) (pe_lst pa_nil))
      (pss_cons (ps_for PassesOwn.never rfl (G.pi_enumS rfl T.z_enumerate (pa_cons (pv 0) pa_nil)) (pg_tup rfl (pgs_cons (pg_name (i := 2) sc.nd rfl (Or.inr rfl)) (pgs_cons (pg_name (i := 3) sc.nd rfl (Or.inl rfl)) pgs_nil)))
      (pss_one (ps_expr (pe_bm PySem.F.plainAttrs_list PySem.F.slot_list_extend PySem.F.type_list_extend mt_extend (pv 1) (pa_cons (G.pe_lc (cns := ["number"]) [2] (pi_list (pv 3)) (fun _ _ _ _ _ => G.pf_nil) (fun _ _ _ _ _ => (pe_op op_add_str (G.pe_fs (G.PL.cons (G.pe_fmt (pv 1)) (G.PL.cons (pe_str) G.PL.nil))) (pe_call G_event_row (hr.mono (by decide)) rfl T.m_event_row k_event_row b_event_row .nil G.passE0 (pa_cons (pv 0) pa_nil)))) rfl rfl (by repeat (first | exact trivial | refine ⟨rfl, ?_⟩)) (by repeat (first | exact trivial | refine ⟨rfl, ?_⟩)) rfl (by decide +kernel) rfl (by decide +kernel) (by decide +kernel) rfl (by decide +kernel)) pa_nil)))))
      (pss_one (ps_ret (pe_bm PySem.F.plainAttrs_str PySem.F.slot_str_join PySem.F.type_str_join G.mt_join (pe_str) (pa_cons (pv 1) pa_nil)))))), ?_⟩
    obtain ⟨z0, rfl, q⟩ := h
    exact report_rd q
theorem ok_heard {fd : FuncData} (F : Fun K "heard" "heard" s_heard f_heard fd) {fd_TextError___init__ : FuncData} (G_TextError___init__ : FnOk P w K mg base (G.CXe P w) 1 f_TextError___init__ fd_TextError___init__ ["self", "row"] (S_init K)) (b_TextError___init__ : Binds K fd_TextError___init__ ["self", "row"] []) (k_TextError___init__ : PySem.W.keepIn K (.ref f_TextError___init__) = true) {fd_event_of : FuncData} (G_event_of : FnOk P w K mg base (G.CXe P w) 5 f_event_of fd_event_of ["text"] (S_of)) (b_event_of : Binds K fd_event_of ["text"] []) (k_event_of : PySem.W.keepIn K (.ref f_event_of) = true) {fd_goes_on : FuncData} (G_goes_on : FnOk P w K mg base (G.CXe P w) 1 f_goes_on fd_goes_on ["number", "many"] (S_goes)) (b_goes_on : Binds K fd_goes_on ["number", "many"] []) (k_goes_on : PySem.W.keepIn K (.ref f_goes_on) = true) {fd_number_of : FuncData} (G_number_of : FnOk P w K mg base (G.CXe P w) 2 f_number_of fd_number_of ["text", "most"] (S_num)) (b_number_of : Binds K fd_number_of ["text", "most"] []) (k_number_of : PySem.W.keepIn K (.ref f_number_of) = true) {ds_number_of_1 : List Value} (bd_number_of_1 : Binds K fd_number_of ["text", "most"] ds_number_of_1) (hd_number_of_1 : Vals [.non] ds_number_of_1) : FnOk P w K mg base (G.CXe P w) 6 f_heard fd ["text"] (S_heard C_BadRow) := by
  have sc := sc_heard
  have tx : TxE K C_REFUSALS C_WORDS C_BadRow := ⟨T.xi_BadRow.xo, T.xs_BadRow, ⟨T.exc _ (List.Mem.head _), T.xr_BadRow⟩, T.sq_REFUSALS, T.sq_WORDS⟩
  refine G.fokX F sc (fun vs H Q E h => ?_) (fun cdv A outer s H vs Q E hr h => ?_)
  · obtain ⟨z0, rfl, q⟩ := h; rfl
  · refine ⟨rd_heard K C_BadRow (S_init K) (S_of) (S_goes) (S_num) E, (pss_cons (ps_set (i := 1) sc.nd rfl (Or.inl rfl) (pe_lst pa_nil))
      (pss_cons (ps_set (i := 2) sc.nd rfl (Or.inl rfl) (pe_ifExp (pt_cmpR op_ne (pv 0) (pe_str) (nomark _)) (pe_bm PySem.F.plainAttrs_str PySem.F.slot_str_split PySem.F.type_str_split G.mt_split (pv 0) (pa_cons (pe_str) pa_nil)) (pe_lst pa_nil)))
      (pss_cons (ps_for PassesOwn.leaving rfl (G.pi_enumS rfl T.z_enumerate (pa_cons (pv 2) pa_nil)) (pg_tup rfl (pgs_cons (pg_name (i := 3) sc.nd rfl (Or.inl rfl)) (pgs_cons (pg_name (i := 4) sc.nd rfl (Or.inl rfl)) pgs_nil)))
      (pss_cons (ps_set (i := 5) sc.nd rfl (Or.inl rfl) (pe_bm PySem.F.plainAttrs_str PySem.F.slot_str_partition PySem.F.type_str_partition G.mt_part (pv 4) (pa_cons (pe_str) pa_nil)))
      (pss_cons (ps_set (i := 6) sc.nd rfl (Or.inl rfl) (pe_call G_number_of (hr.mono (by decide)) rfl T.m_number_of k_number_of bd_number_of_1 hd_number_of_1 G.passE0 (pa_cons (pe_ix ix_tup (pv 5) (pe_int) (fun _ _ => rfl)) pa_nil)))
      (pss_cons (ps_set (i := 7) sc.nd rfl (Or.inl rfl) (pe_call G_event_of (hr.mono (by decide)) rfl T.m_event_of k_event_of b_event_of .nil G.passE0 (pa_cons (pe_ix ix_tup (pv 5) (pe_int) (fun _ _ => rfl)) pa_nil)))
      (pss_cons (ps_if (PW.pt (pw_or (pt_cmpR G.op_isN_ (pv 7) (pe_non) (nomark _)) (pw_or1 (pt_not (pt_val (pe_call G_goes_on (hr.mono (by decide)) rfl T.m_goes_on k_goes_on b_goes_on .nil G.passE0 (pa_cons (pv 6) (pa_cons (pe_callB G.call_lenL (by rfl) T.z_len G.boot_len (pa_cons (pv 1) pa_nil)) pa_nil)))))))) (pss_one (G.ps_raiseI rfl rfl T.m_BadRow T.xi_BadRow G_TextError___init__ (hr.mono (by decide)) b_TextError___init__ G.passE0 (pa_cons (pv 3) pa_nil) (fun _ _ _ _ _ _ _ _ I h0 hn he hc hd hf h1 hE => G.raiseD I h0 hn he hc hd hf h1 hE))) pss_nil)
      (pss_cons (ps_if (pt_cmpR op_gt (pv 6) (pe_callB G.call_lenL (by rfl) T.z_len G.boot_len (pa_cons (pv 1) pa_nil)) (nomark _)) (pss_one (ps_expr (pe_bm PySem.F.plainAttrs_list PySem.F.slot_list_append PySem.F.type_list_append mt_append (pv 1) (pa_cons (pe_lst pa_nil) pa_nil)))) pss_nil)
      (pss_one (ps_expr (pe_bm PySem.F.plainAttrs_list PySem.F.slot_list_append PySem.F.type_list_append mt_append (pe_ix ix_list (pv 1) (pe_un un_neg (pe_int)) (fun _ _ => rfl)) (pa_cons (pv 7) pa_nil))))))))))
      (pss_one (ps_ret (pv 1)))))), ?_⟩
    obtain ⟨z0, rfl, q⟩ := h
    exact heard_rd tx q
theorem ok_goes_on {fd : FuncData} (F : Fun K "goes_on" "goes_on" s_goes_on f_goes_on fd) : FnOk P w K mg base (G.CXe P w) 1 f_goes_on fd ["number", "many"] (S_goes) := by
  have sc := sc_goes_on
  have tx : TxE K C_REFUSALS C_WORDS C_BadRow := ⟨T.xi_BadRow.xo, T.xs_BadRow, ⟨T.exc _ (List.Mem.head _), T.xr_BadRow⟩, T.sq_REFUSALS, T.sq_WORDS⟩
  refine G.fok F sc (fun vs H Q E h => ?_) (fun cdv A outer s H vs Q E hr h => ?_)
  · obtain ⟨z0, z1, rfl, q⟩ := h; rfl
  · refine ⟨rd_goes_on, (pss_one (ps_ret ((pe_or (pe_cmpR op_eq (pv 0) (pe_op op_add (pv 1) (pe_int)) (nomark _)) (pe_one ((pe_and (pe_cmpR op_eq (pv 0) (pv 1) (nomark _)) (pe_one (pe_cmpR op_gt (pv 1) (pe_int) (nomark _)))))))))), ?_⟩
    obtain ⟨z0, z1, rfl, q⟩ := h
    exact goes_on_rd q
theorem ok__law_cell_at {fd : FuncData} (F : Fun K "_law_cell_at" "_law_cell_at" s__law_cell_at f__law_cell_at fd) : FnOk P w K mg base (G.CXe P w) 1 f__law_cell_at fd ["_law_script", "_law_k"] (S_at K) := by
  have sc := sc__law_cell_at
  have tx : TxE K C_REFUSALS C_WORDS C_BadRow := ⟨T.xi_BadRow.xo, T.xs_BadRow, ⟨T.exc _ (List.Mem.head _), T.xr_BadRow⟩, T.sq_REFUSALS, T.sq_WORDS⟩
  refine G.fok F sc (fun vs H Q E h => ?_) (fun cdv A outer s H vs Q E hr h => ?_)
  · obtain ⟨z0, z1, rfl, q⟩ := h; rfl
  · refine ⟨rd__law_cell_at K, (pss_cons (ps_if (pt_cmpR op_lt (pv 1) (pe_callB G.call_lenL (by rfl) T.z_len G.boot_len (pa_cons (pv 0) pa_nil)) (nomark _)) (pss_one (ps_ret (pe_ix ix_list (pv 0) (pv 1) (fun _ _ => rfl)))) pss_nil)
      (pss_one (ps_ret (pe_int)))), ?_⟩
    obtain ⟨z0, z1, rfl, q⟩ := h
    exact _law_cell_at_rd q
theorem ok__law_whole {fd : FuncData} (F : Fun K "_law_whole" "_law_whole" s__law_whole f__law_whole fd) : FnOk P w K mg base (G.CXe P w) 1 f__law_whole fd ["_law_found"] (S_whole) := by
  have sc := sc__law_whole
  have tx : TxE K C_REFUSALS C_WORDS C_BadRow := ⟨T.xi_BadRow.xo, T.xs_BadRow, ⟨T.exc _ (List.Mem.head _), T.xr_BadRow⟩, T.sq_REFUSALS, T.sq_WORDS⟩
  refine G.fok F sc (fun vs H Q E h => ?_) (fun cdv A outer s H vs Q E hr h => ?_)
  · obtain ⟨z0, rfl, q⟩ := h; rfl
  · refine ⟨rd__law_whole, (pss_one (ps_ret ((pe_and (pe_callB G.call_isi (by rfl) T.z_isinstance G.boot_isinstance (pa_cons (pv 0) (pa_cons (pe_bltn rfl T.z_int G.boot_int rfl) pa_nil))) (pe_one (pe_not (pe_callB G.call_isi (by rfl) T.z_isinstance G.boot_isinstance (pa_cons (pv 0) (pa_cons (pe_bltn rfl T.z_bool G.boot_bool rfl) pa_nil))))))))), ?_⟩
    obtain ⟨z0, rfl, q⟩ := h
    exact _law_whole_rd q
theorem ok__law_words {fd : FuncData} (F : Fun K "_law_words" "_law_words" s__law_words f__law_words fd) : FnOk P w K mg base (G.CXe P w) 1 f__law_words fd [] (S_words) := by
  have sc := sc__law_words
  have tx : TxE K C_REFUSALS C_WORDS C_BadRow := ⟨T.xi_BadRow.xo, T.xs_BadRow, ⟨T.exc _ (List.Mem.head _), T.xr_BadRow⟩, T.sq_REFUSALS, T.sq_WORDS⟩
  refine G.fok F sc (fun vs H Q E h => ?_) (fun cdv A outer s H vs Q E hr h => ?_)
  · obtain ⟨rfl, q⟩ := h; rfl
  · refine ⟨rd__law_words K, (pss_cons (ps_set (i := 0) sc.nd rfl (Or.inl rfl) (pe_str))
      (pss_cons (ps_set (i := 0) sc.nd rfl (Or.inl rfl) (pe_op op_add_str (pv 0) (pe_str)))
      (pss_one (ps_ret (pe_bm PySem.F.plainAttrs_str PySem.F.slot_str_split PySem.F.type_str_split G.mt_split (pv 0) (pa_cons (pe_str) pa_nil)))))), ?_⟩
    obtain ⟨rfl, q⟩ := h
    exact _law_words_rd q
theorem ok__law_event_by {fd : FuncData} (F : Fun K "_law_event_by" "_law_event_by" s__law_event_by f__law_event_by fd) {fd__law_words : FuncData} (G__law_words : FnOk P w K mg base (G.CXe P w) 1 f__law_words fd__law_words [] (S_words)) (b__law_words : Binds K fd__law_words [] []) (k__law_words : PySem.W.keepIn K (.ref f__law_words) = true) : FnOk P w K mg base (G.CXe P w) 2 f__law_event_by fd ["_law_cell", "_law_k"] (S_by) := by
  have sc := sc__law_event_by
  have tx : TxE K C_REFUSALS C_WORDS C_BadRow := ⟨T.xi_BadRow.xo, T.xs_BadRow, ⟨T.exc _ (List.Mem.head _), T.xr_BadRow⟩, T.sq_REFUSALS, T.sq_WORDS⟩
  refine G.fok F sc (fun vs H Q E h => ?_) (fun cdv A outer s H vs Q E hr h => ?_)
  · obtain ⟨z0, z1, rfl, q⟩ := h; rfl
  · refine ⟨rd__law_event_by K (S_words), (pss_cons (ps_set (i := 2) sc.nd rfl (Or.inr rfl) (pe_op op_mod (pe_op G.op_mulB (pe_op op_add (pe_op op_add (pv 0) (pe_op G.op_mulB (pe_op G.op_mulB (pe_int) (pv 1)) (pv 1))) (pe_int)) (pe_int)) (pe_int)))
      (pss_cons (ps_set (i := 3) sc.nd rfl (Or.inl rfl) (pe_ix ix_list (pe_call0 G__law_words (hr.mono (by decide)) rfl T.m__law_words k__law_words b__law_words .nil G.passE0) (pe_op op_mod (pv 2) (pe_int)) (fun _ _ => rfl)))
      (pss_cons (ps_set (i := 4) sc.nd rfl (Or.inl rfl) (pe_op op_mod (pv 0) (pe_op op_pow (pe_int) (pe_int))))
      (pss_cons (ps_if (pt_cmpR op_eq (pe_op op_mod (pe_op op_fdiv (pv 2) (pe_int)) (pe_int)) (pe_int) (nomark _)) (pss_one (ps_set (i := 4) sc.nd rfl (Or.inl rfl) (pe_op op_sub (pe_int) (pe_op op_mod (pe_op G.op_mulW (pe_op op_add (pv 0) (pe_int)) (pe_int)) (pe_op op_pow (pe_int) (pe_int)))))) pss_nil)
      (pss_cons (ps_if (pt_cmpR op_eq (pe_op op_mod (pe_op op_fdiv (pv 2) (pe_int)) (pe_int)) (pe_int) (nomark _)) (pss_one (ps_set (i := 4) sc.nd rfl (Or.inl rfl) (pe_non))) pss_nil)
      (pss_cons (ps_if (pt_cmpR op_eq (pv 3) (pe_str) (nomark _)) (pss_one (ps_set (i := 4) sc.nd rfl (Or.inl rfl) (pe_ix ix_list (pe_lst (pa_cons (pe_str) (pa_cons (pe_str) (pa_cons (pe_str) (pa_cons (pe_str) pa_nil))))) (pe_op op_mod (pv 0) (pe_int)) (fun _ _ => rfl)))) pss_nil)
      (pss_cons (G.ps_lcset (iz := 5) (cns := ["_law_cell", "_law_k", "_law_way"]) [0, 1, 2] (pi_range1 rfl T.z_range (pa_cons (pe_op op_mod (pe_op op_fdiv (pv 2) (pe_int)) (pe_int)) pa_nil)) (fun _ _ _ _ _ => G.pf_nil) (fun _ _ _ _ _ => (pe_op op_mod (pe_op G.op_mulB (pe_op op_add (pv 1) (pe_int)) (pe_op op_add (pv 2) (pv 0))) (pe_ix ix_list (pe_lst (pa_cons (pe_int) (pa_cons (pe_op op_pow (pe_int) (pe_int)) pa_nil))) (pe_op op_mod (pe_op op_fdiv (pv 3) (pe_int)) (pe_int)) (fun _ _ => rfl)))) rfl rfl (by repeat (first | exact trivial | refine ⟨rfl, ?_⟩)) (by repeat (first | exact trivial | refine ⟨rfl, ?_⟩)) rfl (by decide +kernel) rfl (by decide +kernel) (by decide +kernel) rfl (by decide +kernel) sc.nd rfl (Or.inl rfl) (Or.inr rfl) rfl)
      (pss_one (ps_ret (pe_tup (pa_cons (pv 3) (pa_cons (pv 4) (pa_cons (pv 5) pa_nil))))))))))))), ?_⟩
    obtain ⟨z0, z1, rfl, q⟩ := h
    exact _law_event_by_rd q
theorem ok__law_text_of {fd : FuncData} (F : Fun K "_law_text_of" "_law_text_of" s__law_text_of f__law_text_of fd) : FnOk P w K mg base (G.CXe P w) 1 f__law_text_of fd ["_law_number", "_law_event"] (S_text) := by
  have sc := sc__law_text_of
  have tx : TxE K C_REFUSALS C_WORDS C_BadRow := ⟨T.xi_BadRow.xo, T.xs_BadRow, ⟨T.exc _ (List.Mem.head _), T.xr_BadRow⟩, T.sq_REFUSALS, T.sq_WORDS⟩
  refine G.fok F sc (fun vs H Q E h => ?_) (fun cdv A outer s H vs Q E hr h => ?_)
  · obtain ⟨z0, z1, rfl, q⟩ := h; rfl
  · refine ⟨rd__law_text_of K, (pss_cons (ps_set (i := 2) sc.nd rfl (Or.inl rfl) (pe_op op_add_str (pe_op op_add_str (pe_op op_add_str (pe_callTy G.call_strI (by rfl) T.z_str G.boot_str (pa_cons (pv 0) pa_nil)) (pe_str)) (pe_ix ix_tup (pv 1) (pe_int) (fun _ _ => rfl))) (pe_str)))
      (pss_cons (ps_if (pt_cmpR G.op_isN_ (pe_ix ix_tup (pv 1) (pe_int) (fun _ _ => rfl)) (pe_non) (nomark _)) (pss_one (ps_set (i := 2) sc.nd rfl (Or.inl rfl) (pe_op op_add_str (pv 2) (pe_str)))) (pss_one (ps_set (i := 2) sc.nd rfl (Or.inl rfl) (pe_op op_add_str (pv 2) (pe_callTy G.call_strV (by rfl) T.z_str G.boot_str (pa_cons (pe_ix ix_tup (pv 1) (pe_int) (fun _ _ => rfl)) pa_nil))))))
      (pss_cons (ps_for PassesOwn.never rfl (pi_list (pe_ix ix_tup (pv 1) (pe_int) (fun _ _ => rfl))) (pg_name (i := 3) sc.nd rfl (Or.inl rfl))
      (pss_one (ps_set (i := 2) sc.nd rfl (Or.inl rfl) (pe_op op_add_str (pe_op op_add_str (pv 2) (pe_str)) (pe_callTy G.call_strI (by rfl) T.z_str G.boot_str (pa_cons (pv 3) pa_nil))))))
      (pss_one (ps_ret (pv 2)))))), ?_⟩
    obtain ⟨z0, z1, rfl, q⟩ := h
    exact _law_text_of_rd q
theorem ok__law_spoilt {fd : FuncData} (F : Fun K "_law_spoilt" "_law_spoilt" s__law_spoilt f__law_spoilt fd) {fd__law_text_of : FuncData} (G__law_text_of : FnOk P w K mg base (G.CXe P w) 1 f__law_text_of fd__law_text_of ["_law_number", "_law_event"] (S_text)) (b__law_text_of : Binds K fd__law_text_of ["_law_number", "_law_event"] []) (k__law_text_of : PySem.W.keepIn K (.ref f__law_text_of) = true) : FnOk P w K mg base (G.CXe P w) 2 f__law_spoilt fd ["_law_number", "_law_event", "_law_way"] (S_spoilt) := by
  have sc := sc__law_spoilt
  have tx : TxE K C_REFUSALS C_WORDS C_BadRow := ⟨T.xi_BadRow.xo, T.xs_BadRow, ⟨T.exc _ (List.Mem.head _), T.xr_BadRow⟩, T.sq_REFUSALS, T.sq_WORDS⟩
  refine G.fok F sc (fun vs H Q E h => ?_) (fun cdv A outer s H vs Q E hr h => ?_)
  · obtain ⟨z0, z1, z2, rfl, q⟩ := h; rfl
  · refine ⟨rd__law_spoilt K (S_text), (pss_cons (ps_set (i := 3) sc.nd rfl (Or.inl rfl) (pe_call G__law_text_of (hr.mono (by decide)) rfl T.m__law_text_of k__law_text_of b__law_text_of .nil G.passE0 (pa_cons (pv 0) (pa_cons (pv 1) pa_nil))))
      (pss_cons (ps_set (i := 4) sc.nd rfl (Or.inl rfl) (pe_callB G.call_lenS (by rfl) T.z_len G.boot_len (pa_cons (pe_callTy G.call_strI (by rfl) T.z_str G.boot_str (pa_cons (pv 0) pa_nil)) pa_nil)))
      (pss_cons (ps_set (i := 5) sc.nd rfl (Or.inl rfl) (pe_op op_mod (pv 2) (pe_int)))
      (pss_cons (ps_if (pt_cmpR op_eq (pv 5) (pe_int) (nomark _)) (pss_one (ps_ret (pe_op op_add_str (pe_callTy G.call_strI (by rfl) T.z_str G.boot_str (pa_cons (pe_op op_add (pv 0) (pe_int)) pa_nil)) (pe_slice G.sl_str (pv 3) (po_some (pv 4)) po_none)))) pss_nil)
      (pss_cons (ps_if (pt_cmpR op_eq (pv 5) (pe_int) (nomark _)) (pss_one (ps_ret (pe_op op_add_str (pe_callTy G.call_strI (by rfl) T.z_str G.boot_str (pa_cons (pe_callB (call_max2 rfl) (by rfl) T.z_max G.boot_max (pa_cons (pe_int) (pa_cons (pe_op op_sub (pv 0) (pe_int)) pa_nil))) pa_nil)) (pe_slice G.sl_str (pv 3) (po_some (pv 4)) po_none)))) pss_nil)
      (pss_cons (ps_if (pt_cmpR op_eq (pv 5) (pe_int) (nomark _)) (pss_one (ps_ret (pe_op op_add_str (pe_str) (pv 3)))) pss_nil)
      (pss_cons (ps_if (pt_cmpR op_eq (pv 5) (pe_int) (nomark _)) (pss_one (ps_ret (pe_slice G.sl_str (pv 3) (po_some (pv 4)) po_none))) pss_nil)
      (pss_cons (G.ps_ifrepl (j := 3) (pv 5))
      (pss_cons (ps_if (pt_cmpR op_eq (pv 5) (pe_int) (nomark _)) (pss_cons (ps_set (i := 6) sc.nd rfl (Or.inl rfl) (pe_ix ix_list (pe_lst (pa_cons (pe_str) (pa_cons (pe_str) (pa_cons (pe_str) (pa_cons (pe_str) (pa_cons (pe_str) pa_nil)))))) (pe_op op_mod (pe_op op_fdiv (pv 2) (pe_int)) (pe_int)) (fun _ _ => rfl)))
      (pss_one (ps_ret (pe_op op_add_str (pe_op op_add_str (pe_op op_add_str (pe_callTy G.call_strI (by rfl) T.z_str G.boot_str (pa_cons (pv 0) pa_nil)) (pe_str)) (pv 6)) (pe_slice G.sl_str (pv 3) (po_some (pe_op op_add (pe_op op_add (pv 4) (pe_int)) (pe_callB G.call_lenS (by rfl) T.z_len G.boot_len (pa_cons (pe_ix ix_tup (pv 1) (pe_int) (fun _ _ => rfl)) pa_nil)))) po_none))))) pss_nil)
      (pss_cons (ps_if (pt_cmpR op_eq (pv 5) (pe_int) (nomark _)) (pss_one (ps_ret (pe_op op_add_str (pe_op op_add_str (pe_op op_add_str (pe_op op_add_str (pe_callTy G.call_strI (by rfl) T.z_str G.boot_str (pa_cons (pv 0) pa_nil)) (pe_str)) (pe_ix ix_tup (pv 1) (pe_int) (fun _ _ => rfl))) (pe_str)) (pe_ix ix_list (pe_lst (pa_cons (pe_str) (pa_cons (pe_str) (pa_cons (pe_str) (pa_cons (pe_str) (pa_cons (pe_str) pa_nil)))))) (pe_op op_mod (pe_op op_fdiv (pv 2) (pe_int)) (pe_int)) (fun _ _ => rfl))))) pss_nil)
      (pss_one (ps_ret (pe_op op_add_str (pv 3) (pe_ix ix_list (pe_lst (pa_cons (pe_str) (pa_cons (pe_str) (pa_cons (pe_str) (pa_cons (pe_str) pa_nil))))) (pe_op op_mod (pe_op op_fdiv (pv 2) (pe_int)) (pe_int)) (fun _ _ => rfl))))))))))))))), ?_⟩
    obtain ⟨z0, z1, z2, rfl, q⟩ := h
    exact _law_spoilt_rd q
theorem ok__law_same {fd : FuncData} (F : Fun K "_law_same" "_law_same" s__law_same f__law_same fd) {fd__law_whole : FuncData} (G__law_whole : FnOk P w K mg base (G.CXe P w) 1 f__law_whole fd__law_whole ["_law_found"] (S_whole)) (b__law_whole : Binds K fd__law_whole ["_law_found"] []) (k__law_whole : PySem.W.keepIn K (.ref f__law_whole) = true) : FnOk P w K mg base (G.CXe P w) 2 f__law_same fd ["_law_found", "_law_due"] (S_same) := by
  have sc := sc__law_same
  have tx : TxE K C_REFUSALS C_WORDS C_BadRow := ⟨T.xi_BadRow.xo, T.xs_BadRow, ⟨T.exc _ (List.Mem.head _), T.xr_BadRow⟩, T.sq_REFUSALS, T.sq_WORDS⟩
  refine G.fok F sc (fun vs H Q E h => ?_) (fun cdv A outer s H vs Q E hr h => ?_)
  · obtain ⟨z0, z1, rfl, q⟩ := h; rfl
  · refine ⟨rd__law_same K (S_whole), (pss_cons (ps_if (PW.pt (pw_or (pt_not (pt_val (pe_callB G.call_isi (by rfl) T.z_isinstance G.boot_isinstance (pa_cons (pv 0) (pa_cons (pe_bltn rfl T.z_tuple G.boot_tuple rfl) pa_nil))))) (pw_or (pt_cmpR op_ne (pe_callB G.call_lenL (by rfl) T.z_len G.boot_len (pa_cons (pv 0) pa_nil)) (pe_int) (nomark _)) (pw_or1 (pt_not (pt_val (pe_callB G.call_isi (by rfl) T.z_isinstance G.boot_isinstance (pa_cons (pe_ix ix_tup (pv 0) (pe_int) (fun _ _ => rfl)) (pa_cons (pe_bltn rfl T.z_str G.boot_str rfl) pa_nil))))))))) (pss_one (ps_ret (pe_bl))) pss_nil)
      (pss_cons (ps_if (PW.pt (pw_and (pt_cmpR G.op_isN_ (pe_ix ix_tup (pv 1) (pe_int) (fun _ _ => rfl)) (pe_non) (nomark _)) (pw_and1 (pt_cmpR G.op_notN_ (pe_ix ix_tup (pv 0) (pe_int) (fun _ _ => rfl)) (pe_non) (nomark _))))) (pss_one (ps_ret (pe_bl))) pss_nil)
      (pss_cons (ps_if (PW.pt (pw_and (pt_val (pe_callB G.call_isi (by rfl) T.z_isinstance G.boot_isinstance (pa_cons (pe_ix ix_tup (pv 1) (pe_int) (fun _ _ => rfl)) (pa_cons (pe_bltn rfl T.z_str G.boot_str rfl) pa_nil)))) (pw_and1 (pt_not (pt_val (pe_callB G.call_isi (by rfl) T.z_isinstance G.boot_isinstance (pa_cons (pe_ix ix_tup (pv 0) (pe_int) (fun _ _ => rfl)) (pa_cons (pe_bltn rfl T.z_str G.boot_str rfl) pa_nil)))))))) (pss_one (ps_ret (pe_bl))) pss_nil)
      (pss_cons (ps_if (PW.pt (pw_and (pt_cmpR G.op_notN_ (pe_ix ix_tup (pv 1) (pe_int) (fun _ _ => rfl)) (pe_non) (nomark _)) (pw_and (pt_not (pt_val (pe_callB G.call_isi (by rfl) T.z_isinstance G.boot_isinstance (pa_cons (pe_ix ix_tup (pv 1) (pe_int) (fun _ _ => rfl)) (pa_cons (pe_bltn rfl T.z_str G.boot_str rfl) pa_nil))))) (pw_and1 (pt_not (pt_val (pe_call G__law_whole (hr.mono (by decide)) rfl T.m__law_whole k__law_whole b__law_whole .nil G.passE0 (pa_cons (pe_ix ix_tup (pv 0) (pe_int) (fun _ _ => rfl)) pa_nil)))))))) (pss_one (ps_ret (pe_bl))) pss_nil)
      (pss_cons (ps_if (pt_not (pt_val (pe_callB G.call_isi (by rfl) T.z_isinstance G.boot_isinstance (pa_cons (pe_ix ix_tup (pv 0) (pe_int) (fun _ _ => rfl)) (pa_cons (pe_bltn rfl T.z_list G.boot_list rfl) pa_nil))))) (pss_one (ps_ret (pe_bl))) pss_nil)
      (pss_cons (ps_for PassesOwn.never rfl (pi_list (pe_ix ix_tup (pv 0) (pe_int) (fun _ _ => rfl))) (pg_name (i := 2) sc.nd rfl (Or.inl rfl))
      (pss_one (ps_if (pt_not (pt_val (pe_call G__law_whole (hr.mono (by decide)) rfl T.m__law_whole k__law_whole b__law_whole .nil G.passE0 (pa_cons (pv 2) pa_nil)))) (pss_one (ps_ret (pe_bl))) pss_nil)))
      (pss_one (ps_ret (pe_cmpR (G.op_eqN hr.units) (pv 0) (pv 1) (nomark _)))))))))), ?_⟩
    obtain ⟨z0, z1, rfl, q⟩ := h
    exact _law_same_rd q
theorem ok__law_same_log {fd : FuncData} (F : Fun K "_law_same_log" "_law_same_log" s__law_same_log f__law_same_log fd) {fd__law_same : FuncData} (G__law_same : FnOk P w K mg base (G.CXe P w) 2 f__law_same fd__law_same ["_law_found", "_law_due"] (S_same)) (b__law_same : Binds K fd__law_same ["_law_found", "_law_due"] []) (k__law_same : PySem.W.keepIn K (.ref f__law_same) = true) : FnOk P w K mg base (G.CXe P w) 3 f__law_same_log fd ["_law_found", "_law_due"] (S_slog) := by
  have sc := sc__law_same_log
  have tx : TxE K C_REFUSALS C_WORDS C_BadRow := ⟨T.xi_BadRow.xo, T.xs_BadRow, ⟨T.exc _ (List.Mem.head _), T.xr_BadRow⟩, T.sq_REFUSALS, T.sq_WORDS⟩
  refine G.fok F sc (fun vs H Q E h => ?_) (fun cdv A outer s H vs Q E hr h => ?_)
  · obtain ⟨z0, z1, rfl, q⟩ := h; rfl
  · refine ⟨rd__law_same_log K (S_same), (pss_cons (ps_if (PW.pt (pw_or (pt_not (pt_val (pe_callB G.call_isi (by rfl) T.z_isinstance G.boot_isinstance (pa_cons (pv 0) (pa_cons (pe_bltn rfl T.z_list G.boot_list rfl) pa_nil))))) (pw_or1 (pt_cmpR op_ne (pe_callB G.call_lenL (by rfl) T.z_len G.boot_len (pa_cons (pv 0) pa_nil)) (pe_callB G.call_lenL (by rfl) T.z_len G.boot_len (pa_cons (pv 1) pa_nil)) (nomark _))))) (pss_one (ps_ret (pe_bl))) pss_nil)
      (pss_cons (ps_for PassesOwn.never rfl (G.pi_zip rfl T.z_zip (pa_cons (pv 0) (pa_cons (pv 1) pa_nil))) (pg_tup rfl (pgs_cons (pg_name (i := 2) sc.nd rfl (Or.inl rfl)) (pgs_cons (pg_name (i := 3) sc.nd rfl (Or.inl rfl)) pgs_nil)))
      (pss_cons (ps_if (PW.pt (pw_or (pt_not (pt_val (pe_callB G.call_isi (by rfl) T.z_isinstance G.boot_isinstance (pa_cons (pv 2) (pa_cons (pe_bltn rfl T.z_list G.boot_list rfl) pa_nil))))) (pw_or1 (pt_cmpR op_ne (pe_callB G.call_lenL (by rfl) T.z_len G.boot_len (pa_cons (pv 2) pa_nil)) (pe_callB G.call_lenL (by rfl) T.z_len G.boot_len (pa_cons (pv 3) pa_nil)) (nomark _))))) (pss_one (ps_ret (pe_bl))) pss_nil)
      (pss_one (ps_for PassesOwn.never rfl (G.pi_zip rfl T.z_zip (pa_cons (pv 2) (pa_cons (pv 3) pa_nil))) (pg_tup rfl (pgs_cons (pg_name (i := 4) sc.nd rfl (Or.inl rfl)) (pgs_cons (pg_name (i := 5) sc.nd rfl (Or.inl rfl)) pgs_nil)))
      (pss_one (ps_if (pt_not (pt_val (pe_call G__law_same (hr.mono (by decide)) rfl T.m__law_same k__law_same b__law_same .nil G.passE0 (pa_cons (pv 4) (pa_cons (pv 5) pa_nil))))) (pss_one (ps_ret (pe_bl))) pss_nil))))))
      (pss_one (ps_ret (pe_bl))))), ?_⟩
    obtain ⟨z0, z1, rfl, q⟩ := h
    exact _law_same_log_rd q
theorem ok__law_refused {fd : FuncData} (F : Fun K "_law_refused" "_law_refused" s__law_refused f__law_refused fd) {fd_heard : FuncData} (G_heard : FnOk P w K mg base (G.CXe P w) 6 f_heard fd_heard ["text"] (S_heard C_BadRow)) (b_heard : Binds K fd_heard ["text"] []) (k_heard : PySem.W.keepIn K (.ref f_heard) = true) : FnOk P w K mg base (G.CXe P w) 7 f__law_refused fd ["_law_text"] (S_refused) := by
  have sc := sc__law_refused
  have tx : TxE K C_REFUSALS C_WORDS C_BadRow := ⟨T.xi_BadRow.xo, T.xs_BadRow, ⟨T.exc _ (List.Mem.head _), T.xr_BadRow⟩, T.sq_REFUSALS, T.sq_WORDS⟩
  refine G.fok F sc (fun vs H Q E h => ?_) (fun cdv A outer s H vs Q E hr h => ?_)
  · obtain ⟨z0, rfl, q⟩ := h; rfl
  · refine ⟨rd__law_refused K C_BadRow (S_heard C_BadRow), (pss_cons (ps_set (i := 1) sc.nd rfl (Or.inl rfl) (pe_non))
      (pss_cons (G.ps_tryAs (i := 2) rfl ⟨rfl, rfl⟩ sc.nd rfl rfl rfl T.m_BadRow (fun cls h => by rcases h with rfl <;> first | exact T.e_BadRow_BadRow) (fun Ex pn xe hx => (pss_one (ps_expr (G.pe_callX G_heard (hr.mono (by decide)) rfl T.m_heard k_heard b_heard .nil hx (pa_cons (pv 0) pa_nil))))) (fun ea pn => (pss_one (ps_set (i := 1) sc.nd rfl (Or.inl rfl) (G.pe_xget (pv 2) rfl)))))
      (pss_one (ps_ret (pv 1))))), ?_⟩
    obtain ⟨z0, rfl, q⟩ := h
    exact _law_refused_rd tx q
theorem ok__law_classes {fd : FuncData} (F : Fun K "_law_classes" "_law_classes" s__law_classes f__law_classes fd) {fd_heard : FuncData} (G_heard : FnOk P w K mg base (G.CXe P w) 6 f_heard fd_heard ["text"] (S_heard C_BadRow)) (b_heard : Binds K fd_heard ["text"] []) (k_heard : PySem.W.keepIn K (.ref f_heard) = true) : FnOk P w K mg base (G.CXe P w) 7 f__law_classes fd ["_law_text"] (S_classes) := by
  have sc := sc__law_classes
  have tx : TxE K C_REFUSALS C_WORDS C_BadRow := ⟨T.xi_BadRow.xo, T.xs_BadRow, ⟨T.exc _ (List.Mem.head _), T.xr_BadRow⟩, T.sq_REFUSALS, T.sq_WORDS⟩
  refine G.fok F sc (fun vs H Q E h => ?_) (fun cdv A outer s H vs Q E hr h => ?_)
  · obtain ⟨z0, rfl, q⟩ := h; rfl
  · refine ⟨rd__law_classes C_BadRow C_GreyError C_NoSlot C_Twice (S_heard C_BadRow) (PySem.W.kitOne K), (pss_cons (ps_set (i := 1) sc.nd rfl (Or.inl rfl) (pe_lst pa_nil))
      (pss_cons (G.ps_tryAs (i := 2) rfl ⟨rfl, rfl⟩ sc.nd rfl rfl rfl T.m_TextError (fun cls h => by rcases h with rfl <;> first | exact T.e_BadRow_TextError) (fun Ex pn xe hx => (pss_one (ps_expr (G.pe_callX G_heard (hr.mono (by decide)) rfl T.m_heard k_heard b_heard .nil hx (pa_cons (pv 0) pa_nil))))) (fun ea pn => (pss_one (ps_set (i := 1) sc.nd rfl (Or.inl rfl) (pe_lst (pa_cons (pe_callB (G.call_isiX T.exc) (by rfl) T.z_isinstance G.boot_isinstance (pa_cons (pv 2) (pa_cons (pe_glob rfl T.m_BadRow rfl) pa_nil))) (pa_cons (pe_callB (G.call_isiX T.exc) (by rfl) T.z_isinstance G.boot_isinstance (pa_cons (pv 2) (pa_cons (pe_glob rfl T.m_GreyError rfl) pa_nil))) (pa_cons (pe_callB (G.call_isiX T.exc) (by rfl) T.z_isinstance G.boot_isinstance (pa_cons (pv 2) (pa_cons (pe_glob rfl T.m_NoSlot rfl) pa_nil))) (pa_cons (pe_callB (G.call_isiX T.exc) (by rfl) T.z_isinstance G.boot_isinstance (pa_cons (pv 2) (pa_cons (pe_glob rfl T.m_Twice rfl) pa_nil))) pa_nil)))))))))
      (pss_one (ps_ret (pv 1))))), ?_⟩
    obtain ⟨z0, rfl, q⟩ := h
    exact _law_classes_rd T.q1 T.q2 T.q3 T.q4 q
theorem ok__law_log_by {fd : FuncData} (F : Fun K "_law_log_by" "_law_log_by" s__law_log_by f__law_log_by fd) {fd__law_event_by : FuncData} (G__law_event_by : FnOk P w K mg base (G.CXe P w) 2 f__law_event_by fd__law_event_by ["_law_cell", "_law_k"] (S_by)) (b__law_event_by : Binds K fd__law_event_by ["_law_cell", "_law_k"] []) (k__law_event_by : PySem.W.keepIn K (.ref f__law_event_by) = true) : FnOk P w K mg base (G.CXe P w) 3 f__law_log_by fd ["_law_script"] (S_logby K) := by
  have sc := sc__law_log_by
  have tx : TxE K C_REFUSALS C_WORDS C_BadRow := ⟨T.xi_BadRow.xo, T.xs_BadRow, ⟨T.exc _ (List.Mem.head _), T.xr_BadRow⟩, T.sq_REFUSALS, T.sq_WORDS⟩
  refine G.fok F sc (fun vs H Q E h => ?_) (fun cdv A outer s H vs Q E hr h => ?_)
  · obtain ⟨z0, rfl, q⟩ := h; rfl
  · refine ⟨rd__law_log_by K (S_by), (pss_cons (ps_set (i := 1) sc.nd rfl (Or.inl rfl) (pe_lst pa_nil))
      (pss_cons (ps_for PassesOwn.never rfl (G.pi_enum rfl T.z_enumerate (pa_cons (pe_slice sl_list (pv 0) (po_some (pe_int)) (po_some (pe_int))) pa_nil)) (pg_tup rfl (pgs_cons (pg_name (i := 2) sc.nd rfl (Or.inl rfl)) (pgs_cons (pg_name (i := 3) sc.nd rfl (Or.inl rfl)) pgs_nil)))
      (pss_cons (ps_if (PW.pt (pw_or (pt_cmpR op_eq (pe_callB G.call_lenL (by rfl) T.z_len G.boot_len (pa_cons (pv 1) pa_nil)) (pe_int) (nomark _)) (pw_or1 (pt_cmpR op_ne (pe_op op_mod (pe_op op_mod (pe_op G.op_mulB (pe_op op_add (pe_op op_add (pv 3) (pe_op G.op_mulB (pv 2) (pv 2))) (pe_int)) (pe_int)) (pe_int)) (pe_int)) (pe_int) (nomark _))))) (pss_one (ps_expr (pe_bm PySem.F.plainAttrs_list PySem.F.slot_list_append PySem.F.type_list_append mt_append (pv 1) (pa_cons (pe_lst pa_nil) pa_nil)))) pss_nil)
      (pss_one (ps_expr (pe_bm PySem.F.plainAttrs_list PySem.F.slot_list_append PySem.F.type_list_append mt_append (pe_ix ix_list (pv 1) (pe_op op_sub (pe_callB G.call_lenL (by rfl) T.z_len G.boot_len (pa_cons (pv 1) pa_nil)) (pe_int)) (fun _ _ => rfl)) (pa_cons (pe_call G__law_event_by (hr.mono (by decide)) rfl T.m__law_event_by k__law_event_by b__law_event_by .nil G.passE0 (pa_cons (pv 3) (pa_cons (pv 2) pa_nil))) pa_nil))))))
      (pss_one (ps_ret (pv 1))))), ?_⟩
    obtain ⟨z0, rfl, q⟩ := h
    exact _law_log_by_rd q
theorem ok_law {fl : Addr} {fd : FuncData} (F : Fun K "law" "law" s_law fl fd) {fd__law_cell_at : FuncData} (G__law_cell_at : FnOk P w K mg base (G.CXe P w) 1 f__law_cell_at fd__law_cell_at ["_law_script", "_law_k"] (S_at K)) (b__law_cell_at : Binds K fd__law_cell_at ["_law_script", "_law_k"] []) (k__law_cell_at : PySem.W.keepIn K (.ref f__law_cell_at) = true) {fd__law_classes : FuncData} (G__law_classes : FnOk P w K mg base (G.CXe P w) 7 f__law_classes fd__law_classes ["_law_text"] (S_classes)) (b__law_classes : Binds K fd__law_classes ["_law_text"] []) (k__law_classes : PySem.W.keepIn K (.ref f__law_classes) = true) {fd__law_log_by : FuncData} (G__law_log_by : FnOk P w K mg base (G.CXe P w) 3 f__law_log_by fd__law_log_by ["_law_script"] (S_logby K)) (b__law_log_by : Binds K fd__law_log_by ["_law_script"] []) (k__law_log_by : PySem.W.keepIn K (.ref f__law_log_by) = true) {fd__law_refused : FuncData} (G__law_refused : FnOk P w K mg base (G.CXe P w) 7 f__law_refused fd__law_refused ["_law_text"] (S_refused)) (b__law_refused : Binds K fd__law_refused ["_law_text"] []) (k__law_refused : PySem.W.keepIn K (.ref f__law_refused) = true) {fd__law_same_log : FuncData} (G__law_same_log : FnOk P w K mg base (G.CXe P w) 3 f__law_same_log fd__law_same_log ["_law_found", "_law_due"] (S_slog)) (b__law_same_log : Binds K fd__law_same_log ["_law_found", "_law_due"] []) (k__law_same_log : PySem.W.keepIn K (.ref f__law_same_log) = true) {fd__law_spoilt : FuncData} (G__law_spoilt : FnOk P w K mg base (G.CXe P w) 2 f__law_spoilt fd__law_spoilt ["_law_number", "_law_event", "_law_way"] (S_spoilt)) (b__law_spoilt : Binds K fd__law_spoilt ["_law_number", "_law_event", "_law_way"] []) (k__law_spoilt : PySem.W.keepIn K (.ref f__law_spoilt) = true) {fd__law_text_of : FuncData} (G__law_text_of : FnOk P w K mg base (G.CXe P w) 1 f__law_text_of fd__law_text_of ["_law_number", "_law_event"] (S_text)) (b__law_text_of : Binds K fd__law_text_of ["_law_number", "_law_event"] []) (k__law_text_of : PySem.W.keepIn K (.ref f__law_text_of) = true) {fd__law_whole : FuncData} (G__law_whole : FnOk P w K mg base (G.CXe P w) 1 f__law_whole fd__law_whole ["_law_found"] (S_whole)) (b__law_whole : Binds K fd__law_whole ["_law_found"] []) (k__law_whole : PySem.W.keepIn K (.ref f__law_whole) = true) {fd_heard : FuncData} (G_heard : FnOk P w K mg base (G.CXe P w) 6 f_heard fd_heard ["text"] (S_heard C_BadRow)) (b_heard : Binds K fd_heard ["text"] []) (k_heard : PySem.W.keepIn K (.ref f_heard) = true) {fd_report : FuncData} (G_report : FnOk P w K mg base (G.CXe P w) 2 f_report fd_report ["log"] (S_report)) (b_report : Binds K fd_report ["log"] []) (k_report : PySem.W.keepIn K (.ref f_report) = true) : FnOk P w K mg base (G.CXe P w) 8 fl fd ["_law_script"] (S_law K) := by
  have sc := sc_law
  have tx : TxE K C_REFUSALS C_WORDS C_BadRow := ⟨T.xi_BadRow.xo, T.xs_BadRow, ⟨T.exc _ (List.Mem.head _), T.xr_BadRow⟩, T.sq_REFUSALS, T.sq_WORDS⟩
  refine G.fok F sc (fun vs H Q E h => ?_) (fun cdv A outer s H vs Q E hr h => ?_)
  · obtain ⟨z0, rfl, q⟩ := h; rfl
  · refine ⟨rd_law K (S_at K) (S_classes) (S_logby K) (S_refused) (S_slog) (S_spoilt) (S_text) (S_whole) (S_heard C_BadRow) (S_report), (pss_cons (ps_set (i := 1) sc.nd rfl (Or.inl rfl) (pe_call G__law_log_by (hr.mono (by decide)) rfl T.m__law_log_by k__law_log_by b__law_log_by .nil G.passE0 (pa_cons (pv 0) pa_nil)))
      (pss_cons (G.ps_lcset (iz := 4) (cns := []) [] (pi_list (pv 1)) (fun _ _ _ _ _ => G.pf_nil) (fun _ _ _ _ _ => (G.pe_lc (cns := []) [] (pi_list (pv 0)) (fun _ _ _ _ _ => G.pf_nil) (fun _ _ _ _ _ => (pe_tup (pa_cons (pe_ix ix_tup (pv 0) (pe_int) (fun _ _ => rfl)) (pa_cons (pe_ix ix_tup (pv 0) (pe_int) (fun _ _ => rfl)) (pa_cons (pe_callTy G.call_listL (by rfl) T.z_list G.boot_list (pa_cons (pe_ix ix_tup (pv 0) (pe_int) (fun _ _ => rfl)) pa_nil)) pa_nil))))) rfl rfl (by repeat (first | exact trivial | refine ⟨rfl, ?_⟩)) (by repeat (first | exact trivial | refine ⟨rfl, ?_⟩)) rfl (by decide +kernel) rfl (by decide +kernel) (by decide +kernel) rfl (by decide +kernel))) rfl rfl (by repeat (first | exact trivial | refine ⟨rfl, ?_⟩)) (by repeat (first | exact trivial | refine ⟨rfl, ?_⟩)) rfl (by decide +kernel) rfl (by decide +kernel) (by decide +kernel) rfl (by decide +kernel) sc.nd rfl (Or.inl rfl) (Or.inr rfl) rfl)
      (pss_cons (ps_set (i := 5) sc.nd rfl (Or.inl rfl) (pe_lst pa_nil))
      (pss_cons (ps_set (i := 6) sc.nd rfl (Or.inl rfl) (pe_lst pa_nil))
      (pss_cons (ps_for PassesOwn.never rfl (G.pi_enum rfl T.z_enumerate (pa_cons (pv 1) pa_nil)) (pg_tup rfl (pgs_cons (pg_name (i := 7) sc.nd rfl (Or.inl rfl)) (pgs_cons (pg_name (i := 2) sc.nd rfl (Or.inl rfl)) pgs_nil)))
      (pss_one (ps_for PassesOwn.never rfl (pi_list (pv 2)) (pg_name (i := 3) sc.nd rfl (Or.inl rfl))
      (pss_cons (ps_expr (pe_bm PySem.F.plainAttrs_list PySem.F.slot_list_append PySem.F.type_list_append mt_append (pv 6) (pa_cons (pe_tup (pa_cons (pe_op op_add (pv 7) (pe_int)) (pa_cons (pv 3) pa_nil))) pa_nil)))
      (pss_one (ps_expr (pe_bm PySem.F.plainAttrs_list PySem.F.slot_list_append PySem.F.type_list_append mt_append (pv 5) (pa_cons (pe_call G__law_text_of (hr.mono (by decide)) rfl T.m__law_text_of k__law_text_of b__law_text_of .nil G.passE0 (pa_cons (pe_op op_add (pv 7) (pe_int)) (pa_cons (pv 3) pa_nil))) pa_nil))))))))
      (pss_cons (ps_set (i := 8) sc.nd rfl (Or.inl rfl) (pe_bm PySem.F.plainAttrs_str PySem.F.slot_str_join PySem.F.type_str_join G.mt_join (pe_str) (pa_cons (pv 5) pa_nil)))
      (pss_cons (ps_set (i := 9) sc.nd rfl (Or.inl rfl) (pe_call G_report (hr.mono (by decide)) rfl T.m_report k_report b_report .nil G.passE0 (pa_cons (pv 4) pa_nil)))
      (pss_cons (ps_if (PW.pt (pw_or (pt_not (pt_val (pe_callB G.call_isi (by rfl) T.z_isinstance G.boot_isinstance (pa_cons (pv 9) (pa_cons (pe_bltn rfl T.z_str G.boot_str rfl) pa_nil))))) (pw_or (pt_cmpR op_ne (pv 9) (pv 8) (nomark _)) (pw_or1 (pt_cmpR (G.op_neN hr.units) (pv 4) (pv 1) (nomark _)))))) (pss_one (ps_ret (pe_bl))) pss_nil)
      (pss_cons (ps_if (pt_not (pt_val (pe_call G__law_same_log (hr.mono (by decide)) rfl T.m__law_same_log k__law_same_log b__law_same_log .nil G.passE0 (pa_cons (pe_call G_heard (hr.mono (by decide)) rfl T.m_heard k_heard b_heard .nil G.passE0 (pa_cons (pv 8) pa_nil)) (pa_cons (pv 1) pa_nil))))) (pss_one (ps_ret (pe_bl))) pss_nil)
      (pss_cons (ps_if (pt_cmpR op_eq (pe_callB G.call_lenL (by rfl) T.z_len G.boot_len (pa_cons (pv 5) pa_nil)) (pe_int) (nomark _)) (pss_cons (ps_if (PW.pt (pw_or (pt_cmpR op_ne (pe_call G__law_refused (hr.mono (by decide)) rfl T.m__law_refused k__law_refused b__law_refused .nil G.passE0 (pa_cons (pe_str) pa_nil)) (pe_int) (nomark _)) (pw_or1 (pt_cmpR op_ne (pe_call G__law_refused (hr.mono (by decide)) rfl T.m__law_refused k__law_refused b__law_refused .nil G.passE0 (pa_cons (pe_str) pa_nil)) (pe_int) (nomark _))))) (pss_one (ps_ret (pe_bl))) pss_nil)
      (pss_one (ps_ret ((pe_and (pe_cmpR op_eq (pe_call G__law_refused (hr.mono (by decide)) rfl T.m__law_refused k__law_refused b__law_refused .nil G.passE0 (pa_cons (pe_str) pa_nil)) (pe_int) (nomark _)) (pe_one (pe_cmpR op_eq (pe_call G__law_refused (hr.mono (by decide)) rfl T.m__law_refused k__law_refused b__law_refused .nil G.passE0 (pa_cons (pe_str) pa_nil)) (pe_int) (nomark _)))))))) pss_nil)
      (pss_cons (ps_set (i := 10) sc.nd rfl (Or.inl rfl) (pe_op op_mod (pe_call G__law_cell_at (hr.mono (by decide)) rfl T.m__law_cell_at k__law_cell_at b__law_cell_at .nil G.passE0 (pa_cons (pv 0) (pa_cons (pe_int) pa_nil))) (pe_op op_add (pe_callB G.call_lenL (by rfl) T.z_len G.boot_len (pa_cons (pv 5) pa_nil)) (pe_int))))
      (pss_cons (ps_if (PW.pt (pw_or (pt_cmpR op_ne (pe_call G__law_refused (hr.mono (by decide)) rfl T.m__law_refused k__law_refused b__law_refused .nil G.passE0 (pa_cons (pe_op op_add_str (pv 8) (pe_str)) pa_nil)) (pe_op op_add (pe_callB G.call_lenL (by rfl) T.z_len G.boot_len (pa_cons (pv 5) pa_nil)) (pe_int)) (nomark _)) (pw_or1 (pt_cmpR op_ne (pe_call G__law_refused (hr.mono (by decide)) rfl T.m__law_refused k__law_refused b__law_refused .nil G.passE0 (pa_cons (pe_bm PySem.F.plainAttrs_str PySem.F.slot_str_join PySem.F.type_str_join G.mt_join (pe_str) (pa_cons (pe_op op_cat (pe_op op_cat (pe_slice sl_list (pv 5) po_none (po_some (pv 10))) (pe_lst (pa_cons (pe_str) pa_nil))) (pe_slice sl_list (pv 5) (po_some (pv 10)) po_none)) pa_nil)) pa_nil)) (pe_op op_add (pv 10) (pe_int)) (nomark _))))) (pss_one (ps_ret (pe_bl))) pss_nil)
      (pss_cons (ps_set (i := 11) sc.nd rfl (Or.inl rfl) (pe_callB G.call_lenL (by rfl) T.z_len G.boot_len (pa_cons (pv 5) pa_nil)))
      (pss_cons (ps_for PassesOwn.never rfl (pi_range1 rfl T.z_range (pa_cons (pe_op op_add (pe_int) (pe_op op_mod (pe_call G__law_cell_at (hr.mono (by decide)) rfl T.m__law_cell_at k__law_cell_at b__law_cell_at .nil G.passE0 (pa_cons (pv 0) (pa_cons (pe_int) pa_nil))) (pe_int))) pa_nil)) (pg_name (i := 12) sc.nd rfl (Or.inl rfl))
      (pss_cons (ps_set (i := 13) sc.nd rfl (Or.inl rfl) (pe_op op_mod (pe_op G.op_mulB (pe_op op_add (pe_op op_add (pe_call G__law_cell_at (hr.mono (by decide)) rfl T.m__law_cell_at k__law_cell_at b__law_cell_at .nil G.passE0 (pa_cons (pv 0) (pa_cons (pe_op G.op_mulB (pe_int) (pv 12)) pa_nil))) (pe_op G.op_mulB (pe_int) (pv 12))) (pe_int)) (pe_int)) (pe_int)))
      (pss_cons (ps_set (i := 10) sc.nd rfl (Or.inl rfl) (pe_op op_mod (pe_op op_fdiv (pv 13) (pe_int)) (pe_callB G.call_lenL (by rfl) T.z_len G.boot_len (pa_cons (pv 5) pa_nil))))
      (pss_cons (ps_asg (pe_ix ix_list (pv 6) (pv 10) (fun _ _ => rfl)) (pg_tup rfl (pgs_cons (pg_name (i := 14) sc.nd rfl (Or.inl rfl)) (pgs_cons (pg_name (i := 3) sc.nd rfl (Or.inl rfl)) pgs_nil))))
      (pss_cons (ps_asg (pe_call G__law_spoilt (hr.mono (by decide)) rfl T.m__law_spoilt k__law_spoilt b__law_spoilt .nil G.passE0 (pa_cons (pv 14) (pa_cons (pv 3) (pa_cons (pv 13) pa_nil)))) (pg_sub (pv 5) (pv 10) set_list))
      (pss_one (ps_set (i := 11) sc.nd rfl (Or.inl rfl) (pe_callB (call_min2 rfl) (by rfl) T.z_min G.boot_min (pa_cons (pv 11) (pa_cons (pv 10) pa_nil))))))))))
      (pss_cons (ps_set (i := 8) sc.nd rfl (Or.inl rfl) (pe_bm PySem.F.plainAttrs_str PySem.F.slot_str_join PySem.F.type_str_join G.mt_join (pe_str) (pa_cons (pv 5) pa_nil)))
      (pss_cons (ps_set (i := 15) sc.nd rfl (Or.inl rfl) (pe_call G__law_refused (hr.mono (by decide)) rfl T.m__law_refused k__law_refused b__law_refused .nil G.passE0 (pa_cons (pv 8) pa_nil)))
      (pss_one (ps_ret ((pe_and (pe_call G__law_whole (hr.mono (by decide)) rfl T.m__law_whole k__law_whole b__law_whole .nil G.passE0 (pa_cons (pv 15) pa_nil)) (pe_and (pe_cmpR op_eq (pv 15) (pe_op op_add (pv 11) (pe_int)) (nomark _)) (pe_one (pe_cmpR (G.op_eqL (hu_of hr)) (pe_call G__law_classes (hr.mono (by decide)) rfl T.m__law_classes k__law_classes b__law_classes .nil G.passE0 (pa_cons (pv 8) pa_nil)) (pe_lst (pa_cons (pe_bl) (pa_cons (pe_bl) (pa_cons (pe_bl) (pa_cons (pe_bl) pa_nil))))) (nomark _)))))))))))))))))))))))), ?_⟩
    obtain ⟨z0, rfl, q⟩ := h
    exact law_rd tx q
end
theorem all_mk {l : PySem.W.OpenLaw} {w : World} {K : PySem.W.Frag} {h : Heap} {mg : Str → Option Value} {fa fl C_GreyError C_TextError C_BadRow C_Twice C_NoSlot C_REFUSALS C_WORDS f_TextError___init__ f_made_of f_number_of f_load_of f_event_row f_event_of f_has_thing f_thing_of f_report f_heard f_goes_on f__law_cell_at f__law_whole f__law_words f__law_event_by f__law_text_of f__law_spoilt f__law_same f__law_same_log f__law_refused f__law_classes f__law_log_by : Addr} (KI : K.In h) (GN : h.Ns mainGlobals mg) (hfa : mg "law" = some (.ref fa))
    {od1 an1 : Option Addr} {sl1 : Array (Option Value)} {oc1 kV1 dc1 pm1 cd1 ct1 : Value}
    {od2 an2 : Option Addr} {sl2 : Array (Option Value)} {oc2 kV2 dc2 pm2 cd2 ct2 : Value}
    {od3 an3 : Option Addr} {sl3 : Array (Option Value)} {oc3 kV3 dc3 pm3 cd3 ct3 : Value}
    {td3 : Addr} {tc3 : Value} {to3 : Option Addr} {tn3 : Nat} {ts3 : Array (Option Value)} {dv3_0 : Value}
    {od4 an4 : Option Addr} {sl4 : Array (Option Value)} {oc4 kV4 dc4 pm4 cd4 ct4 : Value}
    {od5 an5 : Option Addr} {sl5 : Array (Option Value)} {oc5 kV5 dc5 pm5 cd5 ct5 : Value}
    {od6 an6 : Option Addr} {sl6 : Array (Option Value)} {oc6 kV6 dc6 pm6 cd6 ct6 : Value}
    {od7 an7 : Option Addr} {sl7 : Array (Option Value)} {oc7 kV7 dc7 pm7 cd7 ct7 : Value}
    {od8 an8 : Option Addr} {sl8 : Array (Option Value)} {oc8 kV8 dc8 pm8 cd8 ct8 : Value}
    {od9 an9 : Option Addr} {sl9 : Array (Option Value)} {oc9 kV9 dc9 pm9 cd9 ct9 : Value}
    {od10 an10 : Option Addr} {sl10 : Array (Option Value)} {oc10 kV10 dc10 pm10 cd10 ct10 : Value}
    {od11 an11 : Option Addr} {sl11 : Array (Option Value)} {oc11 kV11 dc11 pm11 cd11 ct11 : Value}
    {od12 an12 : Option Addr} {sl12 : Array (Option Value)} {oc12 kV12 dc12 pm12 cd12 ct12 : Value}
    {od13 an13 : Option Addr} {sl13 : Array (Option Value)} {oc13 kV13 dc13 pm13 cd13 ct13 : Value}
    {od14 an14 : Option Addr} {sl14 : Array (Option Value)} {oc14 kV14 dc14 pm14 cd14 ct14 : Value}
    {od15 an15 : Option Addr} {sl15 : Array (Option Value)} {oc15 kV15 dc15 pm15 cd15 ct15 : Value}
    {od16 an16 : Option Addr} {sl16 : Array (Option Value)} {oc16 kV16 dc16 pm16 cd16 ct16 : Value}
    {od17 an17 : Option Addr} {sl17 : Array (Option Value)} {oc17 kV17 dc17 pm17 cd17 ct17 : Value}
    {od18 an18 : Option Addr} {sl18 : Array (Option Value)} {oc18 kV18 dc18 pm18 cd18 ct18 : Value}
    {od19 an19 : Option Addr} {sl19 : Array (Option Value)} {oc19 kV19 dc19 pm19 cd19 ct19 : Value}
    {od20 an20 : Option Addr} {sl20 : Array (Option Value)} {oc20 kV20 dc20 pm20 cd20 ct20 : Value}
    {od21 an21 : Option Addr} {sl21 : Array (Option Value)} {oc21 kV21 dc21 pm21 cd21 ct21 : Value}
    {od22 an22 : Option Addr} {sl22 : Array (Option Value)} {oc22 kV22 dc22 pm22 cd22 ct22 : Value}
    {od23 an23 : Option Addr} {sl23 : Array (Option Value)} {oc23 kV23 dc23 pm23 cd23 ct23 : Value}
    {xnm_BadRow xq_BadRow : Str} {xN_BadRow : Addr} {xbs_BadRow xsub_BadRow : List Value} {xsn_BadRow : List Str} {xab_BadRow : Bool} {xcol_BadRow : Option Bool} {xdd_BadRow : Option Addr} {xk0_BadRow xk1_BadRow xk2_BadRow xk3_BadRow xk5_BadRow : Option Value}
    {u_FIGURES : Value}
    {u_MOST_FIGURES : Value}
    {u_NOTHING : Value}
    {u_REFUSED : Value}
    {tn_REFUSALS : Nat} {tk_REFUSALS0 tk_REFUSALS1 tk_REFUSALS2 tk_REFUSALS3 : Tok}
    {tn_WORDS : Nat} {tk_WORDS0 tk_WORDS1 tk_WORDS2 tk_WORDS3 tk_WORDS4 tk_WORDS5 tk_WORDS6 tk_WORDS7 tk_WORDS8 tk_WORDS9 tk_WORDS10 tk_WORDS11 tk_WORDS12 tk_WORDS13 tk_WORDS14 tk_WORDS15 tk_WORDS16 tk_WORDS17 : Tok}
    (a_GreyError : PySem.W.nsIn K mainGlobals "GreyError" = some (some (.ref C_GreyError)))
    (a_TextError : PySem.W.nsIn K mainGlobals "TextError" = some (some (.ref C_TextError)))
    (a_BadRow : PySem.W.nsIn K mainGlobals "BadRow" = some (some (.ref C_BadRow)))
    (a_Twice : PySem.W.nsIn K mainGlobals "Twice" = some (some (.ref C_Twice)))
    (a_NoSlot : PySem.W.nsIn K mainGlobals "NoSlot" = some (some (.ref C_NoSlot)))
    (a_REFUSALS : PySem.W.nsIn K mainGlobals "REFUSALS" = some (some (.ref C_REFUSALS)))
    (a_WORDS : PySem.W.nsIn K mainGlobals "WORDS" = some (some (.ref C_WORDS)))
    (a1 : PySem.W.findIn K (.ref C_TextError) "__init__" = some (some (.ref f_TextError___init__)))
    (i1 : PySem.W.isFn K (.ref f_TextError___init__) = true)
    (l1 : K.lookup f_TextError___init__ = some ⟨oc1, od1, .func (PySem.W.fnOf "__init__" "TextError.__init__" (defArgs s_TextError___init__) (defBody s_TextError___init__) (defScope s_TextError___init__) .none kV1 dc1 pm1 an1 cd1 ct1), sl1⟩)
    (c1 : PySem.W.codeIn K cd1 "TextError.__init__" = true)
    (k1 : PySem.W.keepIn K (.ref f_TextError___init__) = true)
    (a2 : PySem.W.nsIn K mainGlobals "made_of" = some (some (.ref f_made_of)))
    (l2 : K.lookup f_made_of = some ⟨oc2, od2, .func (PySem.W.fnOf "made_of" "made_of" (defArgs s_made_of) (defBody s_made_of) (defScope s_made_of) .none kV2 dc2 pm2 an2 cd2 ct2), sl2⟩)
    (c2 : PySem.W.codeIn K cd2 "made_of" = true)
    (k2 : PySem.W.keepIn K (.ref f_made_of) = true)
    (a3 : PySem.W.nsIn K mainGlobals "number_of" = some (some (.ref f_number_of)))
    (l3 : K.lookup f_number_of = some ⟨oc3, od3, .func (PySem.W.fnOf "number_of" "number_of" (defArgs s_number_of) (defBody s_number_of) (defScope s_number_of) (.ref td3) kV3 dc3 pm3 an3 cd3 ct3), sl3⟩)
    (t3 : K.lookup td3 = some ⟨tc3, to3, .seq #[dv3_0] tn3, ts3⟩)
    (dr3_0 : RelV .non dv3_0)
    (c3 : PySem.W.codeIn K cd3 "number_of" = true)
    (k3 : PySem.W.keepIn K (.ref f_number_of) = true)
    (a4 : PySem.W.nsIn K mainGlobals "load_of" = some (some (.ref f_load_of)))
    (l4 : K.lookup f_load_of = some ⟨oc4, od4, .func (PySem.W.fnOf "load_of" "load_of" (defArgs s_load_of) (defBody s_load_of) (defScope s_load_of) .none kV4 dc4 pm4 an4 cd4 ct4), sl4⟩)
    (c4 : PySem.W.codeIn K cd4 "load_of" = true)
    (k4 : PySem.W.keepIn K (.ref f_load_of) = true)
    (a5 : PySem.W.nsIn K mainGlobals "event_row" = some (some (.ref f_event_row)))
    (l5 : K.lookup f_event_row = some ⟨oc5, od5, .func (PySem.W.fnOf "event_row" "event_row" (defArgs s_event_row) (defBody s_event_row) (defScope s_event_row) .none kV5 dc5 pm5 an5 cd5 ct5), sl5⟩)
    (c5 : PySem.W.codeIn K cd5 "event_row" = true)
    (k5 : PySem.W.keepIn K (.ref f_event_row) = true)
    (a6 : PySem.W.nsIn K mainGlobals "event_of" = some (some (.ref f_event_of)))
    (l6 : K.lookup f_event_of = some ⟨oc6, od6, .func (PySem.W.fnOf "event_of" "event_of" (defArgs s_event_of) (defBody s_event_of) (defScope s_event_of) .none kV6 dc6 pm6 an6 cd6 ct6), sl6⟩)
    (c6 : PySem.W.codeIn K cd6 "event_of" = true)
    (k6 : PySem.W.keepIn K (.ref f_event_of) = true)
    (a7 : PySem.W.nsIn K mainGlobals "has_thing" = some (some (.ref f_has_thing)))
    (l7 : K.lookup f_has_thing = some ⟨oc7, od7, .func (PySem.W.fnOf "has_thing" "has_thing" (defArgs s_has_thing) (defBody s_has_thing) (defScope s_has_thing) .none kV7 dc7 pm7 an7 cd7 ct7), sl7⟩)
    (c7 : PySem.W.codeIn K cd7 "has_thing" = true)
    (k7 : PySem.W.keepIn K (.ref f_has_thing) = true)
    (a8 : PySem.W.nsIn K mainGlobals "thing_of" = some (some (.ref f_thing_of)))
    (l8 : K.lookup f_thing_of = some ⟨oc8, od8, .func (PySem.W.fnOf "thing_of" "thing_of" (defArgs s_thing_of) (defBody s_thing_of) (defScope s_thing_of) .none kV8 dc8 pm8 an8 cd8 ct8), sl8⟩)
    (c8 : PySem.W.codeIn K cd8 "thing_of" = true)
    (k8 : PySem.W.keepIn K (.ref f_thing_of) = true)
    (a9 : PySem.W.nsIn K mainGlobals "report" = some (some (.ref f_report)))
    (l9 : K.lookup f_report = some ⟨oc9, od9, .func (PySem.W.fnOf "report" "report" (defArgs s_report) (defBody s_report) (defScope s_report) .none kV9 dc9 pm9 an9 cd9 ct9), sl9⟩)
    (c9 : PySem.W.codeIn K cd9 "report" = true)
    (k9 : PySem.W.keepIn K (.ref f_report) = true)
    (a10 : PySem.W.nsIn K mainGlobals "heard" = some (some (.ref f_heard)))
    (l10 : K.lookup f_heard = some ⟨oc10, od10, .func (PySem.W.fnOf "heard" "heard" (defArgs s_heard) (defBody s_heard) (defScope s_heard) .none kV10 dc10 pm10 an10 cd10 ct10), sl10⟩)
    (c10 : PySem.W.codeIn K cd10 "heard" = true)
    (k10 : PySem.W.keepIn K (.ref f_heard) = true)
    (a11 : PySem.W.nsIn K mainGlobals "goes_on" = some (some (.ref f_goes_on)))
    (l11 : K.lookup f_goes_on = some ⟨oc11, od11, .func (PySem.W.fnOf "goes_on" "goes_on" (defArgs s_goes_on) (defBody s_goes_on) (defScope s_goes_on) .none kV11 dc11 pm11 an11 cd11 ct11), sl11⟩)
    (c11 : PySem.W.codeIn K cd11 "goes_on" = true)
    (k11 : PySem.W.keepIn K (.ref f_goes_on) = true)
    (a12 : PySem.W.nsIn K mainGlobals "_law_cell_at" = some (some (.ref f__law_cell_at)))
    (l12 : K.lookup f__law_cell_at = some ⟨oc12, od12, .func (PySem.W.fnOf "_law_cell_at" "_law_cell_at" (defArgs s__law_cell_at) (defBody s__law_cell_at) (defScope s__law_cell_at) .none kV12 dc12 pm12 an12 cd12 ct12), sl12⟩)
    (c12 : PySem.W.codeIn K cd12 "_law_cell_at" = true)
    (k12 : PySem.W.keepIn K (.ref f__law_cell_at) = true)
    (a13 : PySem.W.nsIn K mainGlobals "_law_whole" = some (some (.ref f__law_whole)))
    (l13 : K.lookup f__law_whole = some ⟨oc13, od13, .func (PySem.W.fnOf "_law_whole" "_law_whole" (defArgs s__law_whole) (defBody s__law_whole) (defScope s__law_whole) .none kV13 dc13 pm13 an13 cd13 ct13), sl13⟩)
    (c13 : PySem.W.codeIn K cd13 "_law_whole" = true)
    (k13 : PySem.W.keepIn K (.ref f__law_whole) = true)
    (a14 : PySem.W.nsIn K mainGlobals "_law_words" = some (some (.ref f__law_words)))
    (l14 : K.lookup f__law_words = some ⟨oc14, od14, .func (PySem.W.fnOf "_law_words" "_law_words" (defArgs s__law_words) (defBody s__law_words) (defScope s__law_words) .none kV14 dc14 pm14 an14 cd14 ct14), sl14⟩)
    (c14 : PySem.W.codeIn K cd14 "_law_words" = true)
    (k14 : PySem.W.keepIn K (.ref f__law_words) = true)
    (a15 : PySem.W.nsIn K mainGlobals "_law_event_by" = some (some (.ref f__law_event_by)))
    (l15 : K.lookup f__law_event_by = some ⟨oc15, od15, .func (PySem.W.fnOf "_law_event_by" "_law_event_by" (defArgs s__law_event_by) (defBody s__law_event_by) (defScope s__law_event_by) .none kV15 dc15 pm15 an15 cd15 ct15), sl15⟩)
    (c15 : PySem.W.codeIn K cd15 "_law_event_by" = true)
    (k15 : PySem.W.keepIn K (.ref f__law_event_by) = true)
    (a16 : PySem.W.nsIn K mainGlobals "_law_text_of" = some (some (.ref f__law_text_of)))
    (l16 : K.lookup f__law_text_of = some ⟨oc16, od16, .func (PySem.W.fnOf "_law_text_of" "_law_text_of" (defArgs s__law_text_of) (defBody s__law_text_of) (defScope s__law_text_of) .none kV16 dc16 pm16 an16 cd16 ct16), sl16⟩)
    (c16 : PySem.W.codeIn K cd16 "_law_text_of" = true)
    (k16 : PySem.W.keepIn K (.ref f__law_text_of) = true)
    (a17 : PySem.W.nsIn K mainGlobals "_law_spoilt" = some (some (.ref f__law_spoilt)))
    (l17 : K.lookup f__law_spoilt = some ⟨oc17, od17, .func (PySem.W.fnOf "_law_spoilt" "_law_spoilt" (defArgs s__law_spoilt) (defBody s__law_spoilt) (defScope s__law_spoilt) .none kV17 dc17 pm17 an17 cd17 ct17), sl17⟩)
    (c17 : PySem.W.codeIn K cd17 "_law_spoilt" = true)
    (k17 : PySem.W.keepIn K (.ref f__law_spoilt) = true)
    (a18 : PySem.W.nsIn K mainGlobals "_law_same" = some (some (.ref f__law_same)))
    (l18 : K.lookup f__law_same = some ⟨oc18, od18, .func (PySem.W.fnOf "_law_same" "_law_same" (defArgs s__law_same) (defBody s__law_same) (defScope s__law_same) .none kV18 dc18 pm18 an18 cd18 ct18), sl18⟩)
    (c18 : PySem.W.codeIn K cd18 "_law_same" = true)
    (k18 : PySem.W.keepIn K (.ref f__law_same) = true)
    (a19 : PySem.W.nsIn K mainGlobals "_law_same_log" = some (some (.ref f__law_same_log)))
    (l19 : K.lookup f__law_same_log = some ⟨oc19, od19, .func (PySem.W.fnOf "_law_same_log" "_law_same_log" (defArgs s__law_same_log) (defBody s__law_same_log) (defScope s__law_same_log) .none kV19 dc19 pm19 an19 cd19 ct19), sl19⟩)
    (c19 : PySem.W.codeIn K cd19 "_law_same_log" = true)
    (k19 : PySem.W.keepIn K (.ref f__law_same_log) = true)
    (a20 : PySem.W.nsIn K mainGlobals "_law_refused" = some (some (.ref f__law_refused)))
    (l20 : K.lookup f__law_refused = some ⟨oc20, od20, .func (PySem.W.fnOf "_law_refused" "_law_refused" (defArgs s__law_refused) (defBody s__law_refused) (defScope s__law_refused) .none kV20 dc20 pm20 an20 cd20 ct20), sl20⟩)
    (c20 : PySem.W.codeIn K cd20 "_law_refused" = true)
    (k20 : PySem.W.keepIn K (.ref f__law_refused) = true)
    (a21 : PySem.W.nsIn K mainGlobals "_law_classes" = some (some (.ref f__law_classes)))
    (l21 : K.lookup f__law_classes = some ⟨oc21, od21, .func (PySem.W.fnOf "_law_classes" "_law_classes" (defArgs s__law_classes) (defBody s__law_classes) (defScope s__law_classes) .none kV21 dc21 pm21 an21 cd21 ct21), sl21⟩)
    (c21 : PySem.W.codeIn K cd21 "_law_classes" = true)
    (k21 : PySem.W.keepIn K (.ref f__law_classes) = true)
    (a22 : PySem.W.nsIn K mainGlobals "_law_log_by" = some (some (.ref f__law_log_by)))
    (l22 : K.lookup f__law_log_by = some ⟨oc22, od22, .func (PySem.W.fnOf "_law_log_by" "_law_log_by" (defArgs s__law_log_by) (defBody s__law_log_by) (defScope s__law_log_by) .none kV22 dc22 pm22 an22 cd22 ct22), sl22⟩)
    (c22 : PySem.W.codeIn K cd22 "_law_log_by" = true)
    (k22 : PySem.W.keepIn K (.ref f__law_log_by) = true)
    (a23 : PySem.W.nsIn K mainGlobals "law" = some (some (.ref fl)))
    (l23 : K.lookup fl = some ⟨oc23, od23, .func (PySem.W.fnOf "law" "law" (defArgs s_law) (defBody s_law) (defScope s_law) .none kV23 dc23 pm23 an23 cd23 ct23), sl23⟩)
    (c23 : PySem.W.codeIn K cd23 "law" = true)
    (k23 : PySem.W.keepIn K (.ref fl) = true)
    (xl_BadRow : K.lookup C_BadRow = some ⟨.type "type", xdd_BadRow, .cls ⟨xnm_BadRow, xbs_BadRow, .ref C_BadRow :: .ref C_TextError :: .ref C_GreyError :: [.type "ValueError", .type "Exception", .type "BaseException", .type "object"], xN_BadRow, xq_BadRow, true, xsn_BadRow, xsub_BadRow, xab_BadRow, xcol_BadRow, false⟩, #[xk0_BadRow, xk1_BadRow, xk2_BadRow, xk3_BadRow, some (.builtin "ValueError.__new__"), xk5_BadRow]⟩)
    (xi_BadRow : PySem.W.findIn K (.ref C_BadRow) "__init__" = some (some (.ref f_TextError___init__)))
    (xs_BadRow : PySem.W.findIn K (.ref C_BadRow) "__setattr__" = some (some (.builtin "object.__setattr__")))
    (xr_BadRow : PySem.W.findIn K (.ref C_BadRow) "row" = some none)
    (xb1_GreyError : PySem.W.specialIn K (.ref C_GreyError) "__getattribute__" = some (some (.builtin "type.__getattribute__")))
    (xb2_GreyError : PySem.W.readsIn K C_GreyError (.type "type") = true)
    (xb3_GreyError : PySem.W.findCls K (.ref C_GreyError) (.type "type") "__init__" = some (.val (.builtin "ValueError.__init__")))
    (e_BadRow_BadRow : PySem.W.exmOne K (.ref C_BadRow) (.ref C_BadRow) = some true)
    (e_BadRow_TextError : PySem.W.exmOne K (.ref C_BadRow) (.ref C_TextError) = some true)
    (yga_BadRow : PySem.W.findIn K (.ref C_BadRow) "__getattribute__" = some (some (.builtin "BaseException.__getattribute__")))
    (yno_BadRow : PySem.W.findIn K (.ref C_BadRow) "__getattr__" = some none)
    (ycl_BadRow : PySem.W.findIn K (.ref C_BadRow) "__class__" = some (some (.builtin "object.__class__")))
    (yso_BadRow : PySem.W.mroIn K C_BadRow (.type "object") = some true)
    (ysb_BadRow : PySem.W.mroIn K C_BadRow (.type "BaseException") = some true)
    (yis_BadRow : PySem.W.hasDictIn K C_BadRow = true)
    (z_all : PySem.W.nsIn K mainGlobals "all" = some none)
    (z_bool : PySem.W.nsIn K mainGlobals "bool" = some none)
    (z_enumerate : PySem.W.nsIn K mainGlobals "enumerate" = some none)
    (z_int : PySem.W.nsIn K mainGlobals "int" = some none)
    (z_isinstance : PySem.W.nsIn K mainGlobals "isinstance" = some none)
    (z_len : PySem.W.nsIn K mainGlobals "len" = some none)
    (z_list : PySem.W.nsIn K mainGlobals "list" = some none)
    (z_max : PySem.W.nsIn K mainGlobals "max" = some none)
    (z_min : PySem.W.nsIn K mainGlobals "min" = some none)
    (z_range : PySem.W.nsIn K mainGlobals "range" = some none)
    (z_str : PySem.W.nsIn K mainGlobals "str" = some none)
    (z_tuple : PySem.W.nsIn K mainGlobals "tuple" = some none)
    (z_zip : PySem.W.nsIn K mainGlobals "zip" = some none)
    (gl_FIGURES : PySem.W.nsIn K mainGlobals "FIGURES" = some (some u_FIGURES))
    (gr_FIGURES : RelV (.str "0123456789") u_FIGURES)
    (gl_MOST_FIGURES : PySem.W.nsIn K mainGlobals "MOST_FIGURES" = some (some u_MOST_FIGURES))
    (gr_MOST_FIGURES : RelV (.int 60) u_MOST_FIGURES)
    (gl_NOTHING : PySem.W.nsIn K mainGlobals "NOTHING" = some (some u_NOTHING))
    (gr_NOTHING : RelV (.str "-") u_NOTHING)
    (gl_REFUSED : PySem.W.nsIn K mainGlobals "REFUSED" = some (some u_REFUSED))
    (gr_REFUSED : RelV (.str "refused") u_REFUSED)
    (lk_REFUSALS : K.lookup C_REFUSALS = some ⟨.type "tuple", none, .seq #[.str "empty" tk_REFUSALS0, .str "field" tk_REFUSALS1, .str "full" tk_REFUSALS2, .str "name" tk_REFUSALS3] tn_REFUSALS, #[]⟩)
    (lk_WORDS : K.lookup C_WORDS = some ⟨.type "tuple", none, .seq #[.str "made" tk_WORDS0, .str "got" tk_WORDS1, .str "put" tk_WORDS2, .str "copied" tk_WORDS3, .str "dropped" tk_WORDS4, .str "given" tk_WORDS5, .str "wrote" tk_WORDS6, .str "read" tk_WORDS7, .str "named" tk_WORDS8, .str "sought" tk_WORDS9, .str "begin" tk_WORDS10, .str "walk" tk_WORDS11, .str "look" tk_WORDS12, .str "cut" tk_WORDS13, .str "lost" tk_WORDS14, .str "back" tk_WORDS15, .str "pass" tk_WORDS16, .str "end" tk_WORDS17] tn_WORDS, #[]⟩)
    (hq1 : PySem.W.kitOne K (.ref C_BadRow) (.ref C_BadRow) = some true)
    (hq2 : PySem.W.kitOne K (.ref C_BadRow) (.ref C_GreyError) = some true)
    (hq3 : PySem.W.kitOne K (.ref C_BadRow) (.ref C_NoSlot) = some false)
    (hq4 : PySem.W.kitOne K (.ref C_BadRow) (.ref C_Twice) = some false)
    : ∃ fd : FuncData, (∀ (s : Shared) (v : Value), BindsTo s fd ⟨[v], []⟩ [("_law_script", v)]) ∧ ∀ base : Heap, K.In base → base.Ns mainGlobals mg → FnOk l.prog w K mg base (G.CXe l.prog w) 8 fa fd ["_law_script"] (S_law K) := by
  have e := hfa.symm.trans (PySem.W.mg_of KI GN a23)
  cases e
  have T : Txt K mg C_GreyError C_TextError C_BadRow C_Twice C_NoSlot C_REFUSALS C_WORDS f_TextError___init__ f_made_of f_number_of f_load_of f_event_row f_event_of f_has_thing f_thing_of f_report f_heard f_goes_on f__law_cell_at f__law_whole f__law_words f__law_event_by f__law_text_of f__law_spoilt f__law_same f__law_same_log f__law_refused f__law_classes f__law_log_by := {
    m_GreyError := PySem.W.mg_of KI GN a_GreyError
    m_TextError := PySem.W.mg_of KI GN a_TextError
    m_BadRow := PySem.W.mg_of KI GN a_BadRow
    m_Twice := PySem.W.mg_of KI GN a_Twice
    m_NoSlot := PySem.W.mg_of KI GN a_NoSlot
    m_REFUSALS := PySem.W.mg_of KI GN a_REFUSALS
    m_WORDS := PySem.W.mg_of KI GN a_WORDS
    xi_BadRow := ⟨⟨xnm_BadRow, xq_BadRow, xN_BadRow, xbs_BadRow, [C_TextError, C_GreyError], xsn_BadRow, xsub_BadRow, xab_BadRow, xcol_BadRow, xdd_BadRow, xk0_BadRow, xk1_BadRow, xk2_BadRow, xk3_BadRow, xk5_BadRow, xl_BadRow⟩, xi_BadRow, i1⟩
    xs_BadRow := ⟨xs_BadRow, xr_BadRow⟩
    xr_BadRow := xr_BadRow
    xb_GreyError := ⟨xb1_GreyError, xb2_GreyError, xb3_GreyError⟩
    e_BadRow_BadRow := e_BadRow_BadRow
    e_BadRow_TextError := e_BadRow_TextError
    exc := by
      intro C hC
      simp only [List.mem_cons, List.not_mem_nil, or_false] at hC
      rcases hC with rfl
      exact ⟨yga_BadRow, yno_BadRow, ycl_BadRow, yso_BadRow, ysb_BadRow, yis_BadRow⟩
    me_TextError___init__ := ⟨a1, i1, k1⟩
    m_made_of := PySem.W.mg_of KI GN a2
    m_number_of := PySem.W.mg_of KI GN a3
    m_load_of := PySem.W.mg_of KI GN a4
    m_event_row := PySem.W.mg_of KI GN a5
    m_event_of := PySem.W.mg_of KI GN a6
    m_has_thing := PySem.W.mg_of KI GN a7
    m_thing_of := PySem.W.mg_of KI GN a8
    m_report := PySem.W.mg_of KI GN a9
    m_heard := PySem.W.mg_of KI GN a10
    m_goes_on := PySem.W.mg_of KI GN a11
    m__law_cell_at := PySem.W.mg_of KI GN a12
    m__law_whole := PySem.W.mg_of KI GN a13
    m__law_words := PySem.W.mg_of KI GN a14
    m__law_event_by := PySem.W.mg_of KI GN a15
    m__law_text_of := PySem.W.mg_of KI GN a16
    m__law_spoilt := PySem.W.mg_of KI GN a17
    m__law_same := PySem.W.mg_of KI GN a18
    m__law_same_log := PySem.W.mg_of KI GN a19
    m__law_refused := PySem.W.mg_of KI GN a20
    m__law_classes := PySem.W.mg_of KI GN a21
    m__law_log_by := PySem.W.mg_of KI GN a22
    z_all := PySem.W.mg_none_of KI GN z_all
    z_bool := PySem.W.mg_none_of KI GN z_bool
    z_enumerate := PySem.W.mg_none_of KI GN z_enumerate
    z_int := PySem.W.mg_none_of KI GN z_int
    z_isinstance := PySem.W.mg_none_of KI GN z_isinstance
    z_len := PySem.W.mg_none_of KI GN z_len
    z_list := PySem.W.mg_none_of KI GN z_list
    z_max := PySem.W.mg_none_of KI GN z_max
    z_min := PySem.W.mg_none_of KI GN z_min
    z_range := PySem.W.mg_none_of KI GN z_range
    z_str := PySem.W.mg_none_of KI GN z_str
    z_tuple := PySem.W.mg_none_of KI GN z_tuple
    z_zip := PySem.W.mg_none_of KI GN z_zip
    g_FIGURES := ⟨_, PySem.W.mg_of KI GN gl_FIGURES, gr_FIGURES⟩
    g_MOST_FIGURES := ⟨_, PySem.W.mg_of KI GN gl_MOST_FIGURES, gr_MOST_FIGURES⟩
    g_NOTHING := ⟨_, PySem.W.mg_of KI GN gl_NOTHING, gr_NOTHING⟩
    g_REFUSED := ⟨_, PySem.W.mg_of KI GN gl_REFUSED, gr_REFUSED⟩
    sq_REFUSALS := fun H => .inr ⟨_, _, _, lk_REFUSALS, rfl, rfl, by simp [sizeLine_eq], .cons ⟨_, rfl⟩ (.cons ⟨_, rfl⟩ (.cons ⟨_, rfl⟩ (.cons ⟨_, rfl⟩ .nil)))⟩
    sq_WORDS := fun H => .inr ⟨_, _, _, lk_WORDS, rfl, rfl, by simp [sizeLine_eq], .cons ⟨_, rfl⟩ (.cons ⟨_, rfl⟩ (.cons ⟨_, rfl⟩ (.cons ⟨_, rfl⟩ (.cons ⟨_, rfl⟩ (.cons ⟨_, rfl⟩ (.cons ⟨_, rfl⟩ (.cons ⟨_, rfl⟩ (.cons ⟨_, rfl⟩ (.cons ⟨_, rfl⟩ (.cons ⟨_, rfl⟩ (.cons ⟨_, rfl⟩ (.cons ⟨_, rfl⟩ (.cons ⟨_, rfl⟩ (.cons ⟨_, rfl⟩ (.cons ⟨_, rfl⟩ (.cons ⟨_, rfl⟩ (.cons ⟨_, rfl⟩ .nil)))))))))))))))))⟩
    q1 := hq1
    q2 := hq2
    q3 := hq3
    q4 := hq4
  }
  have F1 := fun_mk (st := s_TextError___init__) l1 c1 k1
  have b1 := F1.binds (ps := ["self", "row"]) fun _ _ _ _ _ _ us hl => match us, hl with | [_, _], _ => rfl
  have F2 := fun_mk (st := s_made_of) l2 c2 k2
  have b2 := F2.binds (ps := ["text", "signs", "most"]) fun _ _ _ _ _ _ us hl => match us, hl with | [_, _, _], _ => rfl
  have F3 := G.funD_mk (st := s_number_of) l3 c3 k3
  have b3 := G.bindsD (ps := ["text", "most"]) (ds := []) l3 t3 fun us hl => match us, hl with | [_, _], _ => ⟨_, rfl, rfl⟩
  have bd3_1 := G.bindsD (ps := ["text", "most"]) (ds := [dv3_0]) l3 t3 fun us hl => match us, hl with | [_], _ => ⟨_, rfl, rfl⟩
  have F4 := fun_mk (st := s_load_of) l4 c4 k4
  have b4 := F4.binds (ps := ["text"]) fun _ _ _ _ _ _ us hl => match us, hl with | [_], _ => rfl
  have F5 := fun_mk (st := s_event_row) l5 c5 k5
  have b5 := F5.binds (ps := ["event"]) fun _ _ _ _ _ _ us hl => match us, hl with | [_], _ => rfl
  have F6 := fun_mk (st := s_event_of) l6 c6 k6
  have b6 := F6.binds (ps := ["text"]) fun _ _ _ _ _ _ us hl => match us, hl with | [_], _ => rfl
  have F7 := fun_mk (st := s_has_thing) l7 c7 k7
  have b7 := F7.binds (ps := ["word", "text"]) fun _ _ _ _ _ _ us hl => match us, hl with | [_, _], _ => rfl
  have F8 := fun_mk (st := s_thing_of) l8 c8 k8
  have b8 := F8.binds (ps := ["word", "text"]) fun _ _ _ _ _ _ us hl => match us, hl with | [_, _], _ => rfl
  have F9 := fun_mk (st := s_report) l9 c9 k9
  have b9 := F9.binds (ps := ["log"]) fun _ _ _ _ _ _ us hl => match us, hl with | [_], _ => rfl
  have F10 := fun_mk (st := s_heard) l10 c10 k10
  have b10 := F10.binds (ps := ["text"]) fun _ _ _ _ _ _ us hl => match us, hl with | [_], _ => rfl
  have F11 := fun_mk (st := s_goes_on) l11 c11 k11
  have b11 := F11.binds (ps := ["number", "many"]) fun _ _ _ _ _ _ us hl => match us, hl with | [_, _], _ => rfl
  have F12 := fun_mk (st := s__law_cell_at) l12 c12 k12
  have b12 := F12.binds (ps := ["_law_script", "_law_k"]) fun _ _ _ _ _ _ us hl => match us, hl with | [_, _], _ => rfl
  have F13 := fun_mk (st := s__law_whole) l13 c13 k13
  have b13 := F13.binds (ps := ["_law_found"]) fun _ _ _ _ _ _ us hl => match us, hl with | [_], _ => rfl
  have F14 := fun_mk (st := s__law_words) l14 c14 k14
  have b14 := F14.binds (ps := []) fun _ _ _ _ _ _ us hl => match us, hl with | [], _ => rfl
  have F15 := fun_mk (st := s__law_event_by) l15 c15 k15
  have b15 := F15.binds (ps := ["_law_cell", "_law_k"]) fun _ _ _ _ _ _ us hl => match us, hl with | [_, _], _ => rfl
  have F16 := fun_mk (st := s__law_text_of) l16 c16 k16
  have b16 := F16.binds (ps := ["_law_number", "_law_event"]) fun _ _ _ _ _ _ us hl => match us, hl with | [_, _], _ => rfl
  have F17 := fun_mk (st := s__law_spoilt) l17 c17 k17
  have b17 := F17.binds (ps := ["_law_number", "_law_event", "_law_way"]) fun _ _ _ _ _ _ us hl => match us, hl with | [_, _, _], _ => rfl
  have F18 := fun_mk (st := s__law_same) l18 c18 k18
  have b18 := F18.binds (ps := ["_law_found", "_law_due"]) fun _ _ _ _ _ _ us hl => match us, hl with | [_, _], _ => rfl
  have F19 := fun_mk (st := s__law_same_log) l19 c19 k19
  have b19 := F19.binds (ps := ["_law_found", "_law_due"]) fun _ _ _ _ _ _ us hl => match us, hl with | [_, _], _ => rfl
  have F20 := fun_mk (st := s__law_refused) l20 c20 k20
  have b20 := F20.binds (ps := ["_law_text"]) fun _ _ _ _ _ _ us hl => match us, hl with | [_], _ => rfl
  have F21 := fun_mk (st := s__law_classes) l21 c21 k21
  have b21 := F21.binds (ps := ["_law_text"]) fun _ _ _ _ _ _ us hl => match us, hl with | [_], _ => rfl
  have F22 := fun_mk (st := s__law_log_by) l22 c22 k22
  have b22 := F22.binds (ps := ["_law_script"]) fun _ _ _ _ _ _ us hl => match us, hl with | [_], _ => rfl
  have F23 := fun_mk (st := s_law) l23 c23 k23
  refine ⟨PySem.W.fnOf "law" "law" (defArgs s_law) (defBody s_law) (defScope s_law) .none kV23 dc23 pm23 an23 cd23 ct23, fun s v => .of_eq rfl, fun base _ _ => ?_⟩
  have G1 := ok_TextError___init__ (P := l.prog) (w := w) (base := base) T F1 
  have G2 := ok_made_of (P := l.prog) (w := w) (base := base) T F2 
  have G5 := ok_event_row (P := l.prog) (w := w) (base := base) T F5 
  have G11 := ok_goes_on (P := l.prog) (w := w) (base := base) T F11 
  have G12 := ok__law_cell_at (P := l.prog) (w := w) (base := base) T F12 
  have G13 := ok__law_whole (P := l.prog) (w := w) (base := base) T F13 
  have G14 := ok__law_words (P := l.prog) (w := w) (base := base) T F14 
  have G16 := ok__law_text_of (P := l.prog) (w := w) (base := base) T F16 
  have G3 := ok_number_of (P := l.prog) (w := w) (base := base) T F3 G2 b2 k2
  have G9 := ok_report (P := l.prog) (w := w) (base := base) T F9 G5 b5 k5
  have G15 := ok__law_event_by (P := l.prog) (w := w) (base := base) T F15 G14 b14 k14
  have G17 := ok__law_spoilt (P := l.prog) (w := w) (base := base) T F17 G16 b16 k16
  have G18 := ok__law_same (P := l.prog) (w := w) (base := base) T F18 G13 b13 k13
  have G4 := ok_load_of (P := l.prog) (w := w) (base := base) T F4 G3 b3 k3 bd3_1 (.cons dr3_0 .nil)
  have G19 := ok__law_same_log (P := l.prog) (w := w) (base := base) T F19 G18 b18 k18
  have G22 := ok__law_log_by (P := l.prog) (w := w) (base := base) T F22 G15 b15 k15
  have G7 := ok_has_thing (P := l.prog) (w := w) (base := base) T F7 G4 b4 k4
  have G8 := ok_thing_of (P := l.prog) (w := w) (base := base) T F8 G4 b4 k4
  have G6 := ok_event_of (P := l.prog) (w := w) (base := base) T F6 G7 b7 k7 G3 b3 k3 G8 b8 k8 bd3_1 (.cons dr3_0 .nil)
  have G10 := ok_heard (P := l.prog) (w := w) (base := base) T F10 G1 b1 k1 G6 b6 k6 G11 b11 k11 G3 b3 k3 bd3_1 (.cons dr3_0 .nil)
  have G20 := ok__law_refused (P := l.prog) (w := w) (base := base) T F20 G10 b10 k10
  have G21 := ok__law_classes (P := l.prog) (w := w) (base := base) T F21 G10 b10 k10
  exact ok_law T F23 G12 b12 k12 G21 b21 k21 G22 b22 k22 G20 b20 k20 G19 b19 k19 G17 b17 k17 G16 b16 k16 G13 b13 k13 G10 b10 k10 G9 b9 k9
theorem walk {l : PySem.W.OpenLaw} {q : Program} {loose : List Str} {XP : (Str → Option Value) → Heap → Prop} {YP : World → Heap → Prop} {d : DefRec} {K : Params → PySem.W.Frag} (hn : l.most = some 63) (hdf : d.params.defaults = [])
    (hY : ∀ (w : World) (h : Heap), YP w h → (K w.params).In h)
    (F : ∀ (w : World) (mg : Str → Option Value) (fa : Addr) (h : Heap), (K w.params).In h → h.Ns mainGlobals mg → mg d.name = some (.ref fa) →
      ∃ fd : FuncData, (∀ (s : Shared) (u : Value), BindsTo s fd ⟨[u], []⟩ [("_law_script", u)]) ∧ ∀ base : Heap, (K w.params).In base → base.Ns mainGlobals mg → FnOk l.prog w (K w.params) mg base (G.CXe l.prog w) 8 fa fd ["_law_script"] (S_law (K w.params))) :
    PySem.W.WalkO q loose XP YP l.row.toRowW d [] (fun f vs => PySem.call f vs) :=
  G.walk_ofB (n := 63) (k := 8) (x := "_law_script") (CX := fun w => G.CXe l.prog w) (sp := fun w => S_law (K w.params)) hn (by decide) hdf ⟨rfl, by decide, by decide⟩ hY F (fun _ _ a ns hl _ hS hb => ⟨a, rfl, ns, hS, hl, hb, fun _ => rfl⟩) fun _ _ _ _ _ z => by
    obtain ⟨_, _, _, _, _, _, _, _, _, _, _, _, z⟩ := z
    exact z
end K39
open PySem PySem.W PyProof.Rows
set_option maxRecDepth 100000 in
set_option maxHeartbeats 0 in
theorem PySem.Challenge.cw_greywalk_k39_logs_heard_holds : PySem.Challenge.rw_greywalk_k39_logs_heard.Holds := by
  w_on; o_law; k_head; (case hw => w_witness2)
  k_fill
  refine K39.walk (l := PySem.Challenge.rw_greywalk_k39_logs_heard) rfl rfl (fun w h Y => PySem.W.kIn_of Y) ?F
  case F =>
    intro w mg fa h KX G hmg
    refine' K39.all_mk KX G hmg ?a_GreyError ?a_TextError ?a_BadRow ?a_Twice ?a_NoSlot ?a_REFUSALS ?a_WORDS ?a1 ?i1 ?l1 ?c1 ?k1 ?a2 ?l2 ?c2 ?k2 ?a3 ?l3 ?t3 ?dr3_0 ?c3 ?k3 ?a4 ?l4 ?c4 ?k4 ?a5 ?l5 ?c5 ?k5 ?a6 ?l6 ?c6 ?k6 ?a7 ?l7 ?c7 ?k7 ?a8 ?l8 ?c8 ?k8 ?a9 ?l9 ?c9 ?k9 ?a10 ?l10 ?c10 ?k10 ?a11 ?l11 ?c11 ?k11 ?a12 ?l12 ?c12 ?k12 ?a13 ?l13 ?c13 ?k13 ?a14 ?l14 ?c14 ?k14 ?a15 ?l15 ?c15 ?k15 ?a16 ?l16 ?c16 ?k16 ?a17 ?l17 ?c17 ?k17 ?a18 ?l18 ?c18 ?k18 ?a19 ?l19 ?c19 ?k19 ?a20 ?l20 ?c20 ?k20 ?a21 ?l21 ?c21 ?k21 ?a22 ?l22 ?c22 ?k22 ?a23 ?l23 ?c23 ?k23 ?xl_BadRow ?xi_BadRow ?xs_BadRow ?xr_BadRow ?xb1_GreyError ?xb2_GreyError ?xb3_GreyError ?e_BadRow_BadRow ?e_BadRow_TextError ?yga_BadRow ?yno_BadRow ?ycl_BadRow ?yso_BadRow ?ysb_BadRow ?yis_BadRow ?z_all ?z_bool ?z_enumerate ?z_int ?z_isinstance ?z_len ?z_list ?z_max ?z_min ?z_range ?z_str ?z_tuple ?z_zip ?gl_FIGURES ?gr_FIGURES ?gl_MOST_FIGURES ?gr_MOST_FIGURES ?gl_NOTHING ?gr_NOTHING ?gl_REFUSED ?gr_REFUSED ?lk_REFUSALS ?lk_WORDS ?hq1 ?hq2 ?hq3 ?hq4
    (case a_GreyError => k_is)
    (case a_TextError => k_is)
    (case a_BadRow => k_is)
    (case a_Twice => k_is)
    (case a_NoSlot => k_is)
    (case a_REFUSALS => k_is)
    (case a_WORDS => k_is)
    (case a1 => k_is)
    (case i1 => k_is)
    (case l1 => k_is)
    (case c1 => k_is)
    (case k1 => k_is)
    (case a2 => k_is)
    (case l2 => k_is)
    (case c2 => k_is)
    (case k2 => k_is)
    (case a3 => k_is)
    (case l3 => k_is)
    (case t3 => k_is)
    (case dr3_0 => first | exact rfl | exact ⟨_, rfl⟩)
    (case c3 => k_is)
    (case k3 => k_is)
    (case a4 => k_is)
    (case l4 => k_is)
    (case c4 => k_is)
    (case k4 => k_is)
    (case a5 => k_is)
    (case l5 => k_is)
    (case c5 => k_is)
    (case k5 => k_is)
    (case a6 => k_is)
    (case l6 => k_is)
    (case c6 => k_is)
    (case k6 => k_is)
    (case a7 => k_is)
    (case l7 => k_is)
    (case c7 => k_is)
    (case k7 => k_is)
    (case a8 => k_is)
    (case l8 => k_is)
    (case c8 => k_is)
    (case k8 => k_is)
    (case a9 => k_is)
    (case l9 => k_is)
    (case c9 => k_is)
    (case k9 => k_is)
    (case a10 => k_is)
    (case l10 => k_is)
    (case c10 => k_is)
    (case k10 => k_is)
    (case a11 => k_is)
    (case l11 => k_is)
    (case c11 => k_is)
    (case k11 => k_is)
    (case a12 => k_is)
    (case l12 => k_is)
    (case c12 => k_is)
    (case k12 => k_is)
    (case a13 => k_is)
    (case l13 => k_is)
    (case c13 => k_is)
    (case k13 => k_is)
    (case a14 => k_is)
    (case l14 => k_is)
    (case c14 => k_is)
    (case k14 => k_is)
    (case a15 => k_is)
    (case l15 => k_is)
    (case c15 => k_is)
    (case k15 => k_is)
    (case a16 => k_is)
    (case l16 => k_is)
    (case c16 => k_is)
    (case k16 => k_is)
    (case a17 => k_is)
    (case l17 => k_is)
    (case c17 => k_is)
    (case k17 => k_is)
    (case a18 => k_is)
    (case l18 => k_is)
    (case c18 => k_is)
    (case k18 => k_is)
    (case a19 => k_is)
    (case l19 => k_is)
    (case c19 => k_is)
    (case k19 => k_is)
    (case a20 => k_is)
    (case l20 => k_is)
    (case c20 => k_is)
    (case k20 => k_is)
    (case a21 => k_is)
    (case l21 => k_is)
    (case c21 => k_is)
    (case k21 => k_is)
    (case a22 => k_is)
    (case l22 => k_is)
    (case c22 => k_is)
    (case k22 => k_is)
    (case a23 => k_is)
    (case l23 => k_is)
    (case c23 => k_is)
    (case k23 => k_is)
    (case xl_BadRow => k_is)
    (case xi_BadRow => k_is)
    (case xs_BadRow => k_is)
    (case xr_BadRow => k_is)
    (case xb1_GreyError => k_is)
    (case xb2_GreyError => k_is)
    (case xb3_GreyError => k_is)
    (case e_BadRow_BadRow => kts_exm)
    (case e_BadRow_TextError => kts_exm)
    (case yga_BadRow => k_is)
    (case yno_BadRow => k_is)
    (case ycl_BadRow => k_is)
    (case yso_BadRow => k_is)
    (case ysb_BadRow => k_is)
    (case yis_BadRow => k_is)
    (case z_all => k_is)
    (case z_bool => k_is)
    (case z_enumerate => k_is)
    (case z_int => k_is)
    (case z_isinstance => k_is)
    (case z_len => k_is)
    (case z_list => k_is)
    (case z_max => k_is)
    (case z_min => k_is)
    (case z_range => k_is)
    (case z_str => k_is)
    (case z_tuple => k_is)
    (case z_zip => k_is)
    (case gl_FIGURES => k_is)
    (case gr_FIGURES => first | exact rfl | exact ⟨_, rfl⟩)
    (case gl_MOST_FIGURES => k_is)
    (case gr_MOST_FIGURES => first | exact rfl | exact ⟨_, rfl⟩)
    (case gl_NOTHING => k_is)
    (case gr_NOTHING => first | exact rfl | exact ⟨_, rfl⟩)
    (case gl_REFUSED => k_is)
    (case gr_REFUSED => first | exact rfl | exact ⟨_, rfl⟩)
    (case lk_REFUSALS => k_is)
    (case lk_WORDS => k_is)
    (case hq1 => kit_is)
    (case hq2 => kit_is)
    (case hq3 => kit_is)
    (case hq4 => kit_is)
#print axioms PySem.Challenge.cw_greywalk_k39_logs_heard_holds


