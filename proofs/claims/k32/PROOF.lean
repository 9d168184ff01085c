import PyProof.Rows.All
import Wide.All
import OpenK.AllK
import Wide.FinOn
import Lean
import PyProof.EqAt
import PyProof.EqKinds
import PyProof.TupleCall
import KE.KItemsList
import KE.KDictList
import PySem.Challenge.RW_greywalk_k32_steps_change_nothing
set_option Elab.async false
set_option linter.all false
set_option maxRecDepth 100000
abbrev aC:=PySem.W.Frag
theorem cj {α:Type}{l:List α}{i:Nat} (h:i < l.length):l[i]? =some l[i]:=List.getElem?_eq_getElem h
theorem fG {α:Type}{l:List α}{i:Nat}{a:α} (h:l[i]? =some a):∃ h:i < l.length,l[i]=a:=List.getElem?_eq_some_iff.mp h
theorem dz {α β:Type}{f:α→β}{l:List α}{i:Nat}:(l.map f)[i]? =l[i]?.map f:=List.getElem?_map
theorem bu {α β:Type}{l:List α} (f:α→β):(l.map f).length=l.length:=List.length_map f
namespace L2
open PySem PySem.Spec PyProof.Rows
abbrev Key:=Sum Int Str
def GP:Key→Value→Bool
 | .inl k,v=>Value.isInt k v
 | .inr x,v=>Value.isStrOf x v
def Zul (w:World):Key→Int
 | .inl k=>hashInt k
 | .inr x=>hashStr w x
theorem d9:∀ {k:Key}{v:Value},GP k v=true→(∃ i t,k=Sum.inl i∧v=Value.int i t)∨(∃ x t,k=Sum.inr x∧v=Value.str x t)
 | .inl i,v,h=>by
  obtain ⟨t,e⟩:=Value.isInt_shape (k:=i) (v:=v) h;exact .inl ⟨i,t,rfl,e⟩
 | .inr x,v,h=>by
  obtain ⟨t,e⟩:=Value.isStrOf_shape (x:=x) (v:=v) h;exact .inr ⟨x,t,rfl,e⟩
theorem Zhu (i:Int) (t:Tok):GP (.inl i) (.int i t)=true:=by simp [GP,Value.isInt]
theorem Zht (x:Str) (t:Tok):GP (.inr x) (.str x t)=true:=by simp [GP,Value.isStrOf]
theorem Zse (a b:Int):decide ((Sum.inl a:Key)=Sum.inl b)=(a == b):=by
 by_cases e:a=b
 ·subst e;simp
 ·have h:¬ (Sum.inl a:Key)=Sum.inl b:=fun q=>e (Sum.inl.inj q);rw [decide_eq_false h];exact (beq_eq_false_iff_ne.mpr e).symm
theorem Zsb (a b:Str):decide ((Sum.inr a:Key)=Sum.inr b)=decide (a=b):=by
 by_cases e:a=b
 ·subst e;simp
 ·have h:¬ (Sum.inr a:Key)=Sum.inr b:=fun q=>e (Sum.inr.inj q);rw [decide_eq_false h,decide_eq_false e]
theorem Zsd (a:Int) (b:Str):decide ((Sum.inl a:Key)=Sum.inr b)=false:=decide_eq_false (fun q=>nomatch q)
theorem Zsc (a:Str) (b:Int):decide ((Sum.inr a:Key)=Sum.inl b)=false:=decide_eq_false (fun q=>nomatch q)
def d7 (prog:Program) (w:World):PySem.KeyKind prog w Key where
  is:=GP
  hash:=Zul w
  inj:=fun v a b ha hb=>by
    rcases d9 ha with ⟨i,t,rfl,rfl⟩ | ⟨x,t,rfl,rfl⟩
    · rcases d9 hb with ⟨j,u,rfl,e⟩ | ⟨y,u,rfl,e⟩
      · injection e with e1 _;rw [e1]
      · exact nomatch e
    · rcases d9 hb with ⟨j,u,rfl,e⟩ | ⟨y,u,rfl,e⟩
      · exact nomatch e
      · injection e with e1 _;rw [e1]
  byValue:=fun k v h=>by
    rcases d9 h with ⟨i,t,rfl,rfl⟩ | ⟨x,t,rfl,rfl⟩<;>rfl
  pyHash:=fun hv h=>by
    rcases d9 hv with ⟨i,t,rfl,rfl⟩ | ⟨x,t,rfl,rfl⟩
    · exact wpAny_pyHash_int h
    · exact wpAny_pyHash_str h
  eqBool:=fun hu hv h=>by
    rcases d9 hu with ⟨i,t,rfl,rfl⟩ | ⟨x,t,rfl,rfl⟩
    · rcases d9 hv with ⟨j,u,rfl,rfl⟩ | ⟨y,u,rfl,rfl⟩
      · rw [Zse] at h;exact wpAny_eqBool_int h
      · rw [Zsd] at h;exact SeqAt.EqAt.int_str i t y u _ _ _ _ h
    · rcases d9 hv with ⟨j,u,rfl,rfl⟩ | ⟨y,u,rfl,rfl⟩
      · rw [Zsc] at h;exact SeqAt.EqAt.str_int x t j u _ _ _ _ h
      · rw [Zsb] at h;exact wpAny_eqBool_str h
  «strs»:=fun k x t v h=>by
    rcases d9 h with ⟨i,u,rfl,e⟩ | ⟨y,u,rfl,e⟩
    · exact nomatch e
    · injection e with e1 _
      subst e1;cases v<;>rfl
theorem Zab (prog:Program) (w:World) (i:Int) (t:Tok):(d7 prog w).is (.inl i) (.int i t)=true:=Zhu i t
theorem Zaa (prog:Program) (w:World) (x:Str) (t:Tok):(d7 prog w).is (.inr x) (.str x t)=true:=Zht x t
end L2
namespace L2
open PySem PySem.Spec PyProof.Rows
inductive V where
 | non | bl (b:Bool) | int (i:Int) | str (x:Str) | byt (b:Array UInt8) | flt (b:UInt64) | ref (a:Addr) | ty (n:String)
 deriving DecidableEq
def RelV:V→Value→Prop
 | .non,u=>u=Value.none
 | .bl b,u=>u=Value.bool b
 | .int i,u=>∃ t,u=Value.int i t
 | .str x,u=>∃ t,u=Value.str x t
 | .byt b,u=>∃ t,u=Value.bytes b t
 | .flt b,u=>∃ t,u=Value.float b t
 | .ref a,u=>u=Value.ref a
 | .ty n,u=>u=Value.type n
abbrev Vals:List V→List Value→Prop:=Paired RelV
theorem Vals.length {xs:List V}{us:List Value} (r:Vals xs us):xs.length=us.length:=Paired.length r
theorem Vals.get:∀ {xs:List V}{us:List Value}{i:Nat}{x:V},Vals xs us→xs[i]? =some x→∃ u,us[i]? =some u∧RelV x u
 | _,_,_,_,.nil,e=>by simp at e
 | _,_,0,_,.cons r _,e=>by simp at e;subst e;exact ⟨_,rfl,r⟩
 | _,_,i + 1,x,.cons _ t,e=>by
  obtain ⟨u,h1,h2⟩:=Vals.get (i:=i) (x:=x) t (by simpa using e);exact ⟨u,by simpa using h1,h2⟩
theorem Vals.set {x:V}{u:Value} (r:RelV x u):∀ {xs:List V}{us:List Value} (i:Nat),Vals xs us→Vals (xs.set i x) (us.set i u)
 | _,_,_,.nil=>.nil
 | _,_,0,.cons _ t=>.cons r t
 | _,_,i + 1,.cons q t=>.cons q (Vals.set r i t)
theorem Vals.append:∀ {xs ys:List V}{us ws:List Value},Vals xs us→Vals ys ws→Vals (xs ++ ys) (us ++ ws)
 | _,_,_,_,.nil,s=>s
 | _,_,_,_,.cons r t,s=>.cons r (Vals.append t s)
theorem Vals.take:∀ {xs:List V}{us:List Value} (n:Nat),Vals xs us→Vals (xs.take n) (us.take n)
 | _,_,0,_=>.nil
 | _,_,_ + 1,.nil=>.nil
 | _,_,n + 1,.cons r t=>.cons r (Vals.take n t)
theorem Vals.drop:∀ {xs:List V}{us:List Value} (n:Nat),Vals xs us→Vals (xs.drop n) (us.drop n)
 | _,_,0,r=>r
 | _,_,_ + 1,.nil=>.nil
 | _,_,n + 1,.cons _ t=>Vals.drop n t
def Di:Option V→Option Value→Prop
 | some v,some u=>RelV v u
 | none,none=>True
 | _,_=>False
def KV {κ:Type}:List (κ×V)→List (κ×Value)→Prop:=Paired fun (p:κ×V) (q:κ×Value)=>p.1=q.1∧RelV p.2 q.2
def kV:Key→V
 | .inl i=>.int i
 | .inr x=>.str x
inductive HO where
  | lst (xs:List V)
  | tup (xs:List V)
  | dK (kvs:List (Key×V)) | dT (kvs:List (List Key×V))
  | set (S:Int→Bool) (n:Nat)
  | ins (C dx:Addr) (fs:List (Str×V))
  | own (x:Addr)
  | xd (fs:List (Str×V))
  | met (f x:Addr)
  | rng (lo hi:Int)
  | xO (o:Obj) (u:HO)
  | NT (ps:Array Value)
  | ext (φ:Heap→Prop)
abbrev Hp:=Addr→Option HO
def upd (H:Hp) (a:Addr) (o:HO):Hp:=fun b=>if b=a then some o else H b
theorem aq {H:Hp}{a:Addr}{o:HO}:upd H a o a=some o:=by unfold upd;rw [if_pos rfl]
theorem aB {H:Hp}{a b:Addr}{o:HO} (h:b≠a):upd H a o b=H b:=by unfold upd;rw [if_neg h]
theorem dY {H:Hp}{a:Addr}{o u:HO}:upd (upd H a o) a u=upd H a u:=by
 funext b;unfold upd;split<;>rfl
theorem pI {H:Hp}{a b:Addr}{o u:HO} (h:H a=some o) (h':H b=some u) (d:o≠u):a≠b:=by
 intro e;subst e;rw [h] at h';exact d (Option.some.inj h')
theorem aD {H:Hp}{a b:Addr}{o:HO} (h:H a=some o) (h':H b=none):a≠b:=by
 intro e;subst e;rw [h] at h';cases h'
section
variable (P:Program) (w:World)
def jO (H:Hp) (h:Heap) (a:Addr):HO→Prop
 | .lst xs=>xs.length≤sizeLine∧∃ (its:List Value) (n:Nat),Vals xs its∧h.get? a=some { cls:=.type "list",data:=.seq its.toArray n }
 | .tup xs=>xs.length≤sizeLine∧∃ its:List Value,Vals xs its∧IsTup h a its.toArray
 | .dK kvs=>kvs.length≤sizeLine∧(a == sysModules)=false∧∃ vs,KV kvs vs∧h.DictOf (d7 P w) a vs
 | .dT kvs=>kvs.length≤sizeLine∧(a == sysModules)=false∧∃ xs:List (List Key×Addr×Value),
   Paired (fun (p:List Key×V) (q:List Key×Addr×Value)=>p.1=q.1∧H q.2.1=some (.tup (p.1.map kV))∧RelV p.2 q.2.2) kvs xs∧
   ∃ o es ep,h.get? a=some o∧o.ExactDict∧o.data=.dict es ep∧es.toList=xs.map (entryOfKey (tupleKind (d7 P w)))∧(xs.map (·.1)).Nodup
 | .set S n=>h.SetOf (intKind P w) a S n
 | .ins C dx fs=>H dx=some (.own a)∧fs.length≤1000∧dx≠a∧h.get? a=some (PySem.W.instObj C dx)∧
   ∃ mA,h.Ns1 dx mA∧(∀ f,Di (fs.lookup f) (mA f))∧PySem.Within mA (fs.map (·.1))
 | .own _=>∃ o,h.get? a=some o
 | .xd fs=>∃ mA,h.Ns1 a mA∧∀ f,Di (fs.lookup f) (mA f)
 | .rng lo hi=>∃ t u v,h.get? a=some { cls:=.type "range",data:=.fields #[.int lo t,.int hi u,.int 1 v] }
 | .xO o u=>h.get? a=some o∧jO H h a u
 | .NT ps=>h.get? a=some { cls:=.none,data:=.fields ps }
 | .met f x=>h.get? a=some (PySem.W.methodObj (.ref f) (.ref x))
 | .ext φ=>φ h∧(∃ o,h.get? a=some o)∧∀ h1 h2:Heap,φ h1→(∀ o,h1.get? a=some o→h2.get? a=some o)→φ h2
def zM (H:Hp) (h:Heap):Prop:=∀ a o,H a=some o→jO P w H h a o
end
section
variable {P:Program}{w:World}{H H':Hp}{h h':Heap}{a:Addr}{o:HO}
theorem jO.lt (x:jO P w H h a o):a < h.objs.size:=by
 cases o with
 | lst xs=>obtain ⟨_,_,_,_,e⟩:=x;exact Heap.lt_size e
 | tup xs=>obtain ⟨_,_,_,p⟩:=x;exact p.lt
 | dK kvs=>obtain ⟨_,_,_,_,o,_,_,e,_⟩:=x;exact Heap.lt_size e
 | dT kvs=>obtain ⟨_,_,_,_,o,_,_,e,_⟩:=x;exact Heap.lt_size e
 | set S n=>obtain ⟨o,_,_,_,e,_⟩:=x;exact Heap.lt_size e
 | ins C dx fs=>obtain ⟨_,_,_,e,_⟩:=x;exact Heap.lt_size e
 | own y=>obtain ⟨_,e⟩:=x;exact Heap.lt_size e
 | xd fs=>obtain ⟨_,⟨_,_,_,e,_⟩,_⟩:=x;exact Heap.lt_size e
 | rng lo hi=>obtain ⟨_,_,_,e⟩:=x;exact Heap.lt_size e
 | xO ob u=>obtain ⟨e,_⟩:=x;exact Heap.lt_size e
 | NT ps=>exact Heap.lt_size (show h.get? a=some _ from x)
 | met f y=>exact Heap.lt_size (show h.get? a=some _ from x)
 | ext φ=>obtain ⟨_,⟨_,e⟩,_⟩:=x;exact Heap.lt_size e
theorem Paired.Zs6 {α β:Type}{F G:α→β→Prop}:∀ {l₁:List α}{l₂:List β},Paired F l₁ l₂→(∀ a b,F a b→G a b)→Paired G l₁ l₂
 | _,_,.nil,_=>.nil
 | _,_,.cons r t,f=>.cons (f _ _ r) (Paired.Zs6 t f)
theorem jO.stay (x:jO P w H h a o) (k:∀ b u,(b=a∨H b=some (.own a))→h.get? b=some u→h'.get? b=some u)
  (ho:∀ b,H b=some (.own a)→H' b=some (.own a)) (ht:∀ b xs,H b=some (.tup xs)→H' b=some (.tup xs)):jO P w H' h' a o:=by
 induction o with
 | lst xs=>obtain ⟨z,its,n,r,e⟩:=x;exact ⟨z,its,n,r,k _ _ (.inl rfl) e⟩
 | tup xs=>obtain ⟨z,its,r,ob,e,c⟩:=x;exact ⟨z,its,r,ob,k _ _ (.inl rfl) e,c⟩
 | dK kvs=>obtain ⟨z,y,vs,r,ob,es,ep,e,c⟩:=x;exact ⟨z,y,vs,r,ob,es,ep,k _ _ (.inl rfl) e,c⟩
 | dT kvs=>
  obtain ⟨z,y,xs,r,ob,es,ep,e,c⟩:=x;exact ⟨z,y,xs,Paired.Zs6 r fun p q z=>⟨z.1,ht _ _ z.2.1,z.2.2⟩,ob,es,ep,k _ _ (.inl rfl) e,c⟩
 | set S n=>obtain ⟨ob,es,ep,t,e,c⟩:=x;exact ⟨ob,es,ep,t,k _ _ (.inl rfl) e,c⟩
 | ins C dx fs=>
  obtain ⟨d,z,ne,e,mA,⟨od,es,ep,e2,c⟩,r⟩:=x;exact ⟨ho _ d,z,ne,k _ _ (.inl rfl) e,mA,⟨od,es,ep,k _ _ (.inr d) e2,c⟩,r⟩
 | own y=>obtain ⟨ob,e⟩:=x;exact ⟨ob,k _ _ (.inl rfl) e⟩
 | xd fs=>obtain ⟨mA,⟨od,es,ep,e,c⟩,r⟩:=x;exact ⟨mA,⟨od,es,ep,k _ _ (.inl rfl) e,c⟩,r⟩
 | rng lo hi=>obtain ⟨t,u,v,e⟩:=x;exact ⟨t,u,v,k _ _ (.inl rfl) e⟩
 | xO ob u ih=>obtain ⟨e,q⟩:=x;exact ⟨k _ _ (.inl rfl) e,ih q⟩
 | NT ps=>
  have e:h.get? a=some { cls:=.none,data:=.fields ps }:=x;show h'.get? a=some { cls:=.none,data:=.fields ps };exact k a _ (.inl rfl) e
 | met f y=>
  have e:h.get? a=some (PySem.W.methodObj (.ref f) (.ref y)):=x;show h'.get? a=some (PySem.W.methodObj (.ref f) (.ref y));exact k a _ (.inl rfl) e
 | ext φ=>obtain ⟨p,⟨o,e⟩,st⟩:=x;exact ⟨st _ _ p fun o q=>k _ _ (.inl rfl) q,⟨o,k _ _ (.inl rfl) e⟩,st⟩
theorem zM.lt (x:zM P w H h) (e:H a=some o):a < h.objs.size:=(x a o e).lt
theorem zM.fresh (x:zM P w H h) (e:h.objs.size≤a):H a=none:=by
 cases q:H a with
 | none=>rfl
 | some u=>exact absurd (Nat.lt_of_lt_of_le (x.lt q) e) (Nat.lt_irrefl _)
theorem zM.kept (x:zM P w H h) (k:∀ b u,h.get? b=some u→h'.get? b=some u):zM P w H h':=fun a o e=>
 (x a o e).stay (fun b u _ q=>k b u q) (fun _ q=>q) fun _ _ q=>q
theorem zM.laid (x:zM P w H h) (k:∀ b u,h.get? b=some u→h'.get? b=some u) (hp:h.objs.size≤a) (new:jO P w (upd H a o) h' a o):zM P w (upd H a o) h':=fun b u e=>by
 have hn:=x.fresh hp
 by_cases hb:b=a
 ·subst hb;rw [aq] at e;cases e;exact new
 ·rw [aB hb] at e;exact (x b u e).stay (fun c v _ q=>k c v q) (fun c q=>by rw [aB (aD q hn)];exact q) fun c xs q=>by rw [aB (aD q hn)];exact q
end
def Rd (H:Hp) (a:Addr) (u:HO):Prop:=H a=some u∨∃ o,H a=some (.xO o u)
theorem Rd.ok {P:Program}{w:World}{H:Hp}{h:Heap}{a:Addr}{u:HO} (r:Rd H a u) (x:zM P w H h):jO P w H h a u:=by
 rcases r with r | ⟨o,r⟩
 ·exact x a u r
 ·obtain ⟨_,q⟩:=x a _ r;exact q
def Mut:Option HO→Prop
 | some (.lst _)=>True
 | some (.dK _)=>True
 | some (.dT _)=>True
 | some (.set _ _)=>True
 | some (.ins _ _ _)=>True
 | some (.ext _)=>True
 | _=>False
section
variable {P:Program}{w:World}{H:Hp}{h h':Heap}{x e:Addr}{o':HO}
theorem zM.write (ok:zM P w H h) (mu:Mut (H x)) (he:e=x∨H e=some (.own x)) (k:∀ b u,b≠e→h.get? b=some u→h'.get? b=some u) (heo:∃ u,h'.get? e=some u)
  (new:jO P w (upd H x o') h' x o'):zM P w (upd H x o') h':=fun b u q=>by
 have Zug:∀ c y,H c=some (.own y)→c≠x:=fun c y r z=>by subst z;rw [r] at mu;exact mu
 have Zvy:∀ c xs,H c=some (.tup xs)→c≠x:=fun c xs r z=>by subst z;rw [r] at mu;exact mu
 by_cases hb:b=x
 ·subst hb;rw [aq] at q;cases q;exact new
 ·rw [aB hb] at q
  by_cases hbe:b=e
  ·have q':H b=some (.own x):=by
    rcases he with z | z
    ·exact absurd (hbe.trans z) hb
    ·rw [hbe];exact z
   rw [q] at q';cases q';obtain ⟨v,hv⟩:=heo;exact ⟨v,by rw [hbe];exact hv⟩
  ·refine (ok b u q).stay (fun c v hc r=>k c v ?_ r) (fun c r=>by rw [aB (Zug c b r)];exact r) fun c xs r=>by rw [aB (Zvy c xs r)];exact r
   rcases hc with rfl | hc
   ·exact hbe
   ·rintro rfl;rcases he with z | z
    ·exact Zug c b hc z
    ·rw [hc] at z;cases z;exact hb rfl
end
structure Un (fs ex:List Addr) (H H':Hp) (h h':Heap):Prop where
 keep:∀ b o,h.get? b=some o→H b=none→b∉fs→b∉ex→h'.get? b=some o
 slot:∀ b o,h.get? b=some o→H b=none→b∈fs→b∉ex→∃ sl,h'.get? b=some { o with slots:=sl }
 free:∀ b o,h.get? b=some o→H b=none→b∉ex→H' b=none
 there:∀ b o,h.get? b=some o→b∉ex→∃ o',h'.get? b=some o'
 tups:∀ b xs,H b=some (.tup xs)→H' b=some (.tup xs)
 BL:∀ b o u,H b=some (.xO o u)→H' b=some (.xO o u)
 CQ:∀ b ps,H b=some (.NT ps)→∃ more,H' b=some (.NT (ps ++ more))
section
variable {fs fs' ex ex':List Addr}{H H1 H2:Hp}{h h1 h2 h':Heap}{a x e:Addr}{o:HO}
theorem Un.any (u:Un fs ex H H1 h h1) {b:Addr}{ob:Obj} (q:h.get? b=some ob) (n:H b=none) (hx:b∉ex):∃ sl,h1.get? b=some { ob with slots:=sl }:=by
 by_cases hb:b∈fs
 ·exact u.slot b ob q n hb hx
 ·exact ⟨ob.slots,u.keep b ob q n hb hx⟩
theorem Un.kept (k:∀ b u,h.get? b=some u→h'.get? b=some u):Un fs ex H H h h':=
 ⟨fun b ob q _ _ _=>k b ob q,fun b ob q _ _ _=>⟨ob.slots,k b ob q⟩,fun _ _ _ n _=>n,fun b ob q _=>⟨ob,k b ob q⟩,fun _ _ q=>q,fun _ _ _ q=>q,fun _ ps q=>⟨#[],by rw [q];simp⟩⟩
theorem Un.refl:Un fs ex H H h h:=Un.kept fun _ _ q=>q
theorem Un.laid (k:∀ b u,h.get? b=some u→h'.get? b=some u) (hp:h.objs.size≤a) (hn:H a=none):Un fs ex H (upd H a o) h h' where
 keep:=fun b u q _ _ _=>k b u q
 slot:=fun b u q _ _ _=>⟨u.slots,k b u q⟩
 free:=fun b u q n _=>by rw [aB (Nat.ne_of_lt (Nat.lt_of_lt_of_le (Heap.lt_size q) hp))];exact n
 there:=fun b u q _=>⟨u,k b u q⟩
 tups:=fun b xs q=>by rw [aB (aD q hn)];exact q
 BL:=fun b u xs q=>by rw [aB (aD q hn)];exact q
 CQ:=fun b ps q=>⟨#[],by rw [aB (aD q hn),q];simp⟩
theorem Un.write (mu:Mut (H x)) (he:e=x∨H e=some (.own x)) (k:∀ b u,b≠e→h.get? b=some u→h'.get? b=some u) (heo:∃ u,h'.get? e=some u):Un fs ex H (upd H x o) h h':=by
 have hx:∀ b,H b=none→b≠x:=fun b n z=>by subst z;rw [n] at mu;exact mu
 have hb:∀ b,H b=none→b≠e:=fun b n z=>by
  subst z;rcases he with r | r
  ·exact hx b n r
  ·rw [n] at r;cases r
 have hm:∀ b u,H b=some u→¬ Mut (some u)→b≠x:=fun b u q nm z=>by subst z;rw [q] at mu;exact nm mu
 refine ⟨fun b u q n _ _=>k b u (hb b n) q,fun b u q n _ _=>⟨u.slots,k b u (hb b n) q⟩,fun b u q n _=>by rw [aB (hx b n)];exact n,fun b u q _=>?_,
  fun b xs q=>by rw [aB (hm b _ q fun z=>z)];exact q,fun b u xs q=>by rw [aB (hm b _ q fun z=>z)];exact q,fun b ps q=>⟨#[],by rw [aB (hm b _ q fun z=>z),q];simp⟩⟩
 by_cases hbe:b=e
 ·subst hbe;exact heo
 ·exact ⟨u,k b u hbe q⟩
end
def trk (h:Heap) (H:Hp):List Addr:=(List.range h.objs.size).filter fun a=>(H a).isSome
def X6 (h:Heap) (H:Hp):Heap:=PySem.W.hideAll h (trk h H)
theorem Zid (h:Heap) (H:Hp):(X6 h H).objs.size=h.objs.size:=PySem.W.hideAll_size _ _
theorem Zm4 {h:Heap}{H:Hp}{b:Addr}{o:Obj} (e:h.get? b=some o) (n:H b=none):(X6 h H).get? b=some o:=
 PySem.W.hideAll_get _ e fun hm=>by
  have q:(H b).isSome=true:=(List.mem_filter.mp hm).2;rw [n] at q;simp at q
theorem Zot {h:Heap}{H:Hp}{b:Addr}{o:Obj} (e:(X6 h H).get? b=some o):h.get? b=some o∧H b=none:=by
 have e':h.get? b=some o:=PySem.W.of_hideAll (trk h H) e;refine ⟨e',?_⟩;cases q:H b with
 | none=>rfl
 | some x=>
  have hm:b∈trk h H:=List.mem_filter.mpr ⟨List.mem_range.mpr (Heap.lt_size e'),by simp [q]⟩;have z:(X6 h H).get? b=none:=PySem.W.hideAll_none (trk h H) hm;rw [z] at e;cases e
def Zqd (g h:Heap) (L:Addr):List (Addr×Obj):=(List.range h.objs.size).filterMap fun a=>if a=L∨(g.get? a).isSome=true then none else (h.get? a).map fun o=>(a,o)
def rest (g h:Heap) (L d:Addr):List (Addr×Obj):=(Zqd g h L).filter fun p=>decide (p.1≠d)
end L2
namespace L2
open PySem PySem.Spec PyProof.Rows
structure Mod (K:aC) (mg:Str→Option Value) (base:Heap):Prop where
 kin:K.In base
 glob:base.Ns mainGlobals mg
 blt:∃ mb,base.Ns builtinsNs mb∧∀ x:Str,x≠"__name__"→mb x=bootBuiltins x
 nolimit:base.NoLimit
structure Cx where
 prog:Program
 w:World
 K:aC
 mg:Str→Option Value
 base:Heap
 A:Around
 N:List Str
 s₀:Shared
 H₀:Hp
 env:Env
 outer:List Env
 stack:List Env
 ex:List Addr
 fn:Str→Bool
 calm:Bool
 pn:List (Addr×Obj)
 xe:Value→Shared→Prop
def frs (l:List Env):List Addr:=l.filterMap (·.frame)
abbrev Cx.fs (X:Cx):List Addr:=frs X.outer
def Vis (sc:Scope) (x:Str):Prop:=sc.names.lookup x=some .local∨sc.names.lookup x=some .cell∨sc.names.lookup x=some .free
def Loc (sc:Scope) (x:Str):Prop:=sc.names.lookup x=some .local∨sc.names.lookup x=some .cell
def Look (env:Env) (h:Heap) (m:Str→Option Value) (x:Str) (u:Value):Prop:=
 (env.kindOf x=some .local∧m x=some u)∨((env.kindOf x=some .cell∨env.kindOf x=some .free)∧∃ c,env.cells.lookup x=some c∧h.IsCell c (some u))
structure Cx.Ok (X:Cx):Prop where
 mod:Mod X.K X.mg X.base
 kind:X.env.scope.kind=.function
 glob:X.env.globals=mainGlobals
 blt:X.env.builtins=builtinsNs
 above:X.s₀.heap.objs.size≤X.env.locals
 inj:∀ x y c,X.env.cells.lookup x=some c→X.env.cells.lookup y=some c→x=y
 has:∀ x,(X.env.kindOf x=some .cell∨X.env.kindOf x=some .free)→∃ c,X.env.cells.lookup x=some c
 cab:∀ x c,X.fn x=true→X.env.cells.lookup x=some c→X.s₀.heap.objs.size≤c
 hd:X.calm=true→X.A.handled=none
 frames:X.A.frames=some X.stack
 stk:X.stack=X.outer∨(X.stack=X.env :: X.outer∧X.env.frame=some X.env.locals)
 exf:∀ b∈X.ex,b≠X.env.locals∧∀ x c,X.env.cells.lookup x=some c→c≠b
 bs:∀ b o,X.base.get? b=some o→X.s₀.heap.get? b=some o∧X.H₀ b=none
 Zj:X.base.objs.size≤X.s₀.heap.objs.size
 Mv:∀ b o,X.base.get? b=some o→b∉X.ex
 Yw:∀ b∈X.ex,b∉X.fs
 wL:X.s₀.heap.FunFrames X.base X.outer
 frf:∀ b∈X.fs,X.H₀ b=none
structure Inv (X:Cx) (pins:List (Addr×Obj)) (σ:List (Option V)) (H:Hp) (s:Shared):Prop where
 ok:X.Ok
 os:s.os=X.s₀.os
 bare:AllBare s.gens
 base:Un X.fs X.ex X.H₀ H X.s₀.heap s.heap
 loc:∃ m,s.heap.Ns X.env.locals m∧∀ (i:Nat) (x:Str) (v:V),X.N[i]? =some x→σ[i]? =some (some v)→Vis X.env.scope x→∃ u,RelV v u∧Look X.env s.heap m x u
 cell:∀ x c,X.env.cells.lookup x=some c→∃ v,s.heap.IsCell c v
 free:H X.env.locals=none
 pO:∀ x c,X.env.cells.lookup x=some c→H c=none
 pin:∀ p∈X.pn ++ pins,s.heap.get? p.1=some p.2∧H p.1=none∧p.1≠X.env.locals∧p.1∉X.fs∧∀ v,p.2.data≠.cell v
 hok:zM X.prog X.w H s.heap
 len:σ.length=X.N.length
section
variable {X:Cx}{pins:List (Addr×Obj)}{σ:List (Option V)}{H H':Hp}{s:Shared}{h':Heap}
theorem Cx.Ok.Zw0 (ok:X.Ok) {b:Addr}{o:Obj} (e:X.base.get? b=some o):b∉X.fs:=fun hb=>by
 have:=(ok.wL.mem hb).1;rw [e] at this;cases this
theorem Inv.bs (I:Inv X pins σ H s):∀ b o,X.base.get? b=some o→s.heap.get? b=some o∧H b=none:=fun b o e=>
 ⟨I.base.keep b o (I.ok.bs b o e).1 (I.ok.bs b o e).2 (I.ok.Zw0 e) (I.ok.Mv b o e),I.base.free b o (I.ok.bs b o e).1 (I.ok.bs b o e).2 (I.ok.Mv b o e)⟩
theorem Inv.bk (I:Inv X pins σ H s):∀ b o,X.base.get? b=some o→s.heap.get? b=some o:=fun b o e=>(I.bs b o e).1
theorem Inv.mod (I:Inv X pins σ H s):Mod X.K X.mg X.base:=I.ok.mod
theorem Inv.By (I:Inv X pins σ H s):X.K.In s.heap:=I.ok.mod.kin.keeps I.bk
theorem Inv.lt (I:Inv X pins σ H s):X.env.locals < s.heap.objs.size:=let ⟨_,hn,_⟩:=I.loc;hn.lt
theorem Inv.sz (I:Inv X pins σ H s):X.s₀.heap.objs.size≤s.heap.objs.size:=Nat.le_trans I.ok.above (Nat.le_of_lt I.lt)
theorem Inv.Zvz (I:Inv X pins σ H s) {a:Addr} (h:s.heap.objs.size≤a):a∉X.fs:=fun hb=>by
 obtain ⟨_,o,ho,_⟩:=I.ok.wL.mem hb;exact absurd (Nat.lt_of_lt_of_le (Heap.lt_size ho) (Nat.le_trans I.sz h)) (Nat.lt_irrefl _)
theorem Inv.cne (I:Inv X pins σ H s):∀ x c,X.env.cells.lookup x=some c→c≠X.env.locals:=fun x c e z=>by
 obtain ⟨v,o,ho,hd⟩:=I.cell x c e;obtain ⟨m,⟨o',es,ep,ho',hd',_⟩,_⟩:=I.loc;rw [z,ho'] at ho;cases ho;rw [hd'] at hd;cases hd
theorem Inv.wL (I:Inv X pins σ H s):s.heap.FunFrames X.base X.outer:=by
 have all:∀ (l:List Env),(∀ b∈frs l,b∈X.fs)→X.s₀.heap.FunFrames X.base l→s.heap.FunFrames X.base l:=by
  intro l
  induction l with
  | nil=>intro _ _;trivial
  | cons env r ih=>
   intro hs hl;obtain ⟨hk,⟨L,o,hf,hn,ho,hd⟩,hr⟩:=hl;have hL:L∈X.fs:=hs L (by unfold frs;rw [List.filterMap_cons,hf];exact List.mem_cons_self);obtain ⟨sl,e⟩:=I.base.slot L o ho (I.ok.frf L hL) hL fun z=>I.ok.Yw L z hL;exact ⟨hk,⟨L,_,hf,hn,e,hd⟩,ih (fun b hb=>hs b (by unfold frs;rw [List.filterMap_cons,hf];exact List.mem_cons_of_mem _ hb)) hr⟩
 exact all X.outer (fun _ hb=>hb) I.ok.wL
theorem Inv.stack (I:Inv X pins σ H s):s.heap.FunFrames X.base X.stack:=by
 rcases I.ok.stk with e | ⟨e,hf⟩
 ·rw [e];exact I.wL
 ·rw [e];obtain ⟨m,hn,_⟩:=I.loc;refine .cons (by rw [I.ok.kind];decide) hf hn ?_ I.wL;exact Heap.get?_none_of_le (Nat.le_trans I.ok.Zj I.ok.above)
theorem Inv.vI (I:Inv X pins σ H s):∀ b∈frs X.stack,b∈X.env.locals :: X.fs:=fun b hb=>by
 rcases I.ok.stk with e | ⟨e,hf⟩
 ·rw [e] at hb;exact List.mem_cons_of_mem _ hb
 ·rw [e] at hb;unfold frs at hb;rw [List.filterMap_cons,hf] at hb;exact hb
theorem Inv.Fw (I:Inv X pins σ H s):∀ b∈frs X.stack,H b=none:=fun b hb=>by
 rcases List.mem_cons.mp (I.vI b hb) with e | hb
 ·rw [e];exact I.free
 ·obtain ⟨_,o,ho,_⟩:=I.ok.wL.mem hb;exact I.base.free b o ho (I.ok.frf b hb) fun z=>I.ok.Yw b z hb
theorem Inv.step {g':Array GenState}{t':Nat}{d':Drawn}{ch:List Addr} (I:Inv X pins σ H s)
  (hch:∀ b∈ch,(b∈X.ex∨X.s₀.heap.objs.size≤b)∧b≠X.env.locals∧(∀ x c,X.env.cells.lookup x=some c→c≠b)∧∀ p∈X.pn ++ pins,p.1≠b)
  (keep:∀ b o,b≠X.env.locals→b∉X.fs→b∉ch→s.heap.get? b=some o→H b=none→h'.get? b=some o)
  (slot:∀ b o,b≠X.env.locals→b∈X.fs→b∉ch→s.heap.get? b=some o→H b=none→∃ sl,h'.get? b=some { o with slots:=sl }) (free:∀ b o,b∉ch→s.heap.get? b=some o→H b=none→H' b=none)
  (there:∀ b o,b∉ch→s.heap.get? b=some o→∃ o',h'.get? b=some o')
  (tups:∀ b xs,H b=some (.tup xs)→H' b=some (.tup xs)) (BL:∀ b o u,H b=some (.xO o u)→H' b=some (.xO o u)) (CQ:∀ b ps,H b=some (.NT ps)→∃ more,H' b=some (.NT (ps ++ more)))
  (ns:∀ m,s.heap.Ns X.env.locals m→h'.Ns X.env.locals m) (hok:zM X.prog X.w H' h') (hg:AllBare g'):
  Inv X pins σ H' { s with heap:=h',gens:=g',drawn:=d',toks:=t' }:=by
 have neL:∀ b o,X.s₀.heap.get? b=some o→b≠X.env.locals:=fun b o e=>Nat.ne_of_lt (Nat.lt_of_lt_of_le (Heap.lt_size e) I.ok.above);have neC:∀ b o,X.s₀.heap.get? b=some o→b∉X.ex→b∉ch:=fun b o e hx hb=>by
  rcases (hch b hb).1 with z | z
  ·exact hx z
  ·exact absurd (Nat.lt_of_lt_of_le (Heap.lt_size e) z) (Nat.lt_irrefl _)
 have cellK:∀ x c,X.env.cells.lookup x=some c→∀ v,s.heap.IsCell c v→h'.IsCell c v:=fun x c e v ⟨o,ho,hd⟩=>by
  have nch:c∉ch:=fun z=>(hch c z).2.2.1 x c e rfl
  by_cases hc:c∈X.fs
  ·obtain ⟨sl,q⟩:=slot c o (I.cne x c e) hc nch ho (I.pO x c e);exact ⟨_,q,hd⟩
  ·exact ⟨o,keep c o (I.cne x c e) hc nch ho (I.pO x c e),hd⟩
 refine ⟨I.ok,I.os,hg,⟨fun b o e n hb hx=>?_,fun b o e n hb hx=>?_,fun b o e n hx=>?_,fun b o e hx=>?_,fun b xs e=>tups b xs (I.base.tups b xs e),fun b o xs e=>BL b o xs (I.base.BL b o xs e),fun b ps e=>?_⟩,?_,fun x c e=>?_,?_,fun x c e=>?_,fun p hp=>?_,hok,I.len⟩
 ·exact keep b o (neL b o e) hb (neC b o e hx) (I.base.keep b o e n hb hx) (I.base.free b o e n hx)
 ·obtain ⟨sl,e1⟩:=I.base.slot b o e n hb hx;obtain ⟨sl',e2⟩:=slot b _ (neL b o e) hb (neC b o e hx) e1 (I.base.free b o e n hx);exact ⟨sl',e2⟩
 ·obtain ⟨o',e1⟩:=I.base.there b o e hx;exact free b o' (neC b o e hx) e1 (I.base.free b o e n hx)
 ·obtain ⟨o',e1⟩:=I.base.there b o e hx;exact there b o' (neC b o e hx) e1
 ·obtain ⟨m1,e1⟩:=I.base.CQ b ps e;obtain ⟨m2,e2⟩:=CQ b _ e1;exact ⟨m1 ++ m2,by rw [e2,Array.append_assoc]⟩
 ·obtain ⟨m,hn,hl⟩:=I.loc;refine ⟨m,ns m hn,fun i x v e1 e2 e3=>?_⟩;obtain ⟨u,r,l⟩:=hl i x v e1 e2 e3;refine ⟨u,r,?_⟩;rcases l with l | ⟨k,c,e,z⟩
  ·exact .inl l
  ·exact .inr ⟨k,c,e,cellK x c e _ z⟩
 ·obtain ⟨v,z⟩:=I.cell x c e;exact ⟨v,cellK x c e v z⟩
 ·obtain ⟨m,⟨o,_,_,ho,_⟩,_⟩:=I.loc;exact free _ o (fun z=>(hch _ z).2.1 rfl) ho I.free
 ·obtain ⟨v,o,ho,hd⟩:=I.cell x c e;exact free c o (fun z=>(hch c z).2.2.1 x c e rfl) ho (I.pO x c e)
 ·obtain ⟨e,n,ne,nf,d⟩:=I.pin p hp;have nch:p.1∉ch:=fun z=>(hch p.1 z).2.2.2 p hp rfl;exact ⟨keep p.1 p.2 ne nf nch e n,free p.1 p.2 nch e n,ne,nf,d⟩
theorem Inv.un {t':Nat} (I:Inv X pins σ H s) (u:Un X.fs [] H H' s.heap h') (hok:zM X.prog X.w H' h'):Inv X pins σ H' { s with heap:=h',toks:=t' }:=by
 obtain ⟨m,⟨o,es,ep,ho,r⟩,_⟩:=id I.loc;obtain ⟨sl,hL⟩:=u.any ho I.free (by simp);exact I.step (g':=s.gens) (d':=s.drawn) (ch:=[]) (fun _ z=>nomatch z) (fun b o _ hb _ e n=>u.keep b o e n hb (by simp)) (fun b o _ hb _ e n=>u.slot b o e n hb (by simp)) (fun b o _ e n=>u.free b o e n (by simp)) (fun b o _ e=>u.there b o e (by simp)) u.tups u.BL u.CQ (fun m' hm=>by
  obtain ⟨o',es',ep',ho',r'⟩:=hm;rw [ho] at ho';cases ho';exact ⟨_,es',ep',hL,r'⟩) hok I.bare
theorem Inv.call {g':Array GenState}{t':Nat}{d':Drawn}{ch:List Addr} (I:Inv X pins σ H s) (u:Un (frs X.stack) ch H H' s.heap h') (hok:zM X.prog X.w H' h') (hg:AllBare g')
  (hch:∀ b∈ch,(b∈X.ex∨X.s₀.heap.objs.size≤b)∧b≠X.env.locals∧(∀ x c,X.env.cells.lookup x=some c→c≠b)∧∀ p∈X.pn ++ pins,p.1≠b):
  Inv X pins σ H' { s with heap:=h',gens:=g',drawn:=d',toks:=t' }:=by
 obtain ⟨m,⟨o,es,ep,ho,r⟩,_⟩:=id I.loc;obtain ⟨sl,hL⟩:=u.any ho I.free fun z=>(hch _ z).2.1 rfl;exact I.step (ch:=ch) hch (fun b o hL hb hc e n=>u.keep b o e n (fun z=>(List.mem_cons.mp (I.vI b z)).elim hL hb) hc) (fun b o _ _ hc e n=>u.any e n hc) (fun b o hc e n=>u.free b o e n hc) (fun b o hc e=>u.there b o e hc) u.tups u.BL u.CQ (fun m' hm=>by
  obtain ⟨o',es',ep',ho',r'⟩:=hm;rw [ho] at ho';cases ho';exact ⟨_,es',ep',hL,r'⟩) hok hg
theorem Inv.turned {t':Nat}{it:Addr} (I:Inv X pins σ H s) (k:∀ b o,b≠it→s.heap.get? b=some o→h'.get? b=some o) (hn:H it=none) (hL:it≠X.env.locals)
  (h1:it∈X.ex∨X.s₀.heap.objs.size≤it) (h2:∀ x c,X.env.cells.lookup x=some c→c≠it) (h3:∀ p∈X.pn ++ pins,p.1≠it):Inv X pins σ H { s with heap:=h',toks:=t' }:=by
 have nit:∀ b u,H b=some u→b≠it:=fun b u e z=>by rw [z,hn] at e;cases e
 refine I.step (g':=s.gens) (d':=s.drawn) (ch:=[it]) (fun b hb=>?_) (fun b o _ _ hc e _=>k b o (fun z=>hc (by simp [z])) e) (fun b o _ _ hc e _=>⟨o.slots,k b o (fun z=>hc (by simp [z])) e⟩) (fun _ _ _ _ n=>n)
  (fun b o hc e=>⟨o,k b o (fun z=>hc (by simp [z])) e⟩) (fun _ _ e=>e) (fun _ _ _ e=>e) (fun b ps e=>⟨#[],by rw [e];simp⟩) (fun m hm=>?_) (fun b u e=>?_) I.bare
 ·have e:b=it:=by simpa using hb
  subst e;exact ⟨h1,hL,h2,h3⟩
 ·obtain ⟨o,es,ep,ho,r⟩:=hm;exact ⟨o,es,ep,k _ o (Ne.symm hL) ho,r⟩
 ·refine (I.hok b u e).stay (fun c v hc q=>k c v ?_ q) (fun _ q=>q) fun _ _ q=>q;rcases hc with z | z
  ·rw [z];exact nit b u e
  ·exact nit c _ z
theorem Inv.tok (I:Inv X pins σ H s) (t:Nat):Inv X pins σ H { s with toks:=t }:=I.un (h':=s.heap) (t':=t) Un.refl I.hok
theorem Inv.kept {t':Nat} (I:Inv X pins σ H s) (k:∀ b u,s.heap.get? b=some u→h'.get? b=some u):Inv X pins σ H { s with heap:=h',toks:=t' }:=I.un (Un.kept k) (I.hok.kept k)
theorem Inv.laid {a:Addr}{o:HO}{t':Nat} (I:Inv X pins σ H s) (k:∀ b u,s.heap.get? b=some u→h'.get? b=some u) (hp:s.heap.objs.size≤a) (new:jO X.prog X.w (upd H a o) h' a o):
  Inv X pins σ (upd H a o) { s with heap:=h',toks:=t' }:=I.un (Un.laid k hp (I.hok.fresh hp)) (I.hok.laid k hp new)
theorem Inv.write {x e:Addr}{o:HO}{t':Nat} (I:Inv X pins σ H s) (mu:Mut (H x)) (he:e=x∨H e=some (.own x)) (k:∀ b u,b≠e→s.heap.get? b=some u→h'.get? b=some u) (heo:∃ u,h'.get? e=some u)
  (new:jO X.prog X.w (upd H x o) h' x o):Inv X pins σ (upd H x o) { s with heap:=h',toks:=t' }:=I.un (Un.write mu he k heo) (I.hok.write mu he k heo new)
theorem Inv.nT {Zqr:List (Addr×Obj)} (I:Inv X pins σ H s) (h:∀ p∈Zqr,s.heap.get? p.1=some p.2∧H p.1=none∧p.1≠X.env.locals∧p.1∉X.fs∧∀ v,p.2.data≠.cell v):Inv X Zqr σ H s:=
 ⟨I.ok,I.os,I.bare,I.base,I.loc,I.cell,I.free,I.pO,fun p hp=>(List.mem_append.mp hp).elim (fun z=>I.pin p (List.mem_append_left _ z)) (h p),I.hok,I.len⟩
theorem Za6 {N:List Str} (hN:N.Nodup) {i j:Nat}{x:Str} (a:N[i]? =some x) (b:N[j]? =some x):i=j:=by
 obtain ⟨h1,e1⟩:=fG a;obtain ⟨h2,e2⟩:=fG b;exact (List.getElem_inj hN).mp (e1.trans e2.symm)
theorem Zgt {M:Model}{A:Around}{E:Value→Shared→Prop}{i:Nat}{x:Str}{v:V}{u:Value}{Q:Unit→Shared→Prop} (I:Inv X pins σ H s) (hN:X.N.Nodup) (hi:X.N[i]? =some x) (hx:Loc X.env.scope x) (r:RelV v u)
  (h:∀ s',Inv X pins (σ.set i (some v)) H s'→(∃ a,Heap.SameBut a s.heap s'.heap∧(a=X.env.locals∨X.env.cells.lookup x=some a))→Q () s') (hf:X.fn x=true∨X.env.scope.names.lookup x=some .local:=by first | exact .inl rfl | exact .inr rfl | assumption):wpAny M A (storeName X.env x u) Q E s:=by
 obtain ⟨m,hn,hl⟩:=id I.loc;have hcls:(X.env.scope.kind == .class || (X.env.scope.kind == .module && X.env.locals != X.env.globals))=false:=by rw [I.ok.kind];rfl
 have hiσ:i < σ.length:=by rw [I.len];exact (fG hi).1
 have cne:=I.cne;have tracked:∀ {a:Addr}{h':Heap},(∃ o,s.heap.get? a=some o∧H a=none)→Heap.SameBut a s.heap h'→zM X.prog X.w H h':=fun {a h'} ha hs b ob e=>by
  obtain ⟨_,_,hfree⟩:=ha;refine (I.hok b ob e).stay (fun c w' hc q=>(hs.2 c ?_).trans q) (fun _ q=>q) fun _ _ q=>q;rintro rfl;rcases hc with rfl | hc
  ·rw [hfree] at e;cases e
  ·rw [hfree] at hc;cases hc
 rcases hx with hk | hk
 ·refine wpAny_storeName_local hk hn (fun h' hn' hs=>?_) hcls;obtain ⟨oL,_,_,hoL,_⟩:=id hn;refine h _ ⟨I.ok,I.os,I.bare,⟨fun b o e n hb hx=>?_,fun b o e n hb hx=>?_,I.base.free,fun b o e hx=>?_,I.base.tups,I.base.BL,I.base.CQ⟩,⟨_,hn',fun j y v' e1 e2 e3=>?_⟩,fun y c e=>?_,I.free,I.pO,fun p hp=>?_,tracked ⟨oL,hoL,I.free⟩ hs,by simpa using I.len⟩ ⟨_,hs,.inl rfl⟩
  ·exact (hs.2 b (Nat.ne_of_lt (Nat.lt_of_lt_of_le (Heap.lt_size e) I.ok.above))).trans (I.base.keep b o e n hb hx)
  ·obtain ⟨sl,e1⟩:=I.base.slot b o e n hb hx;exact ⟨sl,(hs.2 b (Nat.ne_of_lt (Nat.lt_of_lt_of_le (Heap.lt_size e) I.ok.above))).trans e1⟩
  ·obtain ⟨o',e1⟩:=I.base.there b o e hx;exact ⟨o',(hs.2 b (Nat.ne_of_lt (Nat.lt_of_lt_of_le (Heap.lt_size e) I.ok.above))).trans e1⟩
  ·by_cases hj:j=i
   ·subst hj;rw [hi] at e1;cases e1;rw [List.getElem?_set_self hiσ] at e2;cases e2;exact ⟨u,r,.inl ⟨hk,by simp⟩⟩
   ·rw [List.getElem?_set_ne (Ne.symm hj)] at e2;obtain ⟨u',r',q⟩:=hl j y v' e1 e2 e3;refine ⟨u',r',?_⟩;rcases q with ⟨k,e⟩ | ⟨k,c,e,z⟩
    ·refine .inl ⟨k,?_⟩;have:y≠x:=fun e=>hj (Za6 hN e1 (e ▸ hi));simp [this,e]
    ·exact .inr ⟨k,c,e,z.sameBut hs (cne y c e)⟩
  ·obtain ⟨w',z⟩:=I.cell y c e;exact ⟨w',z.sameBut hs (cne y c e)⟩
  ·obtain ⟨e,n,ne,nf,d⟩:=I.pin p hp;exact ⟨(hs.2 p.1 ne).trans e,n,ne,nf,d⟩
 ·have hfn:X.fn x=true:=by
   rcases hf with z | z
   ·exact z
   ·rw [z] at hk;cases hk
  obtain ⟨c,hc⟩:=I.ok.has x (.inl hk);obtain ⟨w',z⟩:=I.cell x c hc;refine wpAny_storeName_cell I.ok.kind hk hc z (fun h' hc' hs=>?_);obtain ⟨oc,hoc,Zws⟩:=id z;refine h { s with heap:=h' } ⟨I.ok,I.os,I.bare,⟨fun b o e n hb hx=>?_,fun b o e n hb hx=>?_,I.base.free,fun b o e hx=>?_,I.base.tups,I.base.BL,I.base.CQ⟩,⟨m,hn.sameBut hs (Ne.symm (cne x c hc)),fun j y v' e1 e2 e3=>?_⟩,fun y c' e=>?_,I.free,I.pO,fun p hp=>?_,tracked ⟨oc,hoc,I.pO x c hc⟩ hs,by simpa using I.len⟩ ⟨c,hs,.inr hc⟩
  ·exact (hs.2 b (Nat.ne_of_lt (Nat.lt_of_lt_of_le (Heap.lt_size e) (I.ok.cab x c hfn hc)))).trans (I.base.keep b o e n hb hx)
  ·obtain ⟨sl,e1⟩:=I.base.slot b o e n hb hx;exact ⟨sl,(hs.2 b (Nat.ne_of_lt (Nat.lt_of_lt_of_le (Heap.lt_size e) (I.ok.cab x c hfn hc)))).trans e1⟩
  ·obtain ⟨o',e1⟩:=I.base.there b o e hx;exact ⟨o',(hs.2 b (Nat.ne_of_lt (Nat.lt_of_lt_of_le (Heap.lt_size e) (I.ok.cab x c hfn hc)))).trans e1⟩
  ·by_cases hj:j=i
   ·subst hj;rw [hi] at e1;cases e1;rw [List.getElem?_set_self hiσ] at e2;cases e2;exact ⟨u,r,.inr ⟨.inl hk,c,hc,hc'⟩⟩
   ·rw [List.getElem?_set_ne (Ne.symm hj)] at e2;obtain ⟨u',r',q⟩:=hl j y v' e1 e2 e3;refine ⟨u',r',?_⟩;rcases q with q | ⟨k,c',e,z'⟩
    ·exact .inl q
    ·refine .inr ⟨k,c',e,z'.sameBut hs ?_⟩;rintro rfl;exact hj (Za6 hN e1 (I.ok.inj _ _ _ e hc ▸ hi))
  ·by_cases hcc:c'=c
   ·subst hcc;exact ⟨_,hc'⟩
   ·obtain ⟨w2,z2⟩:=I.cell y c' e;exact ⟨w2,z2.sameBut hs hcc⟩
  ·obtain ⟨e,n,ne,nf,d⟩:=I.pin p hp;refine ⟨(hs.2 p.1 ?_).trans e,n,ne,nf,d⟩;intro q;rw [q,hoc] at e;have q':oc=p.2:=Option.some.inj e;exact d w' (by rw [← q'];exact Zws)
theorem Fv {M:Model}{A:Around}{E:Value→Shared→Prop}{i:Nat}{x:Str}{v:V}{u:Value}{Q:Unit→Shared→Prop} (I:Inv X pins σ H s) (hN:X.N.Nodup) (hi:X.N[i]? =some x) (hx:Loc X.env.scope x) (r:RelV v u)
  (h:∀ s',Inv X pins (σ.set i (some v)) H s'→Q () s') (hf:X.fn x=true∨X.env.scope.names.lookup x=some .local:=by first | exact .inl rfl | exact .inr rfl | assumption):wpAny M A (storeName X.env x u) Q E s:=
 Zgt I hN hi hx r (fun s' I' _=>h s' I') hf
theorem Inv.call' {s':Shared}{ch:List Addr} (I:Inv X pins σ H s) (ho:s'.os=s.os) (u:Un (frs X.stack) ch H H' s.heap s'.heap) (hok:zM X.prog X.w H' s'.heap) (hg:AllBare s'.gens)
  (hch:∀ b∈ch,(b∈X.ex∨X.s₀.heap.objs.size≤b)∧b≠X.env.locals∧(∀ x c,X.env.cells.lookup x=some c→c≠b)∧∀ p∈X.pn ++ pins,p.1≠b):Inv X pins σ H' s':=by
 obtain ⟨h',g',d',t',o'⟩:=s';have e:o'=s.os:=ho;subst e;exact I.call (g':=g') (t':=t') (d':=d') u hok hg hch
end
abbrev XK:=Value→Option Addr→Hp→Prop
abbrev St:=List (Option V)
abbrev VK:=V→Hp→Prop
abbrev TE:=St→Hp→VK→Prop
abbrev TT:=St→Hp→(Bool→Hp→Prop)→Prop
abbrev TA:=St→Hp→(List V→Hp→Prop)→Prop
structure Ends where
 nx:St→Hp→Prop
 rt:VK
 bk:St→Hp→Prop:=fun _ _=>False
 ct:St→Hp→Prop:=fun _ _=>False
abbrev TS:=Ends→St→Hp→Prop
def EP (X:Cx) (pins:List (Addr×Obj)) (σ:St) (Q:VK) (u:Value) (s':Shared):Prop:=∃ v H',Inv X pins σ H' s'∧RelV v u∧Q v H'
def TP (X:Cx) (pins:List (Addr×Obj)) (σ:St) (Q:Bool→Hp→Prop) (b:Bool) (s':Shared):Prop:=∃ H',Inv X pins σ H' s'∧Q b H'
def AP (X:Cx) (pins:List (Addr×Obj)) (σ:St) (Q:List V→Hp→Prop) (us:List Value) (s':Shared):Prop:=∃ vs H',Inv X pins σ H' s'∧Vals vs us∧Q vs H'
def SP (X:Cx) (pins:List (Addr×Obj)) (D:Ends) (f:Flow) (s':Shared):Prop:=
 match f with
 | .next=>∃ σ' H',Inv X pins σ' H' s'∧D.nx σ' H'
 | .brk=>∃ σ' H',Inv X pins σ' H' s'∧D.bk σ' H'
 | .cont=>∃ σ' H',Inv X pins σ' H' s'∧D.ct σ' H'
 | .ret u=>∃ v σ' H',Inv X pins σ' H' s'∧RelV v u∧D.rt v H'
def PE (X:Cx) (e:Expr) (t:TE):Prop:=
 ∀ (pins:List (Addr×Obj)) (s:Shared) (σ:St) (H:Hp) (Q:VK),Inv X pins σ H s→t σ H Q→wpAny (model X.prog X.w) X.A (eval e X.env) (EP X pins σ Q) X.xe s
def PT (X:Cx) (e:Expr) (t:TT):Prop:=
 ∀ (pins:List (Addr×Obj)) (s:Shared) (σ:St) (H:Hp) (Q:Bool→Hp→Prop),Inv X pins σ H s→t σ H Q→wpAny (model X.prog X.w) X.A (isTrue e X.env (eval e X.env)) (TP X pins σ Q) X.xe s
def PW (X:Cx) (e:Expr) (t:TT):Prop:=
 ∀ (whole:Sem Value) (pins:List (Addr×Obj)) (s:Shared) (σ:St) (H:Hp) (Q:Bool→Hp→Prop),Inv X pins σ H s→t σ H Q→wpAny (model X.prog X.w) X.A (isTrue e X.env whole) (TP X pins σ Q) X.xe s
theorem PW.pt {X:Cx}{e:Expr}{t:TT} (h:PW X e t):PT X e t:=h _
def PA (X:Cx) (es:List Expr) (t:TA):Prop:=
 ∀ (pos:Pos) (pins:List (Addr×Obj)) (s:Shared) (σ:St) (H:Hp) (Q:List V→Hp→Prop),Inv X pins σ H s→t σ H Q→wpAny (model X.prog X.w) X.A (spliced (backTo pos (starEach es X.env))) (AP X pins σ Q) X.xe s
def PS (X:Cx) (st:Stmt) (t:TS):Prop:=
 ∀ (pins:List (Addr×Obj)) (s:Shared) (σ:St) (H:Hp) (D:Ends),Inv X pins σ H s→t D σ H→wpAny (model X.prog X.w) X.A (exec st X.env) (SP X pins D) X.xe s
def Zk (X:Cx) (st:List Stmt) (t:TS):Prop:=
 ∀ (pins:List (Addr×Obj)) (s:Shared) (σ:St) (H:Hp) (D:Ends),Inv X pins σ H s→t D σ H→wpAny (model X.prog X.w) X.A (execs st X.env) (SP X pins D) X.xe s
theorem gM {α:Type}{t:Sem α}{Q Q':α→Shared→Prop}{M:Model}{A:Around}{E:Value→Shared→Prop}{s:Shared} (h:wpAny M A t Q E s) (hQ:∀ a s,Q a s→Q' a s):wpAny M A t Q' E s:=wpAny_mono h hQ fun _ _ x=>x
end L2
namespace L2
open PySem PySem.Spec PyProof.Rows
section
variable {X:Cx}
def ak (i:Nat):TE:=fun σ H Q=>∃ v,σ[i]? =some (some v)∧Q v H
def tC (v:V):TE:=fun _ H Q=>Q v H
theorem Zk7 {i:Nat}{x:Str}{pos:Pos} (hN:X.N[i]? =some x) (hv:Vis X.env.scope x) (hd:(x == ("__debug__":Str))=false:=by decide) (hcd:(x == ("__classdict__":Str))=false:=by decide):PE X (.Name x pos) (ak i):=by
 intro pins s σ H Q I h;obtain ⟨v,e,h⟩:=h;obtain ⟨m,hn,hl⟩:=I.loc;obtain ⟨u,r,l⟩:=hl i x v hN e hv;have fin:EP X pins σ Q u s:=⟨v,H,I,r,h⟩;rcases l with ⟨hk,hm⟩ | ⟨hk,c,hc,hcell⟩
 ·exact wpAny_Name (wpAny_loadName_local I.ok.kind hk hn hm fin) hd
 ·rcases hk with hk | hk
  ·exact wpAny_Name (wpAny_loadName_cell I.ok.kind hk hc hcell fin) hd
  ·exact wpAny_Name (wpAny_loadName_free I.ok.kind hk hc hcell fin hcd) hd
theorem az {i j pos}:PE X (.Constant (.int i) j pos) (tC (.int i)):=fun _ _ _ H _ I h=>wpAny_Constant_int ⟨.int i,H,I.tok _,⟨_,rfl⟩,h⟩
theorem zG {b j pos}:PE X (.Constant (.bool b) j pos) (tC (.bl b)):=fun _ _ _ H _ I h=>Constant_bool ⟨.bl b,H,I,rfl,h⟩
theorem eU {j pos}:PE X (.Constant .none j pos) (tC .non):=fun _ _ _ H _ I h=>Constant_none ⟨.non,H,I,rfl,h⟩
theorem bN {x j pos}:PE X (.Constant (.str x) j pos) (tC (.str x)):=fun _ _ _ H _ I h=>Calls.Constant_str ⟨.str x,H,I.tok _,⟨_,rfl⟩,h⟩
def Gl (X:Cx) (x:Str):Prop:=X.env.kindOf x=some .globalImplicit
theorem tH {E:Value→Shared→Prop}{pins:List (Addr×Obj)}{s:Shared}{σ:St}{H:Hp}{x:Str}{u:Value}{pos:Pos}{Q:Value→Shared→Prop} (I:Inv X pins σ H s) (hg:Gl X x) (hm:X.mg x=some u) (h:Q u s)
  (hd:(x == ("__debug__":Str))=false:=by decide):wpAny (model X.prog X.w) X.A (eval (.Name x pos) X.env) Q E s:=
 Calls.Name_function_global I.ok.kind hg (Calls.loadGlobal_global (by rw [I.ok.glob];exact I.mod.glob.keeps I.bk) hm h) hd
theorem PL {E:Value→Shared→Prop}{pins:List (Addr×Obj)}{s:Shared}{σ:St}{H:Hp}{x:Str}{u:Value}{pos:Pos}{Q:Value→Shared→Prop} (I:Inv X pins σ H s) (hg:Gl X x) (hm:X.mg x=none) (hv:bootBuiltins x=some u) (h:Q u s)
  (hn:x≠"__name__":=by decide) (hd:(x == ("__debug__":Str))=false:=by decide):wpAny (model X.prog X.w) X.A (eval (.Name x pos) X.env) Q E s:=by
 obtain ⟨mb,h1,h2⟩:=I.mod.blt;exact Calls.Name_function_global I.ok.kind hg (Calls.loadGlobal_builtin (by rw [I.ok.glob];exact I.mod.glob.keeps I.bk) hm (by rw [I.ok.blt];exact h1.keeps I.bk) ((h2 x hn).trans hv) h) hd
theorem Zof {x:Str}{v:V}{u:Value}{pos:Pos} (hg:Gl X x) (hm:X.mg x=some u) (r:RelV v u) (hd:(x == ("__debug__":Str))=false:=by decide):PE X (.Name x pos) (tC v):=
 fun _ _ _ H _ I h=>tH I hg hm ⟨v,H,I,r,h⟩ hd
theorem Gf {x:Str}{v:V}{u:Value}{pos:Pos} (hg:Gl X x) (hm:X.mg x=none) (hv:bootBuiltins x=some u) (r:RelV v u) (hn:x≠"__name__":=by decide) (hd:(x == ("__debug__":Str))=false:=by decide):PE X (.Name x pos) (tC v):=
 fun _ _ _ H _ I h=>PL I hg hm hv ⟨v,H,I,r,h⟩ hn hd
variable {a b:Expr}{ta tb:TE}{pos:Pos}
def PC (X:Cx) (op:CmpOp) (a b:Expr) (t:TE):Prop:=
 ∀ (pins:List (Addr×Obj)) (s:Shared) (σ:St) (H:Hp) (Q:VK),Inv X pins σ H s→t σ H Q→
  wpAny (model X.prog X.w) X.A (eval a X.env) (fun v s₁=>wpAny (model X.prog X.w) X.A (eval b X.env) (fun u s₂=>wpAny (model X.prog X.w) X.A (compareOp op v u) (EP X pins σ Q) X.xe s₂) X.xe s₁) X.xe s
theorem Zkr (b:Expr) {op:CmpOp} (h:op≠.In) (h2:op≠.NotIn):behindInMarks op b=false:=by
 have e1:(op == CmpOp.In)=false:=by cases op<;>first | rfl | exact absurd rfl h
 have e2:(op == CmpOp.NotIn)=false:=by cases op<;>first | rfl | exact absurd rfl h2
 cases b<;>simp [behindInMarks,e1,e2]
def tB (t:TE):TT:=fun σ H Q=>t σ H fun x H1=>∃ c,x=.bl c∧Q c H1
theorem Zk0 {op:CmpOp}{t:TE} (h:PC X op a b t) (h1:behindInMarks op b=false:=by first | exact Zkr _ (by decide) (by decide) | rfl):PT X (.Compare a [op] [b] pos) (tB t):=by
 intro pins s σ H Q I hw;refine wpAny_isTrue_Compare1 (gM (h pins s σ H _ I hw) fun v s1 h1=>gM h1 fun u s2 h2=>gM h2 fun c s3 ⟨x,H1,I1,r1,q1⟩=>?_) h1;obtain ⟨d,rfl,q⟩:=q1;cases r1;exact wpAny_truthy_bool ⟨H1,I1,q⟩
theorem lQ {e:Expr}{t:TE} (h:PE X e t) (he:∀ whole,isTrue e X.env whole=(do let v ← whole;standAt e.pos;holding [v] (truthy v)):=by intro _;rfl):PT X e (tB t):=by
 intro pins s σ H Q I hw;refine isTrue_plain (gM (h pins s σ H _ I hw) fun v s1 ⟨x,H1,I1,r1,q1⟩=>?_) (he _);obtain ⟨d,rfl,q⟩:=q1;cases r1;exact wpAny_truthy_bool ⟨H1,I1,q⟩
variable {tA tB':TT}{rest:List Expr}
def Zgr (t u:TT):TT:=fun σ H Q=>t σ H fun c H1=>if c=true then u σ H1 Q else Q false H1
def tOr (t u:TT):TT:=fun σ H Q=>t σ H fun c H1=>if c=true then Q true H1 else u σ H1 Q
def DQ (t:TT):TT:=fun σ H Q=>t σ H fun c H1=>Q (!c) H1
theorem Wv (ha:PT X a tA):PW X (.BoolOp .And [a] pos) tA:=by
 intro wh pins s σ H Q I h;refine isTrue_and (gM (ha pins s σ H Q I h) fun c s1 e=>?_);cases c with
 | true=>exact isTrue_and_nil e
 | false=>exact e
theorem uw (ha:PT X a tA):PW X (.BoolOp .Or [a] pos) tA:=by
 intro wh pins s σ H Q I h;refine isTrue_or (gM (ha pins s σ H Q I h) fun c s1 e=>?_);cases c with
 | false=>exact isTrue_or_nil e
 | true=>exact e
theorem Zd5 (ha:PT X a tA) (hb:PW X (.BoolOp .And (b :: rest) pos) tB'):PW X (.BoolOp .And (a :: b :: rest) pos) (Zgr tA tB'):=by
 intro wh pins s σ H Q I h;refine isTrue_and (gM (ha pins s σ H _ I h) fun c s1 ⟨H1,I1,q1⟩=>?_);cases c with
 | true=>exact hb wh pins s1 σ H1 Q I1 q1
 | false=>exact ⟨H1,I1,q1⟩
theorem uU (ha:PT X a tA) (hb:PW X (.BoolOp .Or (b :: rest) pos) tB'):PW X (.BoolOp .Or (a :: b :: rest) pos) (tOr tA tB'):=by
 intro wh pins s σ H Q I h;refine isTrue_or (gM (ha pins s σ H _ I h) fun c s1 ⟨H1,I1,q1⟩=>?_);cases c with
 | true=>exact ⟨H1,I1,q1⟩
 | false=>exact hb wh pins s1 σ H1 Q I1 q1
theorem qu (ha:PT X a tA):PT X (.UnaryOp .Not a pos) (DQ tA):=by
 intro pins s σ H Q I h;exact isTrue_not (ha pins s σ H (fun c H1=>Q (!c) H1) I h)
def Zo (ta tb:TE):TE:=fun σ H Q=>ta σ H fun x H1=>∃ c,x=.bl c∧if c=true then tb σ H1 Q else Q (.bl false) H1
def Zfo (ta:TE):TE:=fun σ H Q=>ta σ H fun x H1=>∃ c,x=.bl c∧Q (.bl (!c)) H1
theorem Zda {op}{t:TE} (h:PE X a t):PE X (.BoolOp op [a] pos) t:=fun pins s σ H Q I hw=>BoolOp_one (h pins s σ H Q I hw)
theorem Zdc (ha:PE X a ta) (hb:PE X (.BoolOp .And (b :: rest) pos) tb):PE X (.BoolOp .And (a :: b :: rest) pos) (Zo ta tb):=by
 intro pins s σ H Q I h;refine BoolOp_and (gM (ha pins s σ H _ I h) fun v s1 ⟨x,H1,I1,r1,q1⟩=>?_);obtain ⟨c,rfl,q1⟩:=q1;cases r1;refine wpAny_truthy_bool ?_;cases c with
 | true=>exact hb pins s1 σ H1 Q I1 q1
 | false=>exact ⟨.bl false,H1,I1,rfl,q1⟩
theorem Zka (ha:PE X a ta):PE X (.UnaryOp .Not a pos) (Zfo ta):=by
 intro pins s σ H Q I h;refine UnaryOp_ (gM (ha pins s σ H _ I h) fun v s1 ⟨x,H1,I1,r1,q1⟩=>?_);obtain ⟨c,rfl,q1⟩:=q1;cases r1;exact not_of (wpAny_truthy_bool ⟨.bl (!c),H1,I1,rfl,q1⟩)
end
end L2
namespace L2
open PySem PySem.Spec PyProof.Rows
def cU (K:aC) (H:Hp) (a:Addr) (xs:List V):Prop:=
 Rd H a (.lst xs)∨
  ∃ (o:Obj) (its:Array Value) (n:Nat),K.lookup a=some o∧o.cls=.type "list"∧o.dict=none∧o.data=.seq its n∧its.size≤sizeLine∧Vals xs its.toList
def gU (K:aC) (H:Hp) (a:Addr) (xs:List V):Prop:=
 Rd H a (.tup xs)∨
  ∃ (o:Obj) (its:Array Value) (n:Nat),K.lookup a=some o∧o.cls=.type "tuple"∧o.data=.seq its n∧its.size≤sizeLine∧Vals xs its.toList
def ZDr:Value→Option V
 | .none=>some .non
 | .bool b=>some (.bl b)
 | .int i _=>some (.int i)
 | .str x _=>some (.str x)
 | .bytes b _=>some (.byt b)
 | .float b _=>some (.flt b)
 | .ref a=>some (.ref a)
 | .type n=>some (.ty n)
 | _=>none
theorem RelV.abs {x:V}{u:Value} (r:RelV x u):ZDr u=some x:=by
 cases x with
 | non=>cases r;rfl
 | bl _=>cases r;rfl
 | int _=>obtain ⟨t,rfl⟩:=r;rfl
 | str _=>obtain ⟨t,rfl⟩:=r;rfl
 | byt _=>obtain ⟨t,rfl⟩:=r;rfl
 | flt _=>obtain ⟨t,rfl⟩:=r;rfl
 | ref _=>cases r;rfl
 | ty _=>cases r;rfl
theorem RelV.inj {x y:V}{u:Value} (r:RelV x u) (q:RelV y u):x=y:=Option.some.inj (r.abs.symm.trans q.abs)
theorem Vals.inj:∀ {xs ys:List V}{us:List Value},Vals xs us→Vals ys us→xs=ys
 | _,_,_,.nil,.nil=>rfl
 | _,_,_,.cons r t,.cons r' t'=>by rw [r.inj r',Vals.inj t t']
section
variable {X:Cx}{pins:List (Addr×Obj)}{σ:St}{H:Hp}{s:Shared}{a:Addr}{xs ys:List V}
theorem cU.of {K:aC} (h:H a=some (.lst xs)):cU K H a xs:=.inl (.inl h)
theorem gU.of {K:aC} (h:H a=some (.tup xs)):gU K H a xs:=.inl (.inl h)
theorem Inv.list (I:Inv X pins σ H s) (h:cU X.K H a xs):∃ its:List Value,Vals xs its∧PlainL s.heap a its.toArray∧xs.length≤sizeLine:=by
 rcases h with h | ⟨o,its,n,hk,hc,hd,hs,hz,r⟩
 ·obtain ⟨z,its,n,r,e⟩:=h.ok I.hok;exact ⟨its,r,⟨_,n,e,rfl,rfl,rfl⟩,z⟩
 ·refine ⟨its.toList,r,⟨o,n,I.By a o hk,hc,hd,by simpa using hs⟩,?_⟩;have e:=r.length;simp only [Array.length_toList] at e;omega
theorem Inv.tuple (I:Inv X pins σ H s) (h:gU X.K H a xs):∃ its:List Value,Vals xs its∧IsTup s.heap a its.toArray∧xs.length≤sizeLine:=by
 rcases h with h | ⟨o,its,n,hk,hc,hs,hz,r⟩
 ·obtain ⟨z,its,r,p⟩:=h.ok I.hok;exact ⟨its,r,p,z⟩
 ·refine ⟨its.toList,r,⟨o,I.By a o hk,hc,n,by simpa using hs⟩,?_⟩;have e:=r.length;simp only [Array.length_toList] at e;omega
theorem Inv.Zad (I:Inv X pins σ H s) (h:cU X.K H a xs) (h':cU X.K H a ys):xs=ys:=by
 obtain ⟨its,r,⟨o,n,e,_,_,d⟩,_⟩:=I.list h;obtain ⟨its',r',⟨o',n',e',_,_,d'⟩,_⟩:=I.list h';rw [e] at e';cases e';rw [d] at d'
 injection d' with d1 _
 have:its=its':=by simpa using congrArg Array.toList d1
 subst this;exact r.inj r'
end
abbrev Cx.wish (X:Cx) (E:Value→Shared→Prop):Cx:={ X with xe:=E }
abbrev Cx.nox (X:Cx):Cx:=X.wish fun _ _=>False
theorem Cx.Ok.wish {X:Cx} (ok:X.Ok) (E:Value→Shared→Prop):(X.wish E).Ok:=
 ⟨ok.mod,ok.kind,ok.glob,ok.blt,ok.above,ok.inj,ok.has,ok.cab,ok.hd,ok.frames,ok.stk,ok.exf,ok.bs,ok.Zj,ok.Mv,ok.Yw,ok.wL,ok.frf⟩
theorem Cx.Ok.zQ {X:Cx}{E:Value→Shared→Prop} (ok:(X.wish E).Ok):X.Ok:=
 ⟨ok.mod,ok.kind,ok.glob,ok.blt,ok.above,ok.inj,ok.has,ok.cab,ok.hd,ok.frames,ok.stk,ok.exf,ok.bs,ok.Zj,ok.Mv,ok.Yw,ok.wL,ok.frf⟩
section
variable {X:Cx}{pins:List (Addr×Obj)}{σ:St}{H:Hp}{s:Shared}{E:Value→Shared→Prop}
theorem Inv.wish (I:Inv X pins σ H s) (E:Value→Shared→Prop):Inv (X.wish E) pins σ H s:=⟨I.ok.wish E,I.os,I.bare,I.base,I.loc,I.cell,I.free,I.pO,I.pin,I.hok,I.len⟩
theorem Inv.zQ (I:Inv (X.wish E) pins σ H s):Inv X pins σ H s:=⟨I.ok.zQ,I.os,I.bare,I.base,I.loc,I.cell,I.free,I.pO,I.pin,I.hok,I.len⟩
theorem SP.zQ {D:Ends}{f:Flow}{s':Shared} (h:SP (X.wish E) pins D f s'):SP X pins D f s':=by
 cases f with
 | next=>obtain ⟨σ',H',I,q⟩:=h;exact ⟨σ',H',I.zQ,q⟩
 | brk=>obtain ⟨σ',H',I,q⟩:=h;exact ⟨σ',H',I.zQ,q⟩
 | cont=>obtain ⟨σ',H',I,q⟩:=h;exact ⟨σ',H',I.zQ,q⟩
 | ret u=>obtain ⟨v,σ',H',I,r,q⟩:=h;exact ⟨v,σ',H',I.zQ,r,q⟩
theorem Zk.nox {st:List Stmt}{t:TS} (h:Zk X.nox st t):Zk X st t:=fun pins s σ H D I hw=>
 wpAny_mono (h pins s σ H D (I.wish _) hw) (fun _ _ q=>q.zQ) fun _ _ z=>False.elim z
end
section
variable {X:Cx}{st:Stmt}{rest:List Stmt}{t u:TS}{e:Expr}{te:TE}{pos:Pos}
def cL:TS:=fun D σ H=>D.nx σ H
def aL (t u:TS):TS:=fun D σ H=>t { D with nx:=u D } σ H
theorem bB:Zk X [] cL:=fun _ _ σ H _ I h=>wpAny_execs_nil ⟨σ,H,I,h⟩
theorem ao (h1:PS X st t) (h2:Zk X rest u):Zk X (st :: rest) (aL t u):=by
 intro pins s σ H D I h;refine wpAny_execs_cons (gM (h1 pins s σ H { D with nx:=u D } I h) fun f s1 q=>?_);cases f with
 | next=>
  obtain ⟨σ',H',I',q⟩:=q;exact h2 pins s1 σ' H' D I' q
 | ret v=>exact q
 | brk=>exact q
 | cont=>exact q
theorem aA (h1:PS X st t):Zk X [st] t:=by
 intro pins s σ H D I h;refine wpAny_execs_cons (gM (h1 pins s σ H D I h) fun f s1 q=>?_);cases f with
 | next=>exact wpAny_execs_nil q
 | ret v=>exact q
 | brk=>exact q
 | cont=>exact q
theorem Inv.quiet {pins:List (Addr×Obj)}{σ:St}{H:Hp}{s:Shared} (I:Inv X pins σ H s):interactive X.env=false:=by simp [interactive,I.ok.kind]
def uO (te:TE):TS:=fun D σ H=>te σ H fun _ H1=>D.nx σ H1
theorem pG (he:PE X e te) (hs:swapsWith e none pos.line X.env=pure false:=by rfl):PS X (.Expr e pos) (uO te):=by
 intro pins s σ H D I h;exact wpAny_Expr_any (gM (he pins s σ H _ I h) fun v s1 ⟨x,H1,I1,r1,q1⟩=>⟨σ,H1,I1,q1⟩) I.quiet hs
def bI (te:TE):TS:=fun D σ H=>te σ H D.rt
theorem aM (he:PE X e te):PS X (.Return (some e) pos) (bI te):=by
 intro pins s σ H D I h;exact wpAny_Return_some (gM (he pins s σ H _ I h) fun v s1 ⟨x,H1,I1,r1,q1⟩=>⟨x,σ,H1,I1,r1,q1⟩)
def fB (c:TT) (t u:TS):TS:=fun D σ H=>c σ H fun b H1=>if b=true then t D σ H1 else u D σ H1
theorem cQ {c:Expr}{a b:List Stmt}{tc:TT} (hc:PT X c tc) (ha:Zk X a t) (hb:Zk X b u):PS X (.If c a b pos) (fB tc t u):=by
 intro pins s σ H D I h;refine wpAny_If (gM (hc pins s σ H _ I h) fun d s1 ⟨H1,I1,q1⟩=>?_);cases d with
 | true=>exact ha pins s1 σ H1 D I1 q1
 | false=>exact hb pins s1 σ H1 D I1 q1
end
abbrev TG:=V→St→Hp→(St→Hp→Prop)→Prop
abbrev TGs:=List V→St→Hp→(St→Hp→Prop)→Prop
def PG (X:Cx) (target:Expr) (t:TG):Prop:=
 ∀ (pins:List (Addr×Obj)) (s:Shared) (σ:St) (H:Hp) (v:V) (u:Value) (Q:St→Hp→Prop),Inv X pins σ H s→RelV v u→t v σ H Q→
  wpAny (model X.prog X.w) X.A (assign target X.env u) (fun _ s'=>∃ σ' H',Inv X pins σ' H' s'∧Q σ' H') X.xe s
def PGs (X:Cx) (ts:List Expr) (t:TGs):Prop:=
 ∀ (pins:List (Addr×Obj)) (s:Shared) (σ:St) (H:Hp) (vs:List V) (us:List Value) (Q:St→Hp→Prop),Inv X pins σ H s→Vals vs us→t vs σ H Q→
  wpAny (model X.prog X.w) X.A (assignInOrder ((assignEach ts X.env).map (·.2)) us) (fun _ s'=>∃ σ' H',Inv X pins σ' H' s'∧Q σ' H') X.xe s
abbrev Zqg:=V→V→V→Hp→(Hp→Prop)→Prop
def Zvp (X:Cx) (t:Zqg):Prop:=
 ∀ (pins:List (Addr×Obj)) (s:Shared) (σ:St) (H:Hp) (o i v:V) (ov iv u:Value) (Q:Hp→Prop),Inv X pins σ H s→RelV o ov→RelV i iv→RelV v u→t o i v H Q→
  wpAny (model X.prog X.w) X.A (setItem ov iv u) (fun _ s'=>∃ H',Inv X pins σ H' s'∧Q H') X.xe s
abbrev TIp:=V→V→Hp→VK→Prop
def PIp (X:Cx) (op:Operator) (t:TIp):Prop:=
 ∀ (pins:List (Addr×Obj)) (s:Shared) (σ:St) (H:Hp) (x y:V) (v u:Value) (Q:VK),Inv X pins σ H s→RelV x v→RelV y u→t x y H Q→
  wpAny (model X.prog X.w) X.A (inplaceOp op v u) (EP X pins σ Q) X.xe s
section
variable {X:Cx}{pos:Pos}
def aN (i:Nat):TG:=fun v σ H Q=>Q (σ.set i (some v)) H
theorem ji {i:Nat}{x:Str} (hN:X.N.Nodup) (hi:X.N[i]? =some x) (hx:Loc X.env.scope x) (hf:X.fn x=true∨X.env.scope.names.lookup x=some .local:=by first | exact .inl rfl | exact .inr rfl | assumption):PG X (.Name x pos) (aN i):=by
 intro pins s σ H v u Q I r h;exact wpAny_assign_Name (Fv I hN hi hx r (fun s' I'=>⟨_,H,I',h⟩) hf)
def Zme:TGs:=fun vs σ H Q=>vs=[]∧Q σ H
def Hj (t:TG) (u:TGs):TGs:=fun vs σ H Q=>∃ v r,vs=v :: r∧t v σ H fun σ' H'=>u r σ' H' Q
theorem M5:PGs X [] Zme:=by
 intro pins s σ H vs us Q I r h;obtain ⟨e,h⟩:=h;subst e;cases r;exact assignInOrder_nil ⟨σ,H,I,h⟩
theorem rB {e:Expr}{es:List Expr}{t:TG}{u:TGs} (h1:PG X e t) (h2:PGs X es u)
  (hs:(assignEach (e :: es) X.env).map (·.2)=assign e X.env :: (assignEach es X.env).map (·.2):=by rfl):PGs X (e :: es) (Hj t u):=by
 intro pins s σ H vs us Q I r h;obtain ⟨v,vr,e1,h⟩:=h;subst e1;cases r with
 | cons r rr=>
  rw [hs];refine assignInOrder_cons (gM (h1 pins s σ H _ _ _ I r h) fun _ s1 ⟨σ1,H1,I1,q1⟩=>?_);exact h2 pins s1 σ1 H1 _ _ Q I1 rr q1
def Zmd (K:aC) (n:Nat) (t:TGs):TG:=fun v σ H Q=>∃ a xs,v=.ref a∧gU K H a xs∧xs.length=n∧t xs σ H Q
theorem Wy {es:List Expr}{k:Nat}{t:TGs}{n:Nat} (hc:X.calm=true) (h:PGs X es t)
  (hn:(assignEach es X.env).length=n:=by rfl) (hst:(assignEach es X.env).findIdx? (·.1)=none:=by rfl):PG X (.Tuple es k pos) (Zmd X.K n t):=by
 intro pins s σ H v u Q I r hw;obtain ⟨a,xs,e1,hq,hl,hw⟩:=hw;subst e1;cases r;obtain ⟨its,rv,ht,hz⟩:=I.tuple hq;refine assign_Tuple_tuple (I.ok.hd hc) ht (by simp [hn,← hl,rv.length]) hst fun h' hx=>?_;have I1:Inv X pins σ H { s with heap:=h' }:=I.kept (t':=s.toks) fun b o e=>hx b o (Nat.ne_of_lt (Heap.lt_size e)) e;exact h pins _ σ H xs _ Q I1 (by simpa using rv) hw
def Mz (to ti:TE) (t:Zqg):TG:=fun v σ H Q=>to σ H fun o H1=>ti σ H1 fun i H2=>t o i v H2 fun H3=>Q σ H3
theorem wA {o i:Expr}{to ti:TE}{t:Zqg} (ho:PE X o to) (hi:PE X i ti) (hs:Zvp X t)
  (ha:∀ v,assign (.Subscript o i pos) X.env v=(do
   let ov ← holding [v] (eval o X.env)
   let iv ← holding [v,ov] (eval i X.env)
   standAt pos
   holding [v,ov,iv] (setItem ov iv v)
   release [v,ov,iv] []):=by intro _;rfl):PG X (.Subscript o i pos) (Mz to ti t):=by
 intro pins s σ H v u Q I r h;rw [ha];refine wpAny_bind (wpAny_holding (gM (ho pins s σ H _ I h) fun ov s1 ⟨x,H1,I1,r1,q1⟩=>?_));refine wpAny_bind (wpAny_holding (gM (hi pins s1 σ H1 _ I1 q1) fun iv s2 ⟨y,H2,I2,r2,q2⟩=>?_));refine wpAny_bind (wpAny_standAt (wpAny_bind (wpAny_holding (gM (hs pins s2 σ H2 x y v ov iv u _ I2 r1 r2 r q2) fun _ s3 ⟨H3,I3,q3⟩=>?_))));exact wpAny_release ⟨σ,H3,I3,q3⟩
def bD (te:TE) (g:TG):TS:=fun D σ H=>te σ H fun x H1=>g x σ H1 D.nx
theorem wz {tg e:Expr}{te:TE}{g:TG} (he:PE X e te) (hg:PG X tg g) (hs:swapsWithSole [tg] e pos.line X.env=pure false:=by rfl) (hw:swappedStores [tg] e X.env=pure none:=by rfl)
  (h1:(assignEach [tg] X.env).map (·.2)=[assign tg X.env]:=by rfl):PS X (.Assign [tg] e pos) (bD te g):=by
 intro pins s σ H D I h;refine wpAny_Assign_stores (gM (he pins s σ H _ I h) fun v s1 ⟨x,H1,I1,r1,q1⟩=>?_) hs hw;rw [h1];exact gM (hg pins s1 σ H1 x v _ I1 r1 q1) fun _ s2 q=>q
theorem Zd6 {i:Nat}{x:Str}{e:Expr}{te:TE}{pos':Pos} (hN:X.N.Nodup) (hi:X.N[i]? =some x) (hx:Loc X.env.scope x) (he:PE X e te) (hs:swapsWith e (some (.Name x pos')) pos.line X.env=pure false:=by rfl) (hf:X.fn x=true∨X.env.scope.names.lookup x=some .local:=by first | exact .inl rfl | exact .inr rfl | assumption):
  PS X (.Assign [.Name x pos'] e pos) (bD te (aN i)):=by
 intro pins s σ H D I h;refine wpAny_Assign_Name (gM (he pins s σ H _ I h) fun v s1 ⟨y,H1,I1,r1,q1⟩=>?_) hs;exact Fv I1 hN hi hx r1 (fun s2 I2=>⟨_,H1,I2,q1⟩) hf
def Zrd (i:Nat) (te:TE) (ti:TIp):TS:=fun D σ H=>∃ x,σ[i]? =some (some x)∧te σ H fun y H1=>ti x y H1 fun z H2=>D.nx (σ.set i (some z)) H2
theorem Zrq {i:Nat}{x:Str}{e:Expr}{te:TE}{op:Operator}{ti:TIp}{pos':Pos} (hN:X.N.Nodup) (hi:X.N[i]? =some x) (hx:Loc X.env.scope x) (he:PE X e te) (ho:PIp X op ti) (hf:X.fn x=true∨X.env.scope.names.lookup x=some .local:=by first | exact .inl rfl | exact .inr rfl | assumption):
  PS X (.AugAssign (.Name x pos') op e pos) (Zrd i te ti):=by
 intro pins s σ H D I h;obtain ⟨v,e1,h⟩:=h;obtain ⟨m,hn,hl⟩:=I.loc;have vis:Vis X.env.scope x:=by rcases hx with k | k;exact .inl k;exact .inr (.inl k)
 obtain ⟨u,r,l⟩:=hl i x v hi e1 vis;refine wpAny_AugAssign_Name ?_;have go:wpAny (model X.prog X.w) X.A (eval e X.env) (fun w s₂=>wpAny (model X.prog X.w) X.A (inplaceOp op u w) (fun r s₃=>wpAny (model X.prog X.w) X.A (storeName X.env x r) (fun _=>SP X pins D .next) X.xe s₃) X.xe s₂) X.xe s:=by
  refine gM (he pins s σ H _ I h) fun w s1 ⟨y,H1,I1,r1,q1⟩=>?_;refine gM (ho pins s1 σ H1 v y u w _ I1 r r1 q1) fun z s2 ⟨zv,H2,I2,r2,q2⟩=>?_;exact Fv I2 hN hi hx r2 (fun s3 I3=>⟨_,H2,I3,q2⟩) hf
 rcases l with ⟨hk,hm⟩ | ⟨hk,c,hc,hcell⟩
 ·exact wpAny_loadName_local I.ok.kind hk hn hm go
 ·rcases hk with hk | hk
  ·exact wpAny_loadName_cell I.ok.kind hk hc hcell go
  ·rcases hx with k | k
   ·have:X.env.scope.names.lookup x=some .free:=hk;rw [k] at this;cases this
   ·have:X.env.scope.names.lookup x=some .free:=hk;rw [k] at this;cases this
def ipI (f:Int→Int→Int):TIp:=fun x y H Q=>∃ i j,x=.int i∧y=.int j∧Q (.int (f i j)) H
theorem Zsj:PIp X .Add (ipI fun i j=>i + j):=by
 intro pins s σ H x y v u Q I r1 r2 h;obtain ⟨i,j,e1,e2,q⟩:=h;subst e1;subst e2;obtain ⟨t,rfl⟩:=r1;obtain ⟨t',rfl⟩:=r2;exact iadd_int ⟨.int _,H,I.tok _,⟨_,rfl⟩,q⟩
end
section
variable {X:Cx}{pos:Pos}
def Zj8 (c:TT) (tb:TS):TS:=fun D σ H=>∃ W:Nat→St→Hp→Prop,(∃ m,W m σ H)∧∀ m σ H,W m σ H→
 c σ H fun b H1=>if b=true then ∃ N:St→Hp→Prop,(∀ σ' H',N σ' H'→∃ m',m' < m∧W m' σ' H')∧tb { D with nx:=N,ct:=N,bk:=D.nx } σ H1 else D.nx σ H1
theorem Zk2 {c:Expr}{body:List Stmt}{tc:TT}{tb:TS} (hp:PassesOwn (model X.prog X.w) X.A X.env X.xe) (hc:PT X c tc) (hb:Zk X body tb):PS X (.While c body [] pos) (Zj8 tc tb):=by
 intro pins s σ H D I h;obtain ⟨W,⟨m0,w0⟩,turn⟩:=h;refine wpAny_While (codeAny_whileLoop (fun n s'=>∃ σ' H',Inv X pins σ' H' s'∧W n σ' H') ?_ m0 ⟨σ,H,I,w0⟩);rintro n s1 ⟨σ1,H1,I1,w1⟩;refine wpAny_passesOwn hp (gM (hc pins s1 σ1 H1 _ I1 (turn n σ1 H1 w1)) fun b s2 ⟨H2,I2,q2⟩=>?_);cases b with
 | true=>
  obtain ⟨N,hN,q2⟩:=q2;rw [if_pos rfl];refine wpAny_passesOwn hp (gM (hb pins s2 σ1 H2 _ I2 q2) fun f s3 q3=>?_);cases f with
  | next=>
   obtain ⟨σ3,H3,I3,n3⟩:=q3;obtain ⟨m',hm,w3⟩:=hN σ3 H3 n3;exact ⟨m',hm,σ3,H3,I3,w3⟩
  | cont=>
   obtain ⟨σ3,H3,I3,n3⟩:=q3;obtain ⟨m',hm,w3⟩:=hN σ3 H3 n3;exact ⟨m',hm,σ3,H3,I3,w3⟩
  | brk=>exact q3
  | ret v=>exact q3
 | false=>
  rw [if_neg Bool.false_ne_true];exact wpAny_execs_nil ⟨σ1,H2,I2,q2⟩
end
structure It where
 go:Nat→Hp→Prop
 yld:Nat→Hp→V→Hp→Prop
 stop:Nat→Hp→Prop
def nM (X:Cx) (pins:List (Addr×Obj)) (H:Hp) (b:Addr):Prop:=
 H b=none∧b≠X.env.locals∧b∉X.fs∧(b∈X.ex∨X.s₀.heap.objs.size≤b)∧(∀ x c,X.env.cells.lookup x=some c→c≠b)∧∀ p∈X.pn ++ pins,p.1≠b
theorem Inv.Yb {X:Cx}{pins:List (Addr×Obj)}{σ:St}{H H':Hp}{s:Shared}{b:Addr} (I:Inv X pins σ H s) (hb:s.heap.objs.size≤b) (hn:H' b=none):nM X pins H' b:=by
 refine ⟨hn,Nat.ne_of_gt (Nat.lt_of_lt_of_le I.lt hb),I.Zvz hb,.inr (Nat.le_trans I.sz hb),fun x c e z=>?_,fun p hp z=>?_⟩
 ·obtain ⟨v,q⟩:=I.cell x c e;exact absurd (Nat.lt_of_lt_of_le q.lt (by rw [z];exact hb)) (Nat.lt_irrefl _)
 ·exact absurd (Nat.lt_of_lt_of_le (Heap.lt_size (I.pin p hp).1) (by rw [z];exact hb)) (Nat.lt_irrefl _)
structure Turn (P:Program) (w:World) (K:aC) (tg:Expr) (J:It) (fp:List Addr) (it:Addr) (tn:Nat→Heap→Prop):Prop where
  mem:it∈fp
  obj:∀ i h,tn i h→∀ b∈fp,∃ o,h.get? b=some o∧∀ v,o.data≠.cell v
  keep:∀ i h h',tn i h→(∀ b∈fp,∀ o,h.get? b=some o→h'.get? b=some o)→tn i h'
  item:∀ (X:Cx),X.prog=P→X.w=w→X.K=K→X.calm=true→∀ (i:Nat) (pins:List (Addr×Obj)) (s:Shared) (σ:St) (H:Hp) (E:Value→Shared→Prop),Inv X pins σ H s→(∀ b∈fp,nM X pins H b)→tn i s.heap→J.go i H→
    wpAny (model P w) X.A (pyNext (.ref it)) (fun r s1=>∃ u,r=some u∧
      wpAny (model P w) X.A (letOwnedTupleGo tg (.ref it) u) (fun _ s2=>∃ x H',Inv X pins σ H' s2∧RelV x u∧J.yld i H x H'∧tn (i + 1) s2.heap∧∀ b∈fp,H' b=none) E s1) E s
  done:∀ (X:Cx),X.prog=P→X.w=w→X.K=K→X.calm=true→∀ (i:Nat) (pins:List (Addr×Obj)) (s:Shared) (σ:St) (H:Hp) (E:Value→Shared→Prop),Inv X pins σ H s→(∀ b∈fp,nM X pins H b)→tn i s.heap→J.stop i H→
    wpAny (model P w) X.A (pyNext (.ref it)) (fun r s1=>r=none∧Inv X pins σ H s1) E s
  self:∀ (A:Around) (i:Nat) (s:Shared) (Q:Value→Shared→Prop) (E:Value→Shared→Prop),tn i s.heap→Q (.ref it) s→wpAny (model P w) A (pyIter (.ref it)) Q E s
abbrev TI:=St→Hp→(It→Hp→Prop)→Prop
def PIE (X:Cx) (pins:List (Addr×Obj)) (σ:St) (tg:Expr) (R:It→Hp→Prop) (itv:Value) (s2:Shared):Prop:=
 ∃ (it:Addr) (fp:List Addr) (tn:Nat→Heap→Prop) (J:It) (H':Hp),itv=.ref it∧Inv X pins σ H' s2∧Turn X.prog X.w X.K tg J fp it tn∧tn 0 s2.heap∧(∀ b∈fp,nM X pins H' b)∧R J H'
def PI (X:Cx) (tg iter:Expr) (wi:TI):Prop:=
 ∀ (pins:List (Addr×Obj)) (s:Shared) (σ:St) (H:Hp) (R:It→Hp→Prop),Inv X pins σ H s→wi σ H R→
  wpAny (model X.prog X.w) X.A (eval iter X.env) (fun v s1=>wpAny (model X.prog X.w) X.A (pyIter v) (PIE X pins σ tg R) X.xe s1) X.xe s
theorem Zmb {M:Model}{A:Around}{E:Value→Shared→Prop}{s:Shared}{tg:Expr}{it:Addr}{u:Value}{o:Obj}{n:String}{vs:Array Value}{Q:Unit→Shared→Prop} (ho:s.heap.get? it=some o) (hc:o.cls=.type n) (hd:o.data=.fields vs)
    (hn:["enumerate","zip","dict_itemiterator","dict_reverseitemiterator","odict_iterator","itertools.zip_longest","itertools.pairwise"].contains n=false) (hQ:Q () s):wpAny M A (letOwnedTupleGo tg (.ref it) u) Q E s:=by
  unfold letOwnedTupleGo;cases tg<;>first
    | exact wpAny_pure hQ
    | (cases u<;>first
        | exact wpAny_pure hQ
        | (refine wpAny_bind (wpAny_load ho ?_)
           rw [hc,hd];show wpAny M A (if (["enumerate","zip","dict_itemiterator","dict_reverseitemiterator","odict_iterator","itertools.zip_longest","itertools.pairwise"].contains n && vs[0]? == some (rawInt _))=true then _ else _) Q E s;rw [if_neg (by intro h;rw [hn,Bool.false_and] at h;cases h)];exact wpAny_pure hQ))
def Itl (K:aC) (a:Addr):It:=
 ⟨fun i H=>∃ xs x,cU K H a xs∧xs[i]? =some x,fun i H x H'=>H'=H∧∀ xs,cU K H a xs→xs[i]? =some x,fun i H=>∃ xs,cU K H a xs∧xs.length≤i⟩
def Itr (lo:Int) (n:Nat):It:=⟨fun i _=>i < n,fun i H x H'=>H'=H∧x=.int (lo + i),fun i _=>n≤i⟩
theorem Zgo {P:Program}{w:World}{K:aC}{tg:Expr} (a it:Addr):Turn P w K tg (Itl K a) [it] it (fun i h=>h.IsListIter it a i) where
  mem:=by simp
  obj:=fun i h st b hb=>by
    have e:b=it:=by simpa using hb
    subst e;obtain ⟨o,e,c,d⟩:=st;exact ⟨o,e,fun v z=>by rw [d] at z;cases z⟩
  keep:=fun i h h' st k=>st.at fun o e=>k it (by simp) o e
  item:=by
    intro X hP hw hK hc i pins s σ H E I hf st hg;subst hP hw hK;obtain ⟨xs,x,hq,hx⟩:=hg;obtain ⟨its,rv,p,hz⟩:=I.list hq;obtain ⟨u,hu,ru⟩:=rv.get hx;obtain ⟨f0,f1,f2,f3,f4,f5⟩:=hf it (by simp);refine wpAny_pyNext_list_item st p.isList (x:=u) (by simpa using hu) fun h' st' sb=>?_;have I1:Inv X pins σ H { s with heap:=h' }:=I.turned (t':=s.toks) (fun b o hb e=>(sb.2 b hb).trans e) f0 f1 f3 f4 f5;obtain ⟨o,e,c,d⟩:=id st';exact ⟨u,rfl,Zmb (s:={ s with heap:=h' }) e c d (by decide) ⟨x,H,I1,ru,⟨rfl,fun ys hy=>by rw [I.Zad hy hq];exact hx⟩,st',fun b hb=>(hf b hb).1⟩⟩
  done:=by
    intro X hP hw hK hc i pins s σ H E I hf st hg;subst hP hw hK;obtain ⟨xs,hq,hx⟩:=hg;obtain ⟨its,rv,p,hz⟩:=I.list hq;obtain ⟨f0,f1,f2,f3,f4,f5⟩:=hf it (by simp);have hl:=rv.length;exact wpAny_pyNext_list_end (I.ok.hd hc) st p.isList (by simp;omega) fun h' eb=>⟨rfl,I.turned (t':=s.toks) (fun b o hb e=>eb b o hb e) f0 f1 f3 f4 f5⟩
  self:=fun _ _ _ _ _ st h=>wpAny_pyIter_listiter st h
theorem Zc2 {P:Program}{w:World}{K:aC}{tg:Expr} (it:Addr) (lo:Int) (n:Nat):Turn P w K tg (Itr lo n) [it] it (fun i h=>IsRangeIter h it (lo + (i:Nat) * 1) ((n:Int) - (i:Nat)) 1) where
  mem:=by simp
  obj:=fun i h st b hb=>by
    have e:b=it:=by simpa using hb
    subst e;exact ⟨_,st,fun v z=>by
      have z':Data.fields _=Data.cell v:=z;cases z'⟩
  keep:=fun i h h' st k=>k it (by simp) _ st
  item:=by
    intro X hP hw hK hc i pins s σ H E I hf st hg;subst hP hw hK;obtain ⟨f0,f1,f2,f3,f4,f5⟩:=hf it (by simp);have W:=Walks.range (prog:=X.prog) (w:=X.w) (I.ok.hd hc) it lo 1 n;refine W.item i s _ _ hg st fun v h' tk hv st' kk=>?_;obtain ⟨t,rfl⟩:=hv;have I1:Inv X pins σ H { s with heap:=h',toks:=tk }:=I.turned (fun b o hb e=>kk b o (by simpa using hb) e) f0 f1 f3 f4 f5;refine ⟨_,rfl,Zmb (s:={ s with heap:=h',toks:=tk }) (n:="range_iterator") st' rfl rfl (by decide) ⟨.int (lo + i),H,I1,⟨t,?_⟩,⟨rfl,rfl⟩,st',fun b hb=>(hf b hb).1⟩⟩;rw [Int.mul_one]
  done:=by
    intro X hP hw hK hc i pins s σ H E I hf st hg;subst hP hw hK;obtain ⟨f0,f1,f2,f3,f4,f5⟩:=hf it (by simp);exact wpAny_pyNext_range_end (I.ok.hd hc) st (by have:n≤i:=hg;omega) fun h' eb=>⟨rfl,I.turned (t':=s.toks) (fun b o hb e=>eb b o hb e) f0 f1 f3 f4 f5⟩
  self:=fun _ _ _ _ _ st h=>wpAny_pyIter_rangeiter st h
end L2
namespace L2
open PySem PySem.Spec PyProof.Rows
section
variable {X:Cx}{tg:Expr}
def vp (K:aC) (tl:TE):TI:=fun σ H R=>tl σ H fun x H1=>∃ a,x=.ref a∧(∃ xs,cU K H1 a xs)∧R (Itl K a) H1
theorem nU {l:Expr}{tl:TE} (hl:PE X l tl):PI X tg l (vp X.K tl):=by
 intro pins s σ H R I h;refine gM (hl pins s σ H _ I h) fun v s1 ⟨x,H1,I1,r1,q1⟩=>?_;obtain ⟨a,e,⟨xs,hq⟩,q⟩:=q1;subst e;cases r1;obtain ⟨its,rv,p,hz⟩:=I1.list hq;refine wpAny_pyIter_list p.isList ?_;refine ⟨s1.heap.objs.size,[s1.heap.objs.size],_,_,H1,rfl,I1.kept (t':=s1.toks) fun b o e=>Heap.get?_push_of_some _ e,Zgo a _,⟨_,Heap.get?_push_size _ rfl,rfl,rfl⟩,fun b hb=>?_,q⟩;have e:b=s1.heap.objs.size:=by simpa using hb
 subst e;exact I1.Yb (Nat.le_refl _) (I1.hok.fresh (Nat.le_refl _))
theorem Zjs {pins:List (Addr×Obj)}{σ:St}{H:Hp}{s:Shared}{R:It→Hp→Prop}{E:Value→Shared→Prop}{lo hi:Int}{t u v:Tok}{tk:Nat} (I:Inv X pins σ H s) (h1:-(2 ^ 62)≤lo) (h2:lo < 2 ^ 62) (h3:-(2 ^ 62)≤hi) (h4:hi < 2 ^ 62)
  (q:R (Itr lo (hi - lo).toNat) H):wpAny (model X.prog X.w) X.A (pyIter (.ref s.heap.objs.size)) (PIE X pins σ tg R) E { s with heap:=s.heap.push { cls:=.type "range",data:=.fields #[.int lo t,.int hi u,.int 1 v] },toks:=tk }:=by
 refine wpAny_pyIter_range (IsRange.new ..) (small_one h1 h2 h3 h4) ?_;have I1:Inv X pins σ H { s with heap:=s.heap.push { cls:=.type "range",data:=.fields #[.int lo t,.int hi u,.int 1 v] },toks:=tk }:=I.kept fun b o e=>Heap.get?_push_of_some _ e;refine ⟨(s.heap.push { cls:=.type "range",data:=.fields #[.int lo t,.int hi u,.int 1 v] }).objs.size,[(s.heap.push { cls:=.type "range",data:=.fields #[.int lo t,.int hi u,.int 1 v] }).objs.size],_,_,H,rfl,
  I1.kept (t':=tk) fun b o e=>Heap.get?_push_of_some _ e,Zc2 _ lo (hi - lo).toNat,?_,fun b hb=>?_,q⟩
 ·have e1:lo + ((0:Nat):Int) * 1=lo:=by simp
  have e2:(((hi - lo).toNat:Nat):Int) - ((0:Nat):Int)=Builtin.Range.rangeSize lo hi 1:=by rw [rangeSize_one];split<;>omega
  show IsRangeIter _ _ (lo + ((0:Nat):Int) * 1) ((((hi - lo).toNat:Nat):Int) - ((0:Nat):Int)) 1;rw [e1,e2];exact Heap.get?_push_size _ rfl
 ·have e:b=(s.heap.push { cls:=.type "range",data:=.fields #[.int lo t,.int hi u,.int 1 v] }).objs.size:=by simpa using hb
  subst e;exact I1.Yb (Nat.le_refl _) (I1.hok.fresh (Nat.le_refl _))
def Lr (ta:TA):TI:=fun σ H R=>ta σ H fun vs H1=>∃ j:Int,vs=[.int j]∧-(2 ^ 62)≤j∧j < 2 ^ 62∧R (Itr 0 j.toNat) H1
theorem tV {a:Expr}{ta:TA}{p pos:Pos} (hg:Gl X "range") (hm:X.mg "range"=none) (ha:PA X [a] ta) (hs:starEach [a] X.env=[(false,eval a X.env)]:=by rfl):PI X tg (.Call (.Name "range" p) [a] [] pos) (Lr ta):=by
 intro pins s σ H R I h;refine Call_ (PL I hg hm boot_range (PyProof.Rows.callWith_type1 (gM (ha pos pins s σ H _ I h) fun us s1 ⟨vs,H1,I1,r1,q1⟩=>?_) hs rfl));obtain ⟨j,e,q1,q2,q⟩:=q1;subst e;cases r1 with
 | cons r rr=>
  cases rr;obtain ⟨t,rfl⟩:=r;exact call_range_1 (Zjs I1 (by omega) (by omega) q1 q2 (by simpa using q))
def Fq (wi:TI) (g:TG) (tb:TS):TS:=fun D σ H=>wi σ H fun J H1=>∃ W:Nat→Nat→St→Hp→Prop,(∃ m,W 0 m σ H1)∧∀ i m σ H,W i m σ H→
 (J.stop i H∧D.nx σ H)∨(J.go i H∧∃ N:St→Hp→Prop,(∀ σ' H',N σ' H'→∃ m',m' < m∧W (i + 1) m' σ' H')∧∀ x H',J.yld i H x H'→g x σ H' fun σ2 H2=>tb { D with nx:=N,ct:=N,bk:=D.nx } σ2 H2)
def qw (fp:List Addr) (h:Heap):List (Addr×Obj):=fp.filterMap fun b=>(h.get? b).map fun o=>(b,o)
theorem jJ {fp:List Addr}{h:Heap}{b:Addr}{o:Obj} (hb:b∈fp) (e:h.get? b=some o):(b,o)∈qw fp h:=List.mem_filterMap.mpr ⟨b,hb,by rw [e];rfl⟩
theorem Cw {fp:List Addr}{h:Heap}{p:Addr×Obj} (hp:p∈qw fp h):p.1∈fp∧h.get? p.1=some p.2:=by
 obtain ⟨b,hb,e⟩:=List.mem_filterMap.mp hp;cases q:h.get? b with
 | none=>rw [q] at e;cases e
 | some o=>
  rw [q] at e;have e':(b,o)=p:=Option.some.inj e;subst e';exact ⟨hb,q⟩
theorem Inv.pinned {pins:List (Addr×Obj)}{σ:St}{H:Hp}{s:Shared}{fp:List Addr} (I:Inv X pins σ H s) (hf:∀ b∈fp,nM X pins H b) (ho:∀ b∈fp,∃ o,s.heap.get? b=some o∧∀ v,o.data≠.cell v):Inv X (pins ++ qw fp s.heap) σ H s:=
 I.nT fun p hp=>(List.mem_append.mp hp).elim (fun z=>I.pin p (List.mem_append_right _ z)) fun z=>by
  obtain ⟨hb,e⟩:=Cw z;obtain ⟨f0,f1,f2,_⟩:=hf p.1 hb;obtain ⟨o,e',d⟩:=ho p.1 hb;rw [e] at e';cases e';exact ⟨e,f0,f1,f2,d⟩
theorem Inv.Fp {pins pl:List (Addr×Obj)}{σ:St}{H:Hp}{s:Shared} (I:Inv X (pins ++ pl) σ H s):Inv X pins σ H s:=I.nT fun p hp=>I.pin p (List.mem_append_right _ (List.mem_append_left _ hp))
theorem rZ {iter:Expr}{body:List Stmt}{wi:TI}{g:TG}{tb:TS}{pos:Pos} (hp:PassesOwn (model X.prog X.w) X.A X.env X.xe) (hc:X.calm=true) (hi:PI X tg iter wi) (hg:PG X tg g) (hb:Zk X body tb)
  (hs:∀ x,foldedSetIterable iter X.env x=pure x:=by intro _;rfl):PS X (.For tg iter body [] pos) (Fq wi g tb):=by
 intro pins s σ H D I h;refine wpAny_For (gM (hi pins s σ H _ I h) fun v s1 h1=>gM h1 fun itv s2 h2=>?_) hs;obtain ⟨it,fp,tn,J,H2,e,I2,T,st2,f2,W,⟨m0,w0⟩,turn⟩:=h2;subst e;have stat:∀ {H':Hp},(∀ b∈fp,H' b=none)→∀ b∈fp,nM X pins H' b:=fun hn b hb=>⟨hn b hb,(f2 b hb).2⟩;refine codeAny_forLoop_any (fun n s'=>∃ i σ' H',Inv X pins σ' H' s'∧tn i s'.heap∧(∀ b∈fp,H' b=none)∧W i n σ' H') ?_ m0 ⟨0,σ,H2,I2,st2,fun b hb=>(f2 b hb).1,w0⟩;rintro n s3 ⟨i,σ3,H3,I3,st3,fr3,w3⟩;rcases turn i n σ3 H3 w3 with ⟨stop,qn⟩ | ⟨go,N,hN,step⟩
 ·refine wpAny_passesOwn hp (gM (T.done X rfl rfl rfl hc i pins s3 σ3 H3 X.xe I3 (stat fr3) st3 stop) fun r s4 ⟨hr,I4⟩=>?_);subst hr;exact wpAny_execs_nil ⟨σ3,H3,I4,qn⟩
 ·refine wpAny_passesOwn hp (gM (T.item X rfl rfl rfl hc i pins s3 σ3 H3 X.xe I3 (stat fr3) st3 go) fun r s4 ⟨u,hr,h4⟩=>?_);subst hr;refine wpAny_passesOwn hp (gM h4 fun _ s5 ⟨x,H5,I5,r5,y5,st5,fr5⟩=>?_);have I5':=I5.pinned (stat fr5) (T.obj _ _ st5);refine wpAny_passesOwn hp (gM (hg _ s5 σ3 H5 x u _ I5' r5 (step x H5 y5)) fun _ s6 ⟨σ6,H6,I6,q6⟩=>?_);refine wpAny_passesOwn hp (gM (hb _ s6 σ6 H6 _ I6 q6) fun f s7 q7=>?_);have again:∀ {σ7:St}{H7:Hp},Inv X (pins ++ qw fp s5.heap) σ7 H7 s7→N σ7 H7→∃ m,m < n∧∃ i σ' H',Inv X pins σ' H' s7∧tn i s7.heap∧(∀ b∈fp,H' b=none)∧W i m σ' H':=fun {σ7 H7} I7 n7=>by
   obtain ⟨m',hm,w7⟩:=hN σ7 H7 n7;refine ⟨m',hm,i + 1,σ7,H7,I7.Fp,T.keep _ _ _ st5 fun b hb o e=>(I7.pin (b,o) (List.mem_append_right _ (List.mem_append_right _ (jJ hb e)))).1,fun b hb=>?_,w7⟩;obtain ⟨o,e,d⟩:=T.obj _ _ st5 b hb;exact (I7.pin (b,o) (List.mem_append_right _ (List.mem_append_right _ (jJ hb e)))).2.1
  cases f with
  | next=>obtain ⟨σ7,H7,I7,n7⟩:=q7;exact again I7 n7
  | cont=>obtain ⟨σ7,H7,I7,n7⟩:=q7;exact again I7 n7
  | brk=>obtain ⟨σ7,H7,I7,q7⟩:=q7;exact ⟨σ7,H7,I7.Fp,q7⟩
  | ret v=>obtain ⟨x7,σ7,H7,I7,r7,q7⟩:=q7;exact ⟨x7,σ7,H7,I7.Fp,r7,q7⟩
end
theorem Zmh {K:aC}{a:Addr}{xs:List V}{g:TG}{tb:TS}{D:Ends}{σ:St}{H:Hp} (Pv:Nat→St→Hp→Prop) (h0:Pv 0 σ H) (hl:∀ i σ H,i≤xs.length→Pv i σ H→cU K H a xs)
  (hs:∀ i x σ H,xs[i]? =some x→Pv i σ H→g x σ H fun σ2 H2=>tb { D with nx:=Pv (i + 1),ct:=Pv (i + 1),bk:=D.nx } σ2 H2) (hd:∀ σ H,Pv xs.length σ H→D.nx σ H):
  ∃ W:Nat→Nat→St→Hp→Prop,(∃ m,W 0 m σ H)∧∀ i m σ H,W i m σ H→
   ((Itl K a).stop i H∧D.nx σ H)∨((Itl K a).go i H∧∃ N:St→Hp→Prop,(∀ σ' H',N σ' H'→∃ m',m' < m∧W (i + 1) m' σ' H')∧∀ x H',(Itl K a).yld i H x H'→g x σ H' fun σ2 H2=>tb { D with nx:=N,ct:=N,bk:=D.nx } σ2 H2):=by
 refine ⟨fun i m σ H=>m=xs.length - i∧i≤xs.length∧Pv i σ H,⟨xs.length,by simp,Nat.zero_le _,h0⟩,?_⟩;rintro i m σ H ⟨rfl,hi,p⟩;have q:=hl i σ H hi p
 by_cases hlt:i < xs.length
 ·refine .inr ⟨⟨xs,xs[i],q,by simp [hlt]⟩,Pv (i + 1),fun σ' H' p'=>⟨xs.length - (i + 1),by omega,rfl,hlt,p'⟩,fun x H' y=>?_⟩;obtain ⟨e,y⟩:=y;subst e;exact hs i x σ _ (y xs q) p
 ·have e:i=xs.length:=by omega
  subst e;exact .inl ⟨⟨xs,q,Nat.le_refl _⟩,hd σ H p⟩
theorem Zii {lo:Int}{n:Nat}{g:TG}{tb:TS}{D:Ends}{σ:St}{H:Hp} (Pv:Nat→St→Hp→Prop) (h0:Pv 0 σ H)
  (hs:∀ i σ H,i < n→Pv i σ H→g (.int (lo + i)) σ H fun σ2 H2=>tb { D with nx:=Pv (i + 1),ct:=Pv (i + 1),bk:=D.nx } σ2 H2) (hd:∀ σ H,Pv n σ H→D.nx σ H):
  ∃ W:Nat→Nat→St→Hp→Prop,(∃ m,W 0 m σ H)∧∀ i m σ H,W i m σ H→
   ((Itr lo n).stop i H∧D.nx σ H)∨((Itr lo n).go i H∧∃ N:St→Hp→Prop,(∀ σ' H',N σ' H'→∃ m',m' < m∧W (i + 1) m' σ' H')∧∀ x H',(Itr lo n).yld i H x H'→g x σ H' fun σ2 H2=>tb { D with nx:=N,ct:=N,bk:=D.nx } σ2 H2):=by
 refine ⟨fun i m σ H=>m=n - i∧i≤n∧Pv i σ H,⟨n,by simp,Nat.zero_le _,h0⟩,?_⟩;rintro i m σ H ⟨rfl,hi,p⟩
 by_cases hlt:i < n
 ·refine .inr ⟨hlt,Pv (i + 1),fun σ' H' p'=>⟨n - (i + 1),by omega,rfl,hlt,p'⟩,fun x H' y=>?_⟩;obtain ⟨e,y⟩:=y;subst e y;exact hs i σ _ hlt p
 ·have e:i=n:=by omega
  subst e;exact .inl ⟨Nat.le_refl _,hd σ H p⟩
end L2
namespace L2
open PySem PySem.Spec PyProof.Rows
abbrev R2:=V→V→Hp→VK→Prop
def zy (X:Cx) (f:Value→Value→Sem Value) (r:R2):Prop:=
 ∀ (pins:List (Addr×Obj)) (s:Shared) (σ:St) (H:Hp) (x y:V) (v u:Value) (Q:VK),Inv X pins σ H s→RelV x v→RelV y u→r x y H Q→
  wpAny (model X.prog X.w) X.A (f v u) (EP X pins σ Q) X.xe s
def UnR (X:Cx) (f:Value→Sem Value) (r:V→Hp→VK→Prop):Prop:=
 ∀ (pins:List (Addr×Obj)) (s:Shared) (σ:St) (H:Hp) (x:V) (v:Value) (Q:VK),Inv X pins σ H s→RelV x v→r x H Q→
  wpAny (model X.prog X.w) X.A (f v) (EP X pins σ Q) X.xe s
def HX (X:Cx) (f:Value) (r:List V→Hp→VK→Prop):Prop:=
 ∀ (pins:List (Addr×Obj)) (s:Shared) (σ:St) (H:Hp) (xs:List V) (us:List Value) (Q:VK),Inv X pins σ H s→Vals xs us→r xs H Q→
  wpAny (model X.prog X.w) X.A (call f us) (EP X pins σ Q) X.xe s
def ZDs (X:Cx) (r:V→Hp→(Bool→Hp→Prop)→Prop):Prop:=
 ∀ (pins:List (Addr×Obj)) (s:Shared) (σ:St) (H:Hp) (x:V) (v:Value) (Q:Bool→Hp→Prop),Inv X pins σ H s→RelV x v→r x H Q→
  wpAny (model X.prog X.w) X.A (truthy v) (TP X pins σ Q) X.xe s
def bA (r:R2) (ta tb:TE):TE:=fun σ H Q=>ta σ H fun x H1=>tb σ H1 fun y H2=>r x y H2 Q
def tUn (r:V→Hp→VK→Prop) (ta:TE):TE:=fun σ H Q=>ta σ H fun x H1=>r x H1 Q
def rI (C:Int→Int→Prop) (g:Int→Int→V):R2:=fun x y H Q=>∃ i j,x=.int i∧y=.int j∧C i j∧Q (g i j) H
def nO (g:Int→Int→V):R2:=fun x y H Q=>∃ i j,x=.int i∧y=.int j∧Q (g i j) H
def rU (g:Int→V):V→Hp→VK→Prop:=fun x H Q=>∃ i,x=.int i∧Q (g i) H
section
variable {X:Cx}{a b c:Expr}{ta tb tc:TE}{pos:Pos}
theorem Ztm (ha:PE X a ta) (hb:PE X b tb) {pins:List (Addr×Obj)}{s:Shared}{σ:St}{H:Hp}{R:V→V→Hp→Prop} (I:Inv X pins σ H s)
  (h:ta σ H fun x H1=>tb σ H1 fun y H2=>R x y H2) {Q:Value→Shared→Prop}{f:Value→Value→Sem Value}
  (hf:∀ v u s2 x y H2,Inv X pins σ H2 s2→RelV x v→RelV y u→R x y H2→wpAny (model X.prog X.w) X.A (f v u) Q X.xe s2):
  wpAny (model X.prog X.w) X.A (eval a X.env) (fun v s₁=>wpAny (model X.prog X.w) X.A (eval b X.env) (fun u s₂=>wpAny (model X.prog X.w) X.A (f v u) Q X.xe s₂) X.xe s₁) X.xe s:=by
 refine gM (ha pins s σ H _ I h) fun v s1 ⟨x,H1,I1,r1,q1⟩=>?_;refine gM (hb pins s1 σ H1 _ I1 q1) fun u s2 ⟨y,H2,I2,r2,q2⟩=>?_;exact hf v u s2 x y H2 I2 r1 r2 q2
theorem aX {op:Operator}{r:R2} (ho:zy X (binaryOp op) r) (ha:PE X a ta) (hb:PE X b tb):PE X (.BinOp a op b pos) (bA r ta tb):=by
 intro pins s σ H Q I h;exact wpAny_BinOp (Ztm ha hb I h fun v u s2 x y H2 I2 rx ry q=>ho pins s2 σ H2 x y v u Q I2 rx ry q)
theorem Zuc {op:UnaryOp}{r:V→Hp→VK→Prop} (ho:UnR X (unaryOp op) r) (ha:PE X a ta):PE X (.UnaryOp op a pos) (tUn r ta):=by
 intro pins s σ H Q I h;exact UnaryOp_ (gM (ha pins s σ H _ I h) fun v s1 ⟨x,H1,I1,r1,q1⟩=>ho pins s1 σ H1 x v Q I1 r1 q1)
theorem opI {f:Value→Value→Sem Value}{C:Int→Int→Prop}{g:Int→Int→Int}
  (rule:∀ (i j:Int) (t u:Tok) (s:Shared) (Q:Value→Shared→Prop) (E:Value→Shared→Prop),C i j→Q (.int (g i j) s.toks) { s with toks:=s.toks + 1 }→wpAny (model X.prog X.w) X.A (f (.int i t) (.int j u)) Q E s):
  zy X f (rI C fun i j=>.int (g i j)):=by
 intro pins s σ H x y v u Q I rx ry h;obtain ⟨i,j,rfl,rfl,hc,q⟩:=h;obtain ⟨t,rfl⟩:=rx;obtain ⟨t',rfl⟩:=ry;exact rule i j t t' s _ _ hc ⟨.int (g i j),H,I.tok _,⟨_,rfl⟩,q⟩
theorem Zok {f:Value→Value→Sem Value}{g:Int→Int→Int}
  (rule:∀ (i j:Int) (t u:Tok) (s:Shared) (Q:Value→Shared→Prop) (E:Value→Shared→Prop),Q (.int (g i j) s.toks) { s with toks:=s.toks + 1 }→wpAny (model X.prog X.w) X.A (f (.int i t) (.int j u)) Q E s):
  zy X f (nO fun i j=>.int (g i j)):=by
 intro pins s σ H x y v u Q I rx ry h;obtain ⟨i,j,rfl,rfl,q⟩:=h;obtain ⟨t,rfl⟩:=rx;obtain ⟨t',rfl⟩:=ry;exact rule i j t t' s _ _ ⟨.int (g i j),H,I.tok _,⟨_,rfl⟩,q⟩
theorem Zol {f:Value→Value→Sem Value}{g:Int→Int→Bool}
  (rule:∀ (i j:Int) (t u:Tok) (s:Shared) (Q:Value→Shared→Prop) (E:Value→Shared→Prop),Q (.bool (g i j)) s→wpAny (model X.prog X.w) X.A (f (.int i t) (.int j u)) Q E s):
  zy X f (nO fun i j=>.bl (g i j)):=by
 intro pins s σ H x y v u Q I rx ry h;obtain ⟨i,j,rfl,rfl,q⟩:=h;obtain ⟨t,rfl⟩:=rx;obtain ⟨t',rfl⟩:=ry;exact rule i j t t' s _ _ ⟨.bl (g i j),H,I,rfl,q⟩
def KJ (i j:Int):Prop:=0 < j∧j < 1073741824
def Zh (i j:Int):Prop:=0≤j∧j≤1000000∧i.natAbs < 2 ^ 64
def QV (i j:Int):Prop:=(-(2 ^ 64) < i∧i < 2 ^ 64)∨(-(2 ^ 64) < j∧j < 2 ^ 64)
theorem QV.ok {i j:Int} (h:QV i j):IntMulOk i j:=by
 rcases h with ⟨h1,h2⟩ | ⟨h1,h2⟩
 ·exact .of_left (intBits_le_64 h1 h2)
 ·exact .of_right (intBits_le_64 h1 h2)
theorem Zc1 (k:Nat):(0:Int)≤2 ^ k:=by
 rw [two_pow_cast];exact Int.natCast_nonneg _
theorem kO:zy X (binaryOp .Add) (nO fun i j=>.int (i + j)):=Zok fun _ _ _ _ _ _ _ q=>add_int q
theorem Bm:zy X (binaryOp .Sub) (nO fun i j=>.int (i - j)):=Zok fun _ _ _ _ _ _ _ q=>sub_int q
theorem Ju:zy X (binaryOp .Mult) (rI QV fun i j=>.int (i * j)):=opI fun _ _ _ _ _ _ _ hc q=>mul_int q hc.ok
theorem pH:zy X (binaryOp .FloorDiv) (rI KJ fun i j=>.int (i / j)):=opI fun i j _ _ _ _ _ hc q=>by
 have h1:(0:Int) < j:=hc.1;have h2:j < 1073741824:=hc.2;exact floordiv_int (by omega) (by rw [Int.fdiv_eq_ediv_of_nonneg i (by omega)];exact q) (.inl (PyProof.noPylong_small (by omega)))
theorem fW:zy X (binaryOp .Mod) (rI (fun _ j=>0 < j) fun i j=>.int (i % j)):=opI fun i j _ _ _ _ _ hc q=>by
 have h1:(0:Int) < j:=hc;exact mod_int' (by omega) (by rw [Int.fmod_eq_emod_of_nonneg i (by omega)];exact q)
theorem WL:zy X (binaryOp .Pow) (rI Zh fun i j=>.int (i ^ j.toNat)):=opI fun _ _ _ _ _ _ _ hc q=>pow_int_small hc.1 hc.2.1 hc.2.2 q
theorem Zkh:zy X (binaryOp .LShift) (rI Zh fun i j=>.int (i * 2 ^ j.toNat)):=opI fun _ _ _ _ _ _ _ hc q=>lshift_int_small hc.1 hc.2.1 hc.2.2 q
theorem Zdh:zy X (binaryOp .RShift) (rI (fun _ j=>0≤j) fun i j=>.int (i / 2 ^ j.toNat)):=opI fun i j _ _ _ _ _ hc q=>
 rshift_int hc (by rw [Int.fdiv_eq_ediv_of_nonneg i (Zc1 _)];exact q)
theorem O4:zy X (binaryOp .BitAnd) (nO fun i j=>.int (Builtin.bitAnd i j)):=Zok fun _ _ _ _ _ _ _ q=>and_int q
theorem Zud:zy X (binaryOp .BitOr) (nO fun i j=>.int (Builtin.bitOr i j)):=Zok fun _ _ _ _ _ _ _ q=>or_int q
theorem unI {f:Value→Sem Value}{g:Int→Int}
  (rule:∀ (i:Int) (t:Tok) (s:Shared) (Q:Value→Shared→Prop) (E:Value→Shared→Prop),Q (.int (g i) s.toks) { s with toks:=s.toks + 1 }→wpAny (model X.prog X.w) X.A (f (.int i t)) Q E s):
  UnR X f (rU fun i=>.int (g i)):=by
 intro pins s σ H x v Q I rx h;obtain ⟨i,rfl,q⟩:=h;obtain ⟨t,rfl⟩:=rx;exact rule i t s _ _ ⟨.int (g i),H,I.tok _,⟨_,rfl⟩,q⟩
theorem Zr5:UnR X (unaryOp .USub) (rU fun i=>.int (-i)):=unI fun _ _ _ _ _ q=>neg_int q
end
def Zu7:V→V→Bool
 | .non,.non=>true | .non,.int _=>true | .int _,.non=>true | .non,.bl _=>true | .bl _,.non=>true | .non,.str _=>true | .str _,.non=>true
 | .int _,.int _=>true | .bl _,.bl _=>true | .str _,.str _=>true | .byt _,.byt _=>true
 | .int _,.str _=>true | .str _,.int _=>true | .bl _,.str _=>true | .str _,.bl _=>true
 | _,_=>false
def Cv:R2:=fun x y H Q=>Zu7 x y=true∧Q (.bl (decide (x=y))) H
def rNe:R2:=fun x y H Q=>Zu7 x y=true∧Q (.bl (!decide (x=y))) H
theorem Zgd {i j:Int}:decide (V.int i=V.int j)=(i == j):=by
 rw [Bool.eq_iff_iff];simp
theorem Zmw {i j:Bool}:decide (V.bl i=V.bl j)=(i == j):=by
 rw [Bool.eq_iff_iff];simp
theorem Zgc {i j:Str}:decide (V.str i=V.str j)=(i == j):=by
 rw [Bool.eq_iff_iff];simp
theorem Zge {i j:Array UInt8}:decide (V.byt i=V.byt j)=(i.toList == j.toList):=by
 rw [Bool.eq_iff_iff];cases i;cases j;simp
section
variable {X:Cx}{a b c:Expr}{ta tb tc:TE}{pos:Pos}
theorem fH {pins:List (Addr×Obj)}{σ:St}{H:Hp}{s:Shared}{Q:VK}{k k':Bool} (I:Inv X pins σ H s) (q:Q (.bl k) H) (e:k=k'):EP X pins σ Q (.bool k') s:=by
 subst e;exact ⟨.bl k,H,I,rfl,q⟩
theorem lE:zy X (compareOp .Eq) Cv:=by
 intro pins s σ H x y v u Q I rx ry h;obtain ⟨hs,q⟩:=h;cases x with
 | non=>
  cases rx;cases y with
  | non=>cases ry;exact PySem.EqNone.eq_none_none (fH I q (by simp))
  | bl j=>cases ry;exact PySem.EqNone.eq_none_bool (fH I q (by simp))
  | int j=>obtain ⟨t',rfl⟩:=ry;exact PySem.EqNone.eq_none_int (fH I q (by simp))
  | str j=>obtain ⟨t',rfl⟩:=ry;exact PySem.EqNone.eq_none_str (fH I q (by simp))
  | _=>exact absurd (show false=true from hs) Bool.false_ne_true
 | bl i=>
  cases rx;cases y with
  | non=>cases ry;exact PySem.EqNone.eq_bool_none (fH I q (by simp))
  | bl j=>cases ry;exact eq_bool (fH I q Zmw)
  | str j=>obtain ⟨t',rfl⟩:=ry;exact PySem.EqMixed.eq_bool_str (fH I q (by simp))
  | _=>exact absurd (show false=true from hs) Bool.false_ne_true
 | int i=>
  obtain ⟨t,rfl⟩:=rx;cases y with
  | non=>cases ry;exact PySem.EqNone.eq_int_none (fH I q (by simp))
  | int j=>obtain ⟨t',rfl⟩:=ry;exact eq_int (fH I q Zgd)
  | str j=>obtain ⟨t',rfl⟩:=ry;exact PySem.EqMixed.eq_int_str (fH I q (by simp))
  | _=>exact absurd (show false=true from hs) Bool.false_ne_true
 | str i=>
  obtain ⟨t,rfl⟩:=rx;cases y with
  | non=>cases ry;exact PySem.EqNone.eq_str_none (fH I q (by simp))
  | bl j=>cases ry;exact PySem.EqMixed.eq_str_bool (fH I q (by simp))
  | int j=>obtain ⟨t',rfl⟩:=ry;exact PySem.EqMixed.eq_str_int (fH I q (by simp))
  | str j=>obtain ⟨t',rfl⟩:=ry;exact eq_str (fH I q Zgc)
  | _=>exact absurd (show false=true from hs) Bool.false_ne_true
 | byt i=>
  obtain ⟨t,rfl⟩:=rx;cases y with
  | byt j=>obtain ⟨t',rfl⟩:=ry;exact PySem.W.eq_bytes (fH I q Zge)
  | _=>exact absurd (show false=true from hs) Bool.false_ne_true
 | _=>cases y<;>exact absurd (show false=true from hs) Bool.false_ne_true
theorem ZZ:zy X (compareOp .NotEq) rNe:=by
 intro pins s σ H x y v u Q I rx ry h;obtain ⟨hs,q⟩:=h;cases x with
 | non=>
  cases rx;cases y with
  | non=>cases ry;exact PySem.EqNone.ne_none_none (fH I q (by simp))
  | bl j=>cases ry;exact PySem.EqNone.ne_none_bool (fH I q (by simp))
  | int j=>obtain ⟨t',rfl⟩:=ry;exact PySem.EqNone.ne_none_int (fH I q (by simp))
  | str j=>obtain ⟨t',rfl⟩:=ry;exact PySem.EqNone.ne_none_str (fH I q (by simp))
  | _=>exact absurd (show false=true from hs) Bool.false_ne_true
 | bl i=>
  cases rx;cases y with
  | non=>cases ry;exact PySem.EqNone.ne_bool_none (fH I q (by simp))
  | bl j=>cases ry;exact ne_bool (fH I q (congrArg not Zmw))
  | str j=>obtain ⟨t',rfl⟩:=ry;exact PySem.EqMixed.ne_bool_str (fH I q (by simp))
  | _=>exact absurd (show false=true from hs) Bool.false_ne_true
 | int i=>
  obtain ⟨t,rfl⟩:=rx;cases y with
  | non=>cases ry;exact PySem.EqNone.ne_int_none (fH I q (by simp))
  | int j=>obtain ⟨t',rfl⟩:=ry;exact ne_int (fH I q (congrArg not Zgd))
  | str j=>obtain ⟨t',rfl⟩:=ry;exact PySem.EqMixed.ne_int_str (fH I q (by simp))
  | _=>exact absurd (show false=true from hs) Bool.false_ne_true
 | str i=>
  obtain ⟨t,rfl⟩:=rx;cases y with
  | non=>cases ry;exact PySem.EqNone.ne_str_none (fH I q (by simp))
  | bl j=>cases ry;exact PySem.EqMixed.ne_str_bool (fH I q (by simp))
  | int j=>obtain ⟨t',rfl⟩:=ry;exact PySem.EqMixed.ne_str_int (fH I q (by simp))
  | str j=>obtain ⟨t',rfl⟩:=ry;exact ne_str (fH I q (congrArg not Zgc))
  | _=>exact absurd (show false=true from hs) Bool.false_ne_true
 | byt i=>
  obtain ⟨t,rfl⟩:=rx;cases y with
  | byt j=>obtain ⟨t',rfl⟩:=ry;exact PySem.W.ne_bytes (fH I q (congrArg not Zge))
  | _=>exact absurd (show false=true from hs) Bool.false_ne_true
 | _=>cases y<;>exact absurd (show false=true from hs) Bool.false_ne_true
theorem Bp:zy X (compareOp .Lt) (nO fun i j=>.bl (decide (i < j))):=Zol fun _ _ _ _ _ _ _ q=>lt_int q
theorem Zqt:zy X (compareOp .LtE) (nO fun i j=>.bl (decide (i≤j))):=Zol fun _ _ _ _ _ _ _ q=>le_int q
theorem Zfy:zy X (compareOp .Gt) (nO fun i j=>.bl (decide (j < i))):=Zol fun _ _ _ _ _ _ _ q=>gt_int q
theorem Zue:zy X (compareOp .GtE) (nO fun i j=>.bl (decide (j≤i))):=Zol fun _ _ _ _ _ _ _ q=>ge_int q
theorem Zrt:zy X (compareOp .Is) (fun x y H Q=>y=.non∧Q (.bl (decide (x=.non))) H):=by
 intro pins s σ H x y v u Q I rx ry h;obtain ⟨rfl,q⟩:=h;cases ry;refine is_none_gen (fH I q ?_);cases x<;>first
  | (cases rx;rfl)
  | (obtain ⟨t,rfl⟩:=rx;rfl)
theorem Zoi:zy X (compareOp .IsNot) (fun x y H Q=>y=.non∧Q (.bl (!decide (x=.non))) H):=by
 intro pins s σ H x y v u Q I rx ry h;obtain ⟨rfl,q⟩:=h;cases ry;refine isnot_none_gen (fH I q ?_);cases x<;>first
  | (cases rx;rfl)
  | (obtain ⟨t,rfl⟩:=rx;rfl)
def isObj:HO→Bool
 | .lst _=>true
 | .ins _ _ _=>true
 | _=>false
theorem JB {pins:List (Addr×Obj)}{s:Shared}{σ:St}{H:Hp}{a:Addr}{o:HO} (I:Inv X pins σ H s) (h:H a=some o) (p:isObj o=true):∃ ob,s.heap.get? a=some ob∧ob.cls≠.type "tuple":=by
 cases o with
 | lst xs=>
  obtain ⟨_,its,n,_,e⟩:xs.length≤sizeLine∧∃ (its:List Value) (n:Nat),Vals xs its∧s.heap.get? a=some { cls:=.type "list",data:=.seq its.toArray n }:=I.hok a _ h;exact ⟨_,e,(by show Value.type "list"≠.type "tuple";decide +kernel)⟩
 | ins C dx fs=>
  have x:=I.hok a _ h;obtain ⟨_,_,_,e,_⟩:=x;exact ⟨_,e,(by show Value.ref C≠.type "tuple";exact fun z=>by cases z)⟩
 | _=>exact absurd (show false=true from p) Bool.false_ne_true
theorem Er (b:Expr) {op:CmpOp} (h:op≠.In:=by decide) (h2:op≠.NotIn:=by decide):behindInMarks op b=false:=by
 have e1:(op == CmpOp.In)=false:=by cases op<;>first | rfl | exact absurd rfl h
 have e2:(op == CmpOp.NotIn)=false:=by cases op<;>first | rfl | exact absurd rfl h2
 cases b<;>simp [behindInMarks,e1,e2]
theorem yK {op:CmpOp}{r:R2} (ho:zy X (compareOp op) r) (ha:PE X a ta) (hb:PE X b tb) (hm:behindInMarks op b=false):PE X (.Compare a [op] [b] pos) (bA r ta tb):=by
 intro pins s σ H Q I h;exact wpAny_Compare1 (Ztm ha hb I h fun v u s2 x y H2 I2 rx ry q=>ho pins s2 σ H2 x y v u Q I2 rx ry q) hm
def cC (t:TE):TT:=fun σ H Q=>t σ H fun x H'=>∃ k,x=.bl k∧Q k H'
theorem Zny {op:CmpOp}{r:R2} (ho:zy X (compareOp op) r) (ha:PE X a ta) (hb:PE X b tb) (hm:behindInMarks op b=false):PT X (.Compare a [op] [b] pos) (cC (bA r ta tb)):=by
 intro pins s σ H Q I h;refine wpAny_isTrue_Compare1 (gM (ha pins s σ H _ I h) fun v s1 ⟨x,H1,I1,r1,q1⟩=>gM (hb pins s1 σ H1 _ I1 q1) fun u s2 ⟨y,H2,I2,r2,q2⟩=>
  gM (ho pins s2 σ H2 x y v u _ I2 r1 r2 q2) fun c s3 ⟨z,H3,I3,r3,k,e,q3⟩=>?_) hm
 subst e;cases r3;exact wpAny_truthy_bool ⟨H3,I3,q3⟩
def NZ (r r':R2) (ta tb tc:TE):TE:=fun σ H Q=>ta σ H fun x H1=>tb σ H1 fun y H2=>r x y H2 fun z H3=>∃ k,z=.bl k∧
 (if k=true then tc σ H3 fun w' H4=>r' y w' H4 Q else Q (.bl false) H3)
theorem Zkd {op op':CmpOp}{r r':R2} (ho:zy X (compareOp op) r) (ho':zy X (compareOp op') r') (ha:PE X a ta) (hb:PE X b tb) (hc:PE X c tc)
  (hm:lastMarks [op,op'] [b,c]=false:=by with_unfolding_all rfl):PE X (.Compare a [op,op'] [b,c] pos) (NZ r r' ta tb tc):=by
 intro pins s σ H Q I h;refine Compare_chain (gM (ha pins s σ H _ I h) fun v s1 ⟨x,H1,I1,r1,q1⟩=>chain_link (gM (hb pins s1 σ H1 _ I1 q1) fun u s2 ⟨y,H2,I2,r2,q2⟩=>
  gM (ho pins s2 σ H2 x y v u _ I2 r1 r2 q2) fun d s3 ⟨z,H3,I3,r3,k,e,q3⟩=>?_)) hm
 subst e;cases r3;refine wpAny_truthy_bool ?_;cases k with
 | false=>exact ite_ff ⟨.bl false,H3,I3,rfl,q3⟩
 | true=>exact ite_tt (chain_last (gM (hc pins s3 σ H3 _ I3 q3) fun w' s4 ⟨z',H4,I4,r4,q4⟩=>ho' pins s4 σ H4 y z' u w' Q I4 r2 r4 q4))
theorem Zk1 {op op':CmpOp}{r r':R2} (ho:zy X (compareOp op) r) (ho':zy X (compareOp op') r') (ha:PE X a ta) (hb:PE X b tb) (hc:PE X c tc)
  (hm:lastMarks [op,op'] [b,c]=false:=by with_unfolding_all rfl):PT X (.Compare a [op,op'] [b,c] pos) (cC (NZ r r' ta tb tc)):=by
 intro pins s σ H Q I h;refine isTrue_chain (gM (ha pins s σ H _ I h) fun v s1 ⟨x,H1,I1,r1,q1⟩=>test_link (gM (hb pins s1 σ H1 _ I1 q1) fun u s2 ⟨y,H2,I2,r2,q2⟩=>
  gM (ho pins s2 σ H2 x y v u _ I2 r1 r2 q2) fun d s3 ⟨z,H3,I3,r3,k,e,q3⟩=>?_)) hm
 subst e;cases r3;refine wpAny_truthy_bool ?_;cases k with
 | false=>
  obtain ⟨k',e',q'⟩:=q3;cases e';exact ite_ff ⟨H3,I3,q'⟩
 | true=>
  refine ite_tt (test_last (gM (hc pins s3 σ H3 _ I3 q3) fun w' s4 ⟨z',H4,I4,r4,q4⟩=>gM (ho' pins s4 σ H4 y z' u w' _ I4 r2 r4 q4) fun d' s5 ⟨z2,H5,I5,r5,k2,e2,q5⟩=>?_));subst e2;cases r5;exact wpAny_truthy_bool ⟨H5,I5,q5⟩
def Zn1 (K:aC) (x:V) (H:Hp) (k:Bool):Prop:=
 match x with
 | .non=>k=false
 | .bl b=>k=b
 | .int i=>k=(i != 0)
 | .str y=>y.length≤sizeLine∧k=((y.length:Int) != 0)
 | .byt y=>y.size≤sizeLine∧k=((y.size:Int) != 0)
 | .ref p=>(∃ xs,cU K H p xs∧k=!xs.isEmpty)∨(∃ xs,gU K H p xs∧k=!xs.isEmpty)∨∃ kvs,H p=some (.dK kvs)∧k=!kvs.isEmpty
 | _=>False
theorem Zeb {κ:Type}{kvs:List (κ×V)}{vs:List (κ×Value)} (r:KV kvs vs):(!vs.isEmpty)=!kvs.isEmpty:=by
 cases r<;>rfl
theorem Qi {xs:List V}{its:List Value} (r:Vals xs its):(!its.toArray.isEmpty)=!xs.isEmpty:=by
 cases r<;>simp
theorem JP:(sizeLine:Nat) < 2 ^ 63:=by rw [sizeLine_eq];decide
theorem Zr9:ZDs X (fun x H Q=>∃ k,Zn1 X.K x H k∧Q k H):=by
 intro pins s σ H x v Q I rx h;obtain ⟨k,e,q⟩:=h;have hl:=JP;have hs:sizeLine=16777216:=sizeLine_eq;cases x with
 | non=>
  cases rx;have e':k=false:=e;subst e';exact truthy_none ⟨H,I,q⟩
 | bl b=>
  cases rx;have e':k=b:=e;subst e';exact wpAny_truthy_bool ⟨H,I,q⟩
 | int i=>
  obtain ⟨t,rfl⟩:=rx;have e':k=(i != 0):=e;subst e';exact PySem.P.truthy_int ⟨H,I,q⟩
 | str y=>
  obtain ⟨t,rfl⟩:=rx;obtain ⟨hy,e'⟩:y.length≤sizeLine∧k=((y.length:Int) != 0):=e;subst e';exact PySem.P.truthy_str (by omega) ⟨H,I.tok _,q⟩
 | byt y=>
  obtain ⟨t,rfl⟩:=rx;obtain ⟨hy,e'⟩:y.size≤sizeLine∧k=((y.size:Int) != 0):=e;subst e';exact PySem.W.truthy_bytes (by omega) ⟨H,I.tok _,q⟩
 | ref p=>
  cases rx;have e':(∃ xs,cU X.K H p xs∧k=!xs.isEmpty)∨(∃ xs,gU X.K H p xs∧k=!xs.isEmpty)∨∃ kvs,H p=some (.dK kvs)∧k=!kvs.isEmpty:=e;rcases e' with ⟨xs,hx,e'⟩ | ⟨xs,hx,e'⟩ | ⟨kvs,hx,e'⟩
  ·subst e';obtain ⟨its,r,pl,hz⟩:=I.list hx;have hlen:=r.length;exact wpAny_truthy_list pl.isList (by simp only [List.size_toArray];omega) ⟨H,I.tok _,by rw [Qi r];exact q⟩
  ·subst e';obtain ⟨its,r,pl,hz⟩:=I.tuple hx;have hlen:=r.length;exact truthy_tuple pl (by simp only [List.size_toArray];omega) ⟨H,I.tok _,by rw [Qi r];exact q⟩
  ·subst e';obtain ⟨hz,hS,vs,r,m⟩:kvs.length≤sizeLine∧(p == sysModules)=false∧∃ vs,KV kvs vs∧s.heap.DictOf (d7 X.prog X.w) p vs:=I.hok p _ hx;have hlen:kvs.length=vs.length:=Paired.length r;exact wpAny_truthy_dict hS m (by omega) ⟨H,I.tok _,by rw [Zeb r];exact q⟩
 | _=>exact (show False from e).elim
theorem ZL (ha:PE X a ta) (he:∀ whole,isTrue a X.env whole=(do let v ← whole;standAt a.pos;holding [v] (truthy v))):
  PT X a (fun σ H Q=>ta σ H fun x H'=>∃ k,Zn1 X.K x H' k∧Q k H'):=by
 intro pins s σ H Q I h;exact isTrue_plain (gM (ha pins s σ H _ I h) fun v s1 ⟨x,H1,I1,r1,q1⟩=>Zr9 pins s1 σ H1 x v Q I1 r1 q1) (he _)
theorem O5:zy X (binaryOp .Add) (fun x y H Q=>∃ i j,x=.str i∧y=.str j∧i.length + j.length≤sizeLine∧Q (.str (i ++ j)) H):=by
 intro pins s σ H x y v u Q I rx ry h;obtain ⟨i,j,rfl,rfl,hz,q⟩:=h;obtain ⟨t,rfl⟩:=rx;obtain ⟨t',rfl⟩:=ry;exact add_str (fun t' tk=>⟨.str (i ++ j),H,I.tok _,⟨_,rfl⟩,q⟩) hz
theorem vals1 {x:V}{us:List Value} (r:Vals [x] us):∃ u,us=[u]∧RelV x u:=by
 cases r with
 | cons r1 r2=>cases r2;exact ⟨_,rfl,r1⟩
theorem vals2 {x y:V}{us:List Value} (r:Vals [x,y] us):∃ u w',us=[u,w']∧RelV x u∧RelV y w':=by
 cases r with
 | cons r1 r2=>
  cases r2 with
  | cons r3 r4=>cases r4;exact ⟨_,_,rfl,r1,r3⟩
end
end L2
namespace L2
open PySem PySem.Spec PyProof.Rows
structure Zfg (h:Heap) (x dx C:Addr) (mA:Str→Option Value):Prop where
 obj:h.get? x=some (PySem.W.instObj C dx)
 ns:h.Ns1 dx mA
 ne:dx≠x
theorem Zhs {h:Heap}{dx:Addr}{mA:Str→Option Value} (n:h.Ns1 dx mA):∃ od,h.get? dx=some od∧∀ name,PySem.W.lookIn name od=some (mA name):=by
 obtain ⟨o,es,ep,ho,hd,hk,_,hm⟩:=n;refine ⟨o,ho,fun name=>?_⟩;have e:=hm name;unfold nsFind findBy at e;rw [← Array.find?_toList] at e;unfold PySem.W.lookIn;rw [hd];dsimp only;split
 ·rename_i y q
  rw [q] at e;exact congrArg some e
 ·rename_i q
  rw [q] at e;have a:es.toList.any (·.refKey)=false:=by
   rw [List.any_eq_false];intro y hy;obtain ⟨z,t,hkey⟩:=hk y (Array.mem_toList_iff.mp hy);simp [DictEntry.refKey,hkey]
  have a':¬ es.toList.any (·.refKey)=true:=by rw [a];exact Bool.false_ne_true
  rw [if_neg a'];exact congrArg some e
theorem Zfg.look {h:Heap}{x dx C:Addr}{mA:Str→Option Value} (I:Zfg h x dx C mA):∃ od,PySem.W.InstAt h x (PySem.W.instObj C dx) C (some od)∧∀ name,PySem.W.lookIn name od=some (mA name):=
 let ⟨od,ho,hl⟩:=Zhs I.ns
 ⟨od,⟨I.obj,rfl,rfl,ho⟩,hl⟩
section
variable {prog:Program}{w:World}{A:Around}{E:Value→Shared→Prop}{s:Shared}{K:aC}{x dx C f:Addr}{mA:Str→Option Value}{name:Str}{v:Value}
theorem get_map {expr:Bool}{Q:Value→Shared→Prop} (X:K.In s.heap) (I:Zfg s.heap x dx C mA) (hg:PySem.W.plainGet K C name=true) (hh:PySem.W.hasDictIn K C=true)
  (ha:PySem.W.findIn K (.ref C) name=some none) (hv:mA name=some v) (hv':PySem.W.handedIn v=true) (h:Q v { s with toks:=s.toks + 1 }):
  wpAny (model prog w) A (getAttr (.ref x) name expr) Q E s:=by
 obtain ⟨od,J,hl⟩:=I.look;exact PySem.W.get_value X J (PySem.W.plainGet_of hg).1 (PySem.W.findObj_own hh ha rfl (by rw [hl,hv])) hv' h
theorem Zmc {pl:Sem Bool}{Q:Value×List Value→Shared→Prop} (X:K.In s.heap) (I:Zfg s.heap x dx C mA) (hg:PySem.W.plainGet K C name=true)
  (hf:PySem.W.findIn K (.ref C) name=some (some (.ref f))) (ht:PySem.W.isFn K (.ref f)=true) (hv:mA name=none) (h:Q (.ref f,[.ref x]) s):
  wpAny (model prog w) A (getMethod (.ref x) name pl) Q E s:=by
 obtain ⟨od,J,hl⟩:=I.look;exact PySem.W.method_fn X J (PySem.W.plainGet_of hg).1 (PySem.W.plainGet_of hg).2 hf (beq_iff_eq.mp ht) (by show (PySem.W.lookIn name od).map (·.isSome)=some false;rw [hl,hv];rfl) h
theorem Znf {ns:List Str}{Q:Unit→Shared→Prop} (X:K.In s.heap) (I:Zfg s.heap x dx C mA)
  (hs:PySem.W.findIn K (.ref C) "__setattr__"=some (some (.builtin "object.__setattr__"))) (hp:PySem.W.plainOver K C=true) (ht:PySem.W.takerIn K C name=some none) (hh:PySem.W.hasDictIn K C=true)
  (hw:PySem.Within mA ns) (hsz:ns.length≤sizeLine)
  (h:∀ h',Zfg h' x dx C (fun y=>if y=name then some v else mA y)→Heap.SameBut dx s.heap h'→Q () { s with heap:=h',toks:=s.toks + 2 }):
  wpAny (model prog w) A (setAttr (.ref x) name v) Q E s:=by
 obtain ⟨od,J,hl⟩:=I.look;refine PySem.W.set_plain X J hs (PySem.W.osa_open (s:={ s with toks:=s.toks + 1 }) (r:=none) X J hp ht fun b=>?_);obtain ⟨cd,hc,hd'⟩:=PySem.W.any_some hh;have hx:s.heap.get? x=some ⟨.ref C,some dx,.plain,#[]⟩:=I.obj;refine wpAny_bind (wpAny_pure (wpAny_bind (wpAny_bind (wpAny_loadPart hx (wpAny_bind (PySem.W.Looks.here (s:={ s with toks:=s.toks + 1 }) (PySem.W.looks_clsIn X hc) ?_))))));rw [hd'];refine wpAny_pure (a:=some dx) (wpAny_bind (wpAny_pure (wpAny_bind ?_)));refine wpAny_nsSet1 (s:={ s with toks:=s.toks + 1 }) I.ns fun h' hn2 hs2=>?_;obtain ⟨oD,esD,epD,hoD,hdD,hcD⟩:=hn2.count (PySem.Within.cons name v hw);refine wpAny_bind (wpAny_lookBehind hoD (by rw [hdD];exact pastItsLine_dict (Nat.le_trans hcD (by rw [List.length_cons];omega))) ?_);exact wpAny_pure (h _ ⟨(hs2.2 _ (Ne.symm I.ne)).trans I.obj,hn2,I.ne⟩ hs2)
theorem Zl1 {R:Result→Shared→Prop}{vs:List Value}{kw:List (Str×Value)} (X:K.In s.heap) (hm:PySem.W.makesIn K C=true)
  (hi:PySem.W.findIn K (.ref C) "__init__"=some (some (.ref f))) (hf:PySem.W.typeIn K (.ref f)=some (.type "function"))
  (h:codeAny (model prog w) (A.under (.builtin "type.__call__" ⟨.ref C :: vs,kw⟩)) (.call (.ref f) ⟨.ref (s.heap.objs.size + 1) :: vs,kw⟩) (PySem.W.InitBack (s.heap.objs.size + 1) R)
   { s with heap:=(s.heap.push PySem.W.emptyDict).push (PySem.W.instObj C s.heap.objs.size) }):
  codeAny (model prog w) A (.call (.ref C) ⟨vs,kw⟩) R s:=by
 obtain ⟨hh,g,d,t,os⟩:=s;exact PySem.W.make_core (PySem.W.makes_of X hm) (PySem.W.looks_findIn X hi) (fun self=>PySem.W.bind_fn X self hf) (.inl rfl) h
theorem Zhj {R:Result→Shared→Prop} (X:K.In s.heap) (hm:PySem.W.makesIn K C=true)
  (hi:PySem.W.findIn K (.ref C) "__init__"=some (some (.builtin "object.__init__")))
  (hb:∀ self,PySem.W.Looks (model prog w) s.heap (bindSpecial (.builtin "object.__init__") self) (.builtin "object.__init__",[self]))
  (h:codeAny (model prog w) (A.under (.builtin "type.__call__" ⟨[.ref C],[]⟩)) (.call (.builtin "object.__init__") ⟨[.ref (s.heap.objs.size + 1)],[]⟩) (PySem.W.InitBack (s.heap.objs.size + 1) R)
   { s with heap:=(s.heap.push PySem.W.emptyDict).push (PySem.W.instObj C s.heap.objs.size) }):
  codeAny (model prog w) A (.call (.ref C) ⟨[],[]⟩) R s:=by
 obtain ⟨hh,g,d,t,os⟩:=s;exact PySem.W.make_core (PySem.W.makes_of X hm) (PySem.W.looks_findIn X hi) hb (.inr ⟨rfl,rfl⟩) h
end
def bZ (f:Str) (v:V):List (Str×V)→List (Str×V)
 | []=>[(f,v)]
 | (g,x) :: r=>if g=f then (g,v) :: r else (g,x) :: bZ f v r
theorem Lh (f g:Str) (v:V):∀ fs:List (Str×V),(bZ f v fs).lookup g=if g=f then some v else fs.lookup g
 | []=>by
  show List.lookup g [(f,v)]=_
  by_cases h:g=f
  ·have hb:(g == f)=true:=beq_iff_eq.mpr h;simp only [List.lookup,hb,if_pos h]
  ·have hb:(g == f)=false:=beq_eq_false_iff_ne.mpr h;simp only [List.lookup,hb,if_neg h]
 | (k,x) :: r=>by
  have ih:=Lh f g v r;rw [show bZ f v ((k,x) :: r)=(if k=f then (k,v) :: r else (k,x) :: bZ f v r) from rfl]
  by_cases hk:k=f
  ·rw [if_pos hk]
   by_cases h:g=k
   ·have hb:(g == k)=true:=beq_iff_eq.mpr h;simp only [List.lookup,hb,if_pos (h.trans hk)]
   ·have hb:(g == k)=false:=beq_eq_false_iff_ne.mpr h;simp only [List.lookup,hb,if_neg (fun e:g=f=>h (e.trans hk.symm))]
  ·rw [if_neg hk]
   by_cases h:g=k
   ·have hb:(g == k)=true:=beq_iff_eq.mpr h;simp only [List.lookup,hb,if_neg (fun e:g=f=>hk (h.symm.trans e))]
   ·have hb:(g == k)=false:=beq_eq_false_iff_ne.mpr h;simp only [List.lookup,hb];exact ih
theorem JT (f:Str) (v:V):∀ fs:List (Str×V),f∈(bZ f v fs).map (·.1)∧∀ g,g∈fs.map (·.1)→g∈(bZ f v fs).map (·.1)
 | []=>⟨by simp [bZ],fun g h=>by simp at h⟩
 | (k,x) :: r=>by
  obtain ⟨i1,i2⟩:=JT f v r;rw [show bZ f v ((k,x) :: r)=(if k=f then (k,v) :: r else (k,x) :: bZ f v r) from rfl]
  by_cases hk:k=f
  ·rw [if_pos hk];subst hk;exact ⟨by simp,fun g h=>by simpa using h⟩
  ·rw [if_neg hk];refine ⟨?_,fun g h=>?_⟩
   ·rw [List.map_cons];exact List.mem_cons_of_mem _ i1
   ·rw [List.map_cons] at h ⊢;rcases List.mem_cons.mp h with e | e
    ·exact List.mem_cons.mpr (.inl e)
    ·exact List.mem_cons_of_mem _ (i2 g e)
theorem Ln (f:Str) (v:V):∀ fs:List (Str×V),(bZ f v fs).length≤fs.length + 1
 | []=>by simp [bZ]
 | (k,x) :: r=>by
  have ih:=Ln f v r;rw [show bZ f v ((k,x) :: r)=(if k=f then (k,v) :: r else (k,x) :: bZ f v r) from rfl]
  by_cases hk:k=f
  ·rw [if_pos hk,List.length_cons,List.length_cons];omega
  ·rw [if_neg hk,List.length_cons,List.length_cons];omega
theorem Di.some_of {v:V}{o:Option Value} (r:Di (some v) o):∃ u,o=some u∧RelV v u:=by
 cases o with
 | none=>exact (show False from r).elim
 | some u=>exact ⟨u,rfl,r⟩
theorem Di.none_of {o:Option Value} (r:Di none o):o=none:=by
 cases o with
 | none=>rfl
 | some u=>exact (show False from r).elim
theorem Zif {v:V}{u:Value} (r:RelV v u):PySem.W.handedIn u=true:=by
 cases v with
 | non=>cases (show u=Value.none from r);rfl
 | bl b=>cases (show u=Value.bool b from r);rfl
 | int i=>obtain ⟨t,e⟩:=(show ∃ t,u=Value.int i t from r);cases e;rfl
 | str x=>obtain ⟨t,e⟩:=(show ∃ t,u=Value.str x t from r);cases e;rfl
 | byt b=>obtain ⟨t,e⟩:=(show ∃ t,u=Value.bytes b t from r);cases e;rfl
 | flt b=>obtain ⟨t,e⟩:=(show ∃ t,u=Value.float b t from r);cases e;rfl
 | ref a=>cases (show u=Value.ref a from r);rfl
 | ty n=>cases (show u=Value.type n from r);rfl
section
variable {P:Program}{w:World}{H H':Hp}{h h':Heap}{a C dx:Addr}{fs fs':List (Str×V)}
theorem Nh (hok:zM P w H h) (e:H a=some (.ins C dx fs)):∃ mA,Zfg h a dx C mA∧(∀ f,Di (fs.lookup f) (mA f))∧PySem.Within mA (fs.map (·.1))∧fs.length≤1000∧H dx=some (.own a):=by
 obtain ⟨d,z,ne,ob,mA,n,r,q⟩:=(show jO P w H h a (.ins C dx fs) from hok a _ e);exact ⟨mA,⟨ob,n,ne⟩,r,q,z,d⟩
end
structure DN (K:aC) (C:Addr):Prop where
 pg:PySem.W.plainGet K C Str.empty=true
 hd:PySem.W.hasDictIn K C=true
 po:PySem.W.plainOver K C=true
 sa:PySem.W.findIn K (.ref C) "__setattr__"=some (some (.builtin "object.__setattr__"))
theorem DN.get {K:aC}{C:Addr} (c:DN K C) (f:Str):PySem.W.plainGet K C f=true:=c.pg
def bH (K:aC) (C:Addr) (f:Str):Prop:=PySem.W.findIn K (.ref C) f=some none
theorem bH.taker {K:aC}{C:Addr}{f:Str} (n:bH K C f):PySem.W.takerIn K C f=some none:=by
 unfold PySem.W.takerIn;rw [show PySem.W.findIn K (.ref C) f=some none from n];rfl
structure Con (K:aC) (C:Addr) (f:Str) (v:V) (u:Value):Prop where
 at_:PySem.W.findIn K (.ref C) f=some (some u)
 rel:RelV v u
 get:PySem.W.specialIn K u "__get__"=some none
 cp:PySem.W.copiedNames.contains f=false
structure Meth (K:aC) (C:Addr) (m:Str) (f:Addr):Prop where
 at_:PySem.W.findIn K (.ref C) m=some (some (.ref f))
 fn:PySem.W.isFn K (.ref f)=true
 kp:PySem.W.keepIn K (.ref f)=true
section
variable {X:Cx}{pins:List (Addr×Obj)}{σ:St}{H:Hp}{s:Shared}{a C dx:Addr}{fs:List (Str×V)}{f:Str}{v:V}{A:Around}{E:Value→Shared→Prop}
theorem Zel {b:Bool}{Q:Value→Shared→Prop} (I:Inv X pins σ H s) (e:H a=some (.ins C dx fs)) (c:DN X.K C) (n:bH X.K C f) (l:fs.lookup f=some v)
  (h:∀ u s',Inv X pins σ H s'→RelV v u→Q u s'):wpAny (model X.prog X.w) A (getAttr (.ref a) f b) Q E s:=by
 obtain ⟨mA,O,r,_,_,_⟩:=Nh I.hok e;obtain ⟨u,hu,ru⟩:=Di.some_of (v:=v) (o:=mA f) (by rw [← l];exact r f);exact get_map I.By O (c.get f) c.hd n hu (Zif ru) (h u _ (I.tok _) ru)
theorem Qq {m:Str}{g:Addr}{pl:Sem Bool}{Q:Value×List Value→Shared→Prop} (I:Inv X pins σ H s) (e:H a=some (.ins C dx fs)) (c:DN X.K C) (k:Meth X.K C m g) (l:fs.lookup m=none)
  (h:Q (.ref g,[.ref a]) s):wpAny (model X.prog X.w) A (getMethod (.ref a) m pl) Q E s:=by
 obtain ⟨mA,O,r,_,_,_⟩:=Nh I.hok e;have hn:mA m=none:=Di.none_of (by rw [← l];exact r m);exact Zmc I.By O (c.get m) k.at_ k.fn hn h
theorem Zch {y:V}{u:Value}{Q:Unit→Shared→Prop} (I:Inv X pins σ H s) (e:H a=some (.ins C dx fs)) (c:DN X.K C) (n:bH X.K C f) (hl:fs.length < 1000) (ry:RelV y u)
  (h:∀ s',Inv X pins σ (upd H a (.ins C dx (bZ f y fs))) s'→Q () s'):wpAny (model X.prog X.w) A (setAttr (.ref a) f u) Q E s:=by
 obtain ⟨mA,O,r,wi,_,ho⟩:=Nh I.hok e;have hz:(fs.map (·.1)).length≤sizeLine:=by rw [bu,sizeLine_eq];omega
 refine Znf I.By O c.sa c.po n.taker c.hd wi hz fun h' O' sb=>h _ ?_;have hd:∃ o,h'.get? dx=some o:=let ⟨o,_,_,e',_⟩:=O'.ns;⟨o,e'⟩
 refine I.write (x:=a) (e:=dx) (by rw [e];exact True.intro) (.inr ho) (fun b q hb z=>(sb.2 b hb).trans z) hd ?_;refine ⟨by rw [aB O.ne];exact ho,?_,O.ne,O'.obj,_,O'.ns,fun g=>?_,fun g hg=>?_⟩
 ·have:=Ln f y fs;omega
 ·show Di ((bZ f y fs).lookup g) (if g=f then some u else mA g);rw [Lh]
  by_cases q:g=f
  ·rw [if_pos q,if_pos q];exact ry
  ·rw [if_neg q,if_neg q];exact r g
 ·by_cases q:g=f
  ·rw [q];exact (JT f y fs).1
  ·refine (JT f y fs).2 g (wi g fun z=>hg ?_);show (if g=f then some u else mA g)=none;rw [if_neg q];exact z
theorem Inv.made (I:Inv X pins σ H s):Inv X pins σ (upd (upd H s.heap.objs.size (.own (s.heap.objs.size + 1))) (s.heap.objs.size + 1) (.ins C s.heap.objs.size []))
  { s with heap:=(s.heap.push PySem.W.emptyDict).push (PySem.W.instObj C s.heap.objs.size) }:=by
 have e1:(s.heap.push PySem.W.emptyDict).get? s.heap.objs.size=some PySem.W.emptyDict:=Heap.get?_push_size s.heap rfl;have e2:((s.heap.push PySem.W.emptyDict).push (PySem.W.instObj C s.heap.objs.size)).get? (s.heap.objs.size + 1)=some (PySem.W.instObj C s.heap.objs.size):=by
  have:=Heap.get?_push_size (s.heap.push PySem.W.emptyDict) (o:=PySem.W.instObj C s.heap.objs.size) rfl
  rwa [Heap.size_push] at this
 have e3:(s.heap.push PySem.W.emptyDict).Ns s.heap.objs.size (fun _=>none):=⟨PySem.W.emptyDict,#[],_,e1,rfl,(fun e he=>absurd he (by simp)),fun _=>rfl⟩;have I1:=I.laid (a:=s.heap.objs.size) (o:=.own (s.heap.objs.size + 1)) (h':=s.heap.push PySem.W.emptyDict) (t':=s.toks) (fun b u q=>Heap.get?_push_of_some _ q) (Nat.le_refl _) ⟨_,e1⟩;refine I1.laid (a:=s.heap.objs.size + 1) (o:=.ins C s.heap.objs.size []) (t':=s.toks) (fun b u q=>Heap.get?_push_of_some _ q) (Nat.le_of_eq (Heap.size_push _ _)) ?_;have ne:s.heap.objs.size≠s.heap.objs.size + 1:=Nat.ne_of_lt (Nat.lt_succ_self _);refine ⟨by rw [aB ne,aq],Nat.zero_le _,ne,e2,fun _=>none,(Heap.Ns1.of_empty e3).at fun o q=>Heap.get?_push_of_some _ q,fun _=>True.intro,fun y hy=>absurd rfl hy⟩
theorem Zqb {prog:Program}{w:World}{env:Env}{e:Expr}{f:Str}{pos:Pos}{s:Shared}{Q:Value→Shared→Prop} (hb:attributeBase e f env (eval e env)=eval e env)
  (h:wpAny (model prog w) A (eval e env) (fun o s₁=>wpAny (model prog w) A (getAttr o f true) Q E s₁) E s):wpAny (model prog w) A (eval (.Attribute e f pos) env) Q E s:=
 Attribute_any_ h (by rw [arm_eval_Attribute,hb])
end
def bx (K:aC) (ta:TE) (f:Str):TE:=fun σ H Q=>ta σ H fun x H1=>∃ a C dx fs v,x=.ref a∧H1 a=some (.ins C dx fs)∧DN K C∧bH K C f∧fs.lookup f=some v∧Q v H1
def gO (K:aC) (ta tv:TE) (f:Str):TS:=fun D σ H=>tv σ H fun y H1=>ta σ H1 fun x H2=>∃ a C dx fs,x=.ref a∧H2 a=some (.ins C dx fs)∧DN K C∧bH K C f∧fs.length < 1000∧
 D.nx σ (upd H2 a (.ins C dx (bZ f y fs)))
section
variable {X:Cx}{o e value:Expr}{f:Str}{pos pos' tpos:Pos}{ta tv:TE}
theorem aJ (he:PE X e ta) (hb:attributeBase e f X.env (eval e X.env)=eval e X.env):PE X (.Attribute e f pos) (bx X.K ta f):=by
 intro pins s σ H Q I h;refine Zqb hb (gM (he pins s σ H _ I h) fun u s1 ⟨x,H1,I1,rx,a,C,dx,fs,v,ex,ea,c,n,l,q⟩=>?_);subst ex;obtain rfl:u=Value.ref a:=rx;exact Zel I1 ea c n l fun u' s2 I2 ru=>⟨v,H1,I2,ru,q⟩
theorem cg (ha:PE X o ta) (hv:PE X value tv) (hs:swapsWith value (some (.Attribute o f pos')) pos.line X.env=pure false):PS X (.Assign [.Attribute o f pos'] value pos) (gO X.K ta tv f):=by
 intro pins s σ H D I h;refine plainObj_wpAny_Assign_Attribute (gM (hv pins s σ H _ I h) fun u s1 ⟨y,H1,I1,ry,q⟩=>gM (ha pins s1 σ H1 _ I1 q) fun ov s2 ⟨x,H2,I2,rx,a,C,dx,fs,ex,ea,c,n,l,q2⟩=>?_) hs;subst ex;obtain rfl:ov=Value.ref a:=rx;exact Zch I2 ea c n l ry fun s3 I3=>⟨σ,_,I3,q2⟩
end
section
variable {X:Cx}{pins:List (Addr×Obj)}{σ:St}{H:Hp}{s:Shared}{A:Around}{E:Value→Shared→Prop}{Q:Value→Shared→Prop}{c:Value}{b:Bool}
inductive Km (K:aC) (H:Hp):V→Value→Prop where
 | non:Km K H .non (.type "NoneType")
 | bl (x:Bool):Km K H (.bl x) (.type "bool")
 | int (i:Int):Km K H (.int i) (.type "int")
 | str (x:Str):Km K H (.str x) (.type "str")
 | flt (x:UInt64):Km K H (.flt x) (.type "float")
 | lst {a:Addr}{xs:List V} (e:H a=some (.lst xs)):Km K H (.ref a) (.type "list")
 | xO {a:Addr}{o:Obj}{xs:List V} (e:H a=some (.xO o (.lst xs))):Km K H (.ref a) (.type "list")
 | tup {a:Addr}{xs:List V} (e:H a=some (.tup xs)):Km K H (.ref a) (.type "tuple")
 | dK {a:Addr}{kvs:List (Key×V)} (e:H a=some (.dK kvs)):Km K H (.ref a) (.type "dict")
 | dT {a:Addr}{kvs:List (List Key×V)} (e:H a=some (.dT kvs)):Km K H (.ref a) (.type "dict")
 | ins {a C dx:Addr}{fs:List (Str×V)} (e:H a=some (.ins C dx fs)) (cl:DN K C) (ha:PySem.W.findIn K (.ref C) "__class__"=some (some (.builtin "object.__class__")))
   (hn:PySem.W.specialIn K (.builtin "object.__class__") "__get__"=some (some (.builtin "getset_descriptor.__get__"))) (htk:PySem.W.takesIn K (.builtin "object.__class__")=some true)
   (hm:PySem.W.mroIn K C (.type "object")=some true):Km K H (.ref a) (.ref C)
theorem Zhv {x:V}{u t:Value} (I:Inv X pins σ H s) (rx:RelV x u) (ty:Km X.K H x t) (e:PySem.W.kitOne X.K t c=some b) (h:∀ tk,Q (.bool b) { s with toks:=tk }):
  wpAny (model X.prog X.w) A (call (.builtin "isinstance") [u,c]) Q E s:=by
 cases ty with
 | non=>cases (show u=Value.none from rx);exact PySem.W.kia_one PySem.W.kitx_none I.By True.intro e (fun z=>nomatch z) h
 | bl y=>cases (show u=Value.bool y from rx);exact PySem.W.kia_one PySem.W.kitx_bool I.By True.intro e (fun z=>nomatch z) h
 | int i=>obtain ⟨t,q⟩:=(show ∃ t,u=Value.int i t from rx);cases q;exact PySem.W.kia_one PySem.W.kitx_int I.By True.intro e (fun z=>nomatch z) h
 | str y=>obtain ⟨t,q⟩:=(show ∃ t,u=Value.str y t from rx);cases q;exact PySem.W.kia_one PySem.W.kitx_str I.By True.intro e (fun z=>nomatch z) h
 | flt y=>obtain ⟨t,q⟩:=(show ∃ t,u=Value.float y t from rx);cases q;exact PySem.W.kia_one PySem.W.kitx_float I.By True.intro e (fun z=>nomatch z) h
 | @lst a xs ea=>
  cases (show u=Value.ref a from rx);obtain ⟨_,_,n,_,h1⟩:=(show jO X.prog X.w H s.heap a (.lst xs) from I.hok a _ ea);exact PySem.W.kia_one PySem.W.kitx_list I.By ⟨_,h1,rfl⟩ e (fun z=>nomatch z) h
 | @xO a ob xs ea=>
  cases (show u=Value.ref a from rx);obtain ⟨_,_,_,n,_,h1⟩:=(show jO X.prog X.w H s.heap a (.xO ob (.lst xs)) from I.hok a _ ea);exact PySem.W.kia_one PySem.W.kitx_list I.By ⟨_,h1,rfl⟩ e (fun z=>nomatch z) h
 | @tup a xs ea=>
  cases (show u=Value.ref a from rx);obtain ⟨_,_,_,p⟩:=(show jO X.prog X.w H s.heap a (.tup xs) from I.hok a _ ea);obtain ⟨o,h1,h2,_⟩:=p;exact PySem.W.kia_one PySem.W.kitx_tuple I.By ⟨o,h1,h2⟩ e (fun z=>nomatch z) h
 | @dK a kvs ea=>
  cases (show u=Value.ref a from rx);obtain ⟨_,_,vs,_,p⟩:=(show jO X.prog X.w H s.heap a (.dK kvs) from I.hok a _ ea);obtain ⟨o,es,ep,h1,h2,_⟩:=p;exact PySem.W.kia_one PySem.W.kitx_dict I.By ⟨o,h1,h2.1⟩ e (fun z=>nomatch z) h
 | @dT a kvs ea=>
  cases (show u=Value.ref a from rx);obtain ⟨_,_,xs,_,o,es,ep,h1,h2,_⟩:=(show jO X.prog X.w H s.heap a (.dT kvs) from I.hok a _ ea);exact PySem.W.kia_one PySem.W.kitx_dict I.By ⟨o,h1,h2.1⟩ e (fun z=>nomatch z) h
 | @ins a C dx fs ea cl ha hn htk hm=>
  cases (show u=Value.ref a from rx);obtain ⟨mA,O,_⟩:=Nh I.hok ea;obtain ⟨od,J,_⟩:=O.look;exact PySem.W.kia_one (PySem.W.kitx_own (cl.get _) cl.hd ha hn htk hm) I.By J e (fun z=>nomatch z) h
end
end L2
namespace L2
open PySem PySem.Spec PyProof.Rows
structure Room (k:Nat) (A:Around):Prop where
 hd:A.handled=none
 dp:A.depth + 3 * k + 5 < recursionLimit
 un:A.units + 16 * k + 200 < cLine
theorem Room.mono {j k:Nat}{A:Around} (r:Room k A) (h:j≤k):Room j A:=⟨r.hd,by have:=r.dp;omega,by have:=r.un;omega⟩
theorem Room.deeper {k:Nat}{A:Around} (r:Room (k + 1) A) (env:Env):Room k (A.deeper env):=
 ⟨r.hd,by have:=r.dp;show A.depth + 1 + 3 * k + 5 < _;omega,by have:=r.un;show A.units + 3 + 16 * k + 200 < _;omega⟩
theorem Ze0 {A:Around}{C:Addr}{us:List Value}{kw:List (Str×Value)}:(A.under (.builtin "type.__call__" ⟨.ref C :: us,kw⟩)).depth=A.depth + 1:=by
 first | rfl | simp [Around.under,Code.weight,Code.isCreation,Code.isGuard,Code.isCaller,Code.frames,Code.isFrame,guardIds]
theorem Zdz {A:Around}{C:Addr}{us:List Value}{kw:List (Str×Value)}:(A.under (.builtin "type.__call__" ⟨.ref C :: us,kw⟩)).units=A.units + 1:=by
 first | rfl | simp [Around.under,Code.cUnits,Code.frames,Code.isFrame]
theorem Room.make {k:Nat}{A:Around} (r:Room (k + 1) A) (C:Addr) (us:List Value) (kw:List (Str×Value)):Room k (A.under (.builtin "type.__call__" ⟨.ref C :: us,kw⟩)):=
 ⟨r.hd,by have:=r.dp;rw [Ze0];omega,by have:=r.un;rw [Zdz];omega⟩
theorem Room.depth {k:Nat}{A:Around} (r:Room k A):A.depth < recursionLimit:=by have:=r.dp;omega
theorem Room.units {k:Nat}{A:Around} (r:Room k A):A.units + 64 < cLine:=by have:=r.un;omega
def aG:TA:=fun _ H Q=>Q [] H
def aj (ta:TE) (tr:TA):TA:=fun σ H Q=>ta σ H fun x H1=>tr σ H1 fun xs H2=>Q (x :: xs) H2
section
variable {X:Cx}{e:Expr}{es:List Expr}{te:TE}{t:TA}{pos:Pos}
theorem au:PA X [] aG:=fun _ _ _ _ H Q I h=>Calls.spliced_nil ⟨[],H,I,.nil,h⟩
theorem aa (ha:PE X e te) (hr:PA X es t) (hs:starEach (e :: es) X.env=(false,eval e X.env) :: starEach es X.env:=by rfl):PA X (e :: es) (aj te t):=by
 intro pos pins s σ H Q I h;rw [hs];show wpAny _ _ (spliced ((false,eval e X.env) :: backTo pos (starEach es X.env))) _ _ s;refine Calls.spliced_cons (gM (ha pins s σ H _ I h) fun u s1 ⟨x,H1,I1,r1,q1⟩=>?_);exact gM (hr pos pins s1 σ H1 _ I1 q1) fun us s2 ⟨xs,H2,I2,r2,q2⟩=>⟨x :: xs,H2,I2,.cons r1 r2,q2⟩
def fP (t:TA):TE:=fun σ H Q=>t σ H fun xs H1=>xs.length≤sizeLine∧∀ p,H1 p=none→Q (.ref p) (upd H1 p (.tup xs))
def iw (t:TA):TE:=fun σ H Q=>t σ H fun xs H1=>xs.length≤sizeLine∧∀ p,H1 p=none→Q (.ref p) (upd H1 p (.lst xs))
theorem cF {x1} (h:PA X es t):PE X (.Tuple es x1 pos) (fP t):=by
 intro pins s σ H Q I hq;refine wpAny_Tuple_spliced (gM (h pos pins s σ H _ I hq) fun us s1 ⟨xs,H1,I1,r,z,q⟩=>⟨by rw [← r.length];exact z,?_⟩);have hf:H1 s1.heap.objs.size=none:=I1.hok.fresh (Nat.le_refl _);refine ⟨.ref s1.heap.objs.size,upd H1 s1.heap.objs.size (.tup xs),I1.laid (t':=s1.toks) (fun b u e=>Heap.get?_push_of_some _ e) (Nat.le_refl _) ?_,rfl,q _ hf⟩;exact ⟨z,us,r,⟨_,Heap.get?_push_size _ rfl,rfl,_,rfl⟩⟩
theorem cY (h:PA X es t):PE X (.List es pos) (iw t):=by
 intro pins s σ H Q I hq;refine wpAny_List_spliced (gM (h pos pins s σ H _ I hq) fun us s1 ⟨xs,H1,I1,r,z,q⟩=>⟨by rw [← r.length];exact z,?_⟩);have hf:H1 s1.heap.objs.size=none:=I1.hok.fresh (Nat.le_refl _);refine ⟨.ref s1.heap.objs.size,upd H1 s1.heap.objs.size (.lst xs),I1.laid (t':=s1.toks) (fun b u e=>Heap.get?_push_of_some _ e) (Nat.le_refl _) ?_,rfl,q _ hf⟩;exact ⟨z,us,0,r,Heap.get?_push_size _ rfl⟩
end
abbrev Sp:=List V→Hp→VK→XK→Prop
abbrev Zn:=List Env→Hp→Shared→XK→Value→Shared→Prop
structure Zfk (P:Program) (w:World) (K:aC) (mg:Str→Option Value) (base:Heap) (A:Around) (outer:List Env) (s:Shared) (H:Hp):Prop where
 frames:A.frames=some outer
 mod:Mod K mg base
 bs:∀ b o,base.get? b=some o→s.heap.get? b=some o∧H b=none
 Zj:base.objs.size≤s.heap.objs.size
 wL:s.heap.FunFrames base outer
 frf:∀ b∈frs outer,H b=none
 hok:zM P w H s.heap
 bare:AllBare s.gens
def CE (outer:List Env) (P:Program) (w:World) (H:Hp) (s:Shared) (Q:VK) (u:Value) (s':Shared):Prop:=
 ∃ v H',s'.os=s.os∧AllBare s'.gens∧Un (frs outer) [] H H' s.heap s'.heap∧zM P w H' s'.heap∧RelV v u∧Q v H'
def CR (CX:Zn) (outer:List Env) (P:Program) (w:World) (H:Hp) (s:Shared) (Q:VK) (E:XK) (r:Result) (s':Shared):Prop:=
 match r with
 | .ok (.ret u)=>CE outer P w H s Q u s'
 | .ok _=>False
 | .error e=>CX outer H s E e s'
structure uK (P:Program) (w:World) (K:aC) (mg:Str→Option Value) (base:Heap) (CX:Zn) (k:Nat) (f:Addr) (fd:FuncData) (ps:List Str) (sp:Sp):Prop where
 len:∀ vs H Q E,sp vs H Q E→vs.length=ps.length
 run:∀ (A:Around) (outer:List Env) (s:Shared) (H:Hp) (args:Args) (us:List Value) (vs:List V) (Q:VK) (E:XK),Room k A→Zfk P w K mg base A outer s H→BindsTo s fd args (ps.zip us)→Vals vs us→sp vs H Q E→
  codeAny (model P w) A (.call (.ref f) args) (CR CX outer P w H s Q E) s
theorem Zfk.make {P:Program}{w:World}{K:aC}{mg:Str→Option Value}{base:Heap}{A:Around}{outer:List Env}{s:Shared}{H:Hp} (e:Zfk P w K mg base A outer s H) (C:Addr) (us:List Value) (kw:List (Str×Value)):
  Zfk P w K mg base (A.under (.builtin "type.__call__" ⟨.ref C :: us,kw⟩)) outer s H:=⟨by first | exact e.frames | (simpa [Around.under,Code.envs,Code.isFrame,pushEnvs] using e.frames),e.mod,e.bs,e.Zj,e.wL,e.frf,e.hok,e.bare⟩
section
variable {X:Cx}{pins:List (Addr×Obj)}{σ:St}{H:Hp}{s s':Shared}
theorem Inv.env0 (I:Inv X pins σ H s):Zfk X.prog X.w X.K X.mg X.base X.A X.stack s H:=
 ⟨I.ok.frames,I.ok.mod,I.bs,Nat.le_trans I.ok.Zj I.sz,I.stack,I.Fw,I.hok,I.bare⟩
theorem Inv.after {Q:VK}{u:Value} (I:Inv X pins σ H s) (h:CE X.stack X.prog X.w H s Q u s'):EP X pins σ Q u s':=by
 obtain ⟨v,H',os,bare,un,hok,r,q⟩:=h;obtain ⟨hh,g,d,t,os'⟩:=s';obtain rfl:os'=s.os:=os;exact ⟨v,H',I.call (h':=hh) (g':=g) (d':=d) (t':=t) (ch:=[]) un hok bare (fun b z=>absurd z (by simp)),r,q⟩
end
def aR (sp:Sp) (uM:List V) (E:XK) (t:TA):TE:=fun σ H Q=>t σ H fun vs H1=>sp (vs ++ uM) H1 Q E
def lC (C:Addr) (m:Str) (sp:Sp) (uM:List V) (E:XK) (ta:TE) (t:TA):TE:=fun σ H Q=>ta σ H fun x H1=>∃ a dx fs,x=.ref a∧H1 a=some (.ins C dx fs)∧fs.lookup m=none∧
 t σ H1 fun vs H2=>sp (x :: (vs ++ uM)) H2 Q E
def zB (C:Addr) (sp:Sp) (uM:List V) (E:XK) (t:TA):TE:=fun σ H Q=>t σ H fun vs H1=>∀ x dx,H1 x=none→H1 dx=none→dx≠x→
 sp (.ref x :: (vs ++ uM)) (upd (upd H1 dx (.own x)) x (.ins C dx [])) (fun v H2=>v=.non∧Q (.ref x) H2) E
def Binds (K:aC) (fd:FuncData) (ps:List Str) (ds:List Value):Prop:=
 ∀ (s:Shared) (us:List Value),K.In s.heap→(us ++ ds).length=ps.length→BindsTo s fd ⟨us,[]⟩ (ps.zip (us ++ ds))
theorem Binds.all {K:aC}{fd:FuncData}{ps:List Str} (h:∀ us:List Value,us.length=ps.length→bindArgs fd ⟨us,[]⟩=pure (ps.zip us)):Binds K fd ps []:=fun s us _ hl=>by
 rw [List.append_nil] at hl ⊢;exact .of_eq (h us hl)
def Passes (CX:Zn) (X:Cx) (E:XK):Prop:=∀ (pins:List (Addr×Obj)) (σ:St) (H:Hp) (s:Shared) (e:Value) (s':Shared),Inv X pins σ H s→CX X.stack H s E e s'→X.xe e s'
section
variable {X:Cx}{CX:Zn}{k:Nat}{f C:Addr}{fd:FuncData}{ps:List Str}{sp:Sp}{uM:List V}{ds:List Value}{E:XK}{x m:Str}{p pos apos:Pos}{e o:Expr}{es:List Expr}{ta:TE}{t:TA}
theorem Wn {pins:List (Addr×Obj)}{σ:St}{H:Hp}{s:Shared}{Q:VK}{us:List Value}{vs:List V} (F:uK X.prog X.w X.K X.mg X.base CX k f fd ps sp) (hr:Room k X.A) (hb:Binds X.K fd ps ds) (hd:Vals uM ds) (hx:Passes CX X E)
  (I:Inv X pins σ H s) (r:Vals vs us) (h:sp (vs ++ uM) H Q E):wpAny (model X.prog X.w) X.A (call (.ref f) us) (EP X pins σ Q) X.xe s:=by
 have r2:Vals (vs ++ uM) (us ++ ds):=r.append hd;have hl:(us ++ ds).length=ps.length:=by rw [← r2.length];exact F.len _ _ _ _ h
 refine wpAny_call (codeAny_mono (F.run X.A X.stack s H ⟨us,[]⟩ (us ++ ds) (vs ++ uM) Q E hr I.env0 (hb s us I.By hl) r2 h) fun r s' hq=>?_);cases r with
 | error e=>exact hx pins σ H s e s' I hq
 | ok fl=>
  cases fl with
  | ret u=>exact I.after hq
  | next=>exact False.elim hq
  | brk=>exact False.elim hq
  | cont=>exact False.elim hq
theorem uX (F:uK X.prog X.w X.K X.mg X.base CX k f fd ps sp) (hr:Room k X.A) (hg:Gl X x) (hm:X.mg x=some (.ref f)) (hk:PySem.W.keepIn X.K (.ref f)=true) (hb:Binds X.K fd ps ds) (hd:Vals uM ds) (hx:Passes CX X E)
  (ha:PA X (e :: es) t) (hdb:(x == ("__debug__":Str))=false:=by decide) (he:starEach (e :: es) X.env=(false,eval e X.env) :: starEach es X.env:=by rfl) (hpl:(backTo pos (starEach es X.env)).any (·.1)=false:=by rfl):
  PE X (.Call (.Name x p) (e :: es) [] pos) (aR sp uM E t):=by
 intro pins s σ H Q I h;refine wpAny_Call_Name_kw (tH I hg hm ?_ hdb);refine PySem.W.callWith_K (h₀:=X.base) I.ok.mod.kin hk (gM (ha pos pins s σ H _ I h) fun us s1 ⟨vs,H1,I1,r,q⟩=>⟨I1.By,?_⟩) he hpl;exact Wn F hr hb hd hx I1 r q
theorem qP {pl:Sem Bool} (he:PE X o ta) (c:DN X.K C) (hm:Meth X.K C m f) (F:uK X.prog X.w X.K X.mg X.base CX k f fd ps sp) (hr:Room k X.A) (hb:Binds X.K fd ps ds) (hd:Vals uM ds) (hx:Passes CX X E) (ha:PA X (e :: es) t)
  (hst:starEach (e :: es) X.env=(false,eval e X.env) :: starEach es X.env:=by rfl) (hpl:(backTo pos (starEach es X.env)).any (·.1)=false:=by rfl)
  (ht:eval (.Call (.Attribute o m apos) (e :: es) [] pos) X.env=(do
   let ov ← eval o X.env
   standAt apos.atName
   let (f,first) ← holding [ov] (getMethod ov m pl)
   callWith pos f first (backTo pos (starEach (e :: es) X.env)) (backToKw pos (keywordEach [] X.env))):=by rfl):
  PE X (.Call (.Attribute o m apos) (e :: es) [] pos) (lC C m sp uM E ta t):=by
 intro pins s σ H Q I h;refine PySem.W.methodCall_KW (pl:=pl) (gM (he pins s σ H _ I h) fun u s1 ⟨x,H1,I1,rx,a,dx,fs,ex,ea,l,q⟩=>?_) ht;subst ex;obtain rfl:u=Value.ref a:=rx;refine Qq I1 ea c hm l ?_;refine PySem.W.callWith_K (first:=[.ref a]) (h₀:=X.base) I.ok.mod.kin hm.kp (gM (ha pos pins s1 σ H1 _ I1 q) fun us s2 ⟨vs,H2,I2,r,q2⟩=>⟨I2.By,?_⟩) hst hpl;exact Wn (us:=.ref a :: us) (vs:=.ref a :: vs) F hr hb hd hx I2 (.cons rfl r) q2
theorem mO {pl:Sem Bool} (he:PE X o ta) (c:DN X.K C) (hm:Meth X.K C m f) (F:uK X.prog X.w X.K X.mg X.base CX k f fd ps sp) (hr:Room k X.A) (hb:Binds X.K fd ps ds) (hd:Vals uM ds) (hx:Passes CX X E)
  (ht:eval (.Call (.Attribute o m apos) [] [] pos) X.env=(do
   let ov ← eval o X.env
   standAt apos.atName
   let (f,first) ← holding [ov] (getMethod ov m pl)
   callWith pos f first (backTo pos (starEach [] X.env)) (backToKw pos (keywordEach [] X.env))):=by rfl):
  PE X (.Call (.Attribute o m apos) [] [] pos) (lC C m sp uM E ta aG):=by
 intro pins s σ H Q I h;refine PySem.W.methodCall_KW (pl:=pl) (gM (he pins s σ H _ I h) fun u s1 ⟨x,H1,I1,rx,a,dx,fs,ex,ea,l,q⟩=>?_) ht;subst ex;obtain rfl:u=Value.ref a:=rx;refine Qq I1 ea c hm l ?_;exact PySem.W.callWith_K0 (first:=[.ref a]) I1.By hm.kp (Wn (us:=[.ref a]) (vs:=[.ref a]) F hr hb hd hx I1 (.cons rfl .nil) q)
structure Mk (K:aC) (C f:Addr):Prop where
 makes:PySem.W.makesIn K C=true
 init:PySem.W.findIn K (.ref C) "__init__"=some (some (.ref f))
 fn:PySem.W.isFn K (.ref f)=true
 kp:PySem.W.keepIn K (.ref C)=true
theorem ZG {pins:List (Addr×Obj)}{σ:St}{H:Hp}{s:Shared}{Q:VK}{us:List Value}{vs:List V} (M:Mk X.K C f) (F:uK X.prog X.w X.K X.mg X.base CX k f fd ps sp) (hr:Room (k + 1) X.A) (hb:Binds X.K fd ps ds) (hd:Vals uM ds)
  (hx:Passes CX X E) (I:Inv X pins σ H s) (r:Vals vs us)
  (h:∀ x dx,H x=none→H dx=none→dx≠x→sp (.ref x :: (vs ++ uM)) (upd (upd H dx (.own x)) x (.ins C dx [])) (fun v H2=>v=.non∧Q (.ref x) H2) E):
  wpAny (model X.prog X.w) X.A (call (.ref C) us) (EP X pins σ Q) X.xe s:=by
 have hq:=h (s.heap.objs.size + 1) s.heap.objs.size (I.hok.fresh (Nat.le_succ _)) (I.hok.fresh (Nat.le_refl _)) (Nat.ne_of_lt (Nat.lt_succ_self _));have I2:=Inv.made (C:=C) I;have r2:Vals (V.ref (s.heap.objs.size + 1) :: (vs ++ uM)) (Value.ref (s.heap.objs.size + 1) :: (us ++ ds)):=.cons rfl (r.append hd);have hl:(Value.ref (s.heap.objs.size + 1) :: us ++ ds).length=ps.length:=by
  have e:=r2.length;rw [F.len _ _ _ _ hq] at e;exact e.symm
 refine wpAny_call (Zl1 (f:=f) I.By M.makes M.init (beq_iff_eq.mp M.fn) (codeAny_mono (F.run _ X.stack _ _ ⟨Value.ref (s.heap.objs.size + 1) :: us,[]⟩ (Value.ref (s.heap.objs.size + 1) :: (us ++ ds)) _ _ E (hr.make C us [])
  (I2.env0.make C us []) (hb _ (Value.ref (s.heap.objs.size + 1) :: us) I2.By hl) r2 hq) fun r s' hq'=>?_))
 cases r with
 | error e=>exact hx pins σ _ _ e s' I2 hq'
 | ok fl=>
  cases fl with
  | ret u=>
   obtain ⟨v,H',I3,rv,ev,q3⟩:=I2.after hq';subst ev;exact ⟨rv,⟨V.ref (s.heap.objs.size + 1),H',I3,rfl,q3⟩⟩
  | next=>exact False.elim hq'
  | brk=>exact False.elim hq'
  | cont=>exact False.elim hq'
theorem yJ (M:Mk X.K C f) (F:uK X.prog X.w X.K X.mg X.base CX k f fd ps sp) (hr:Room (k + 1) X.A) (hg:Gl X x) (hm:X.mg x=some (.ref C)) (hb:Binds X.K fd ps ds) (hd:Vals uM ds) (hx:Passes CX X E)
  (ha:PA X (e :: es) t) (hdb:(x == ("__debug__":Str))=false:=by decide) (he:starEach (e :: es) X.env=(false,eval e X.env) :: starEach es X.env:=by rfl) (hpl:(backTo pos (starEach es X.env)).any (·.1)=false:=by rfl):
  PE X (.Call (.Name x p) (e :: es) [] pos) (zB C sp uM E t):=by
 intro pins s σ H Q I h;refine wpAny_Call_Name_kw (tH I hg hm ?_ hdb);refine PySem.W.callWith_K (h₀:=X.base) I.ok.mod.kin M.kp (gM (ha pos pins s σ H _ I h) fun us s1 ⟨vs,H1,I1,r,q⟩=>⟨I1.By,?_⟩) he hpl;exact ZG M F hr hb hd hx I1 r q
theorem Zkb (M:Mk X.K C f) (F:uK X.prog X.w X.K X.mg X.base CX k f fd ps sp) (hr:Room (k + 1) X.A) (hg:Gl X x) (hm:X.mg x=some (.ref C)) (hb:Binds X.K fd ps ds) (hd:Vals uM ds) (hx:Passes CX X E)
  (hdb:(x == ("__debug__":Str))=false:=by decide):PE X (.Call (.Name x p) [] [] pos) (zB C sp uM E aG):=by
 intro pins s σ H Q I h;refine wpAny_Call_Name_kw (tH I hg hm ?_ hdb);exact PySem.W.callWith_K0 I.By M.kp (ZG (us:=[]) M F hr hb hd hx I .nil h)
end
section
variable {X:Cx}{CX:Zn}{k:Nat}{f C:Addr}{fd:FuncData}{ps ks:List Str}{sp:Sp}{E:XK}{x m:Str}{p pos apos kpos:Pos}{e o:Expr}{es:List Expr}{kws:List Keyword}{te ta:TE}{t tk:TA}{nm:Option Str}
structure ZDu (K:aC) (fd:FuncData) (ps ks:List Str) (g:List Value→List Value→List Value) (gV:List V→List V→List V):Prop where
 to:∀ (s:Shared) (us ws:List Value),K.In s.heap→(g us ws).length=ps.length→BindsTo s fd ⟨us,ks.zip ws⟩ (ps.zip (g us ws))
 rel:∀ {vs:List V}{us:List Value}{zs:List V}{ws:List Value},Vals vs us→Vals zs ws→Vals (gV vs zs) (g us ws)
variable {g:List Value→List Value→List Value}{gV:List V→List V→List V}
end
structure aP (N P:List Str) (sc:Scope):Prop where
 kind:sc.kind=.function
 co:sc.isCoroutine=false
 gen:sc.isGenerator=false
 nd:N.Nodup
 pre:N.take P.length=P
 par:∀ x∈P,sc.names.lookup x=some .local∨sc.names.lookup x=some .cell
 Zs0:∀ y∈sc.names,y.2≠.free
theorem Vj {kindOf:Str→Option NameKind}{x:Str}:∀ {binds:List (Str×Value)}{m:Str→Option Value},(∀ v,(x,v)∉binds)→bindL kindOf binds m x=m x
 | [],_,_=>rfl
 | (n,v) :: r,m,h=>by
  unfold bindL;rw [Vj fun w hw=>h w (List.mem_cons_of_mem _ hw)];split
  ·have:x≠n:=by rintro rfl;exact h v List.mem_cons_self
   simp [this]
  ·rfl
theorem Vl {kindOf:Str→Option NameKind}{x:Str}:∀ {binds:List (Str×Value)}{m:Str→Option Value},(∀ v,(x,v)∉binds)→bindC kindOf binds m x=m x
 | [],_,_=>rfl
 | (n,v) :: r,m,h=>by
  unfold bindC;rw [Vl fun w hw=>h w (List.mem_cons_of_mem _ hw)];split
  ·rfl
  ·have:x≠n:=by rintro rfl;exact h v List.mem_cons_self
   simp [this]
theorem Vk {kindOf:Str→Option NameKind}{x:Str}{v:Value}:∀ {P:List Str}{vs:List Value}{i:Nat}{m:Str→Option Value},P.Nodup→P[i]? =some x→vs[i]? =some v→kindOf x=some .local→
  bindL kindOf (P.zip vs) m x=some v
 | [],_,_,_,_,h,_,_=>by simp at h
 | _ :: _,[],_,_,_,_,h,_=>by simp at h
 | p :: P,w :: vs,0,m,nd,h1,h2,hk=>by
  simp at h1 h2;subst h1;subst h2;show bindL kindOf ((p,w) :: P.zip vs) m p=_;unfold bindL;rw [Vj fun v hv=>(List.nodup_cons.mp nd).1 (List.of_mem_zip hv).1,if_pos hk];simp
 | p :: P,w :: vs,i + 1,m,nd,h1,h2,hk=>by
  show bindL kindOf ((p,w) :: P.zip vs) m x=_;unfold bindL;exact Vk (i:=i) (List.nodup_cons.mp nd).2 (by simpa using h1) (by simpa using h2) hk
theorem Vm {kindOf:Str→Option NameKind}{x:Str}{v:Value}:∀ {P:List Str}{vs:List Value}{i:Nat}{m:Str→Option Value},P.Nodup→P[i]? =some x→vs[i]? =some v→kindOf x≠some .local→
  bindC kindOf (P.zip vs) m x=some v
 | [],_,_,_,_,h,_,_=>by simp at h
 | _ :: _,[],_,_,_,_,h,_=>by simp at h
 | p :: P,w :: vs,0,m,nd,h1,h2,hk=>by
  simp at h1 h2;subst h1;subst h2;show bindC kindOf ((p,w) :: P.zip vs) m p=_;unfold bindC;rw [Vl fun v hv=>(List.nodup_cons.mp nd).1 (List.of_mem_zip hv).1,if_neg hk];simp
 | p :: P,w :: vs,i + 1,m,nd,h1,h2,hk=>by
  show bindC kindOf ((p,w) :: P.zip vs) m x=_;unfold bindC;exact Vm (i:=i) (List.nodup_cons.mp nd).2 (by simpa using h1) (by simpa using h2) hk
def start (N:List Str) (vs:List V):St:=vs.map some ++ List.replicate (N.length - vs.length) none
def Kh (CX:Zn) (P:Program) (w:World) (K:aC) (mg:Str→Option Value) (base:Heap) (N:List Str) (qual:Str) (scope:Scope) (f:Addr) (cd:Value) (A:Around) (outer:List Env) (s:Shared) (H:Hp) (E:XK):Cx where
 prog:=P
 w:=w
 K:=K
 mg:=mg
 base:=base
 A:=A.deeper (envOfC qual scope s.heap.objs.size f cd)
 N:=N
 s₀:=s
 H₀:=H
 env:=envOfC qual scope s.heap.objs.size f cd
 outer:=outer
 stack:=envOfC qual scope s.heap.objs.size f cd :: outer
 ex:=[]
 calm:=true
 fn:=fun _=>true
 pn:=[]
 xe:=fun e s'=>wpAny (model P w) (A.deeper (envOfC qual scope s.heap.objs.size f cd)) (leaving (envOfC qual scope s.heap.objs.size f cd) e) (fun _ s''=>CX outer H s E e s'') (fun e' s''=>CX outer H s E e' s'') s'
theorem Zbf {sc:Scope}{n:Nat}{x:Str} (h:sc.names.lookup x=some .cell):∃ c,(cellsFrom n sc.names []).lookup x=some c:=by
 have q:=PySem.W.cellsFrom_some sc.names n [] (.inl h);exact Option.isSome_iff_exists.mp q
theorem Zhy {CX:Zn}{P:Program}{w:World}{K:aC}{mg:Str→Option Value}{base:Heap}{N ps:List Str}{qual:Str}{scope:Scope}{f:Addr}{cd:Value}{A:Around}{outer:List Env}{s s1:Shared}{H:Hp}{E:XK}{us:List Value}{vs:List V}
  (S:aP N ps scope) (hd:A.handled=none) (e0:Zfk P w K mg base A outer s H) (hl:vs.length=ps.length) (r:Vals vs us)
  (x:InCallC s s.heap.objs.size (bindL (envOfC qual scope s.heap.objs.size f cd).kindOf (ps.zip us) fun _=>none) (cellsFrom (s.heap.objs.size + 1) scope.names []) (bindC (envOfC qual scope s.heap.objs.size f cd).kindOf (ps.zip us) fun _=>none) s1):
  Inv (Kh CX P w K mg base N qual scope f cd A outer s H E) [] (start N vs) H s1:=by
 have hpl:ps.length≤N.length:=by have:=congrArg List.length S.pre;rw [List.length_take] at this;omega
 obtain ⟨h1,tk,rfl,hk⟩:=x.done;have noA:∀ b:Addr,b∉(Kh CX P w K mg base N qual scope f cd A outer s H E).ex:=fun b z=>absurd (show b∈([]:List Addr) from z) (by simp);refine ⟨⟨e0.mod,S.kind,rfl,rfl,Nat.le_refl _,fun y z c h1 h2=>?_,fun y hy=>?_,fun y c _ h=>?_,fun _=>hd,Around.frames_deeper e0.frames,.inr ⟨rfl,rfl⟩,fun b z=>absurd z (noA b),e0.bs,e0.Zj,fun b _ _=>noA b,fun b z=>absurd z (noA b),e0.wL,e0.frf⟩,
  rfl,e0.bare,Un.kept hk,⟨_,x.toInCall.ns,fun i y v h1 h2 h3=>?_⟩,fun y c h=>⟨_,x.cell y c h⟩,e0.hok.fresh (Nat.le_refl _),fun y c h=>?_,fun p hp=>absurd (show p∈([]:List (Addr×Obj)) from hp) (by simp),e0.hok.kept hk,?_⟩
 ·exact name_of_addr x.apart (PySem.mem_of_lookup h1) (PySem.mem_of_lookup h2)
 ·have hy:scope.names.lookup y=some .cell∨scope.names.lookup y=some .free:=hy;rcases hy with hy | hy
  ·exact Zbf hy
  ·exact absurd rfl (S.Zs0 _ (PySem.mem_of_lookup hy))
 ·exact Nat.le_of_lt (x.above y c (PySem.mem_of_lookup h))
 ·have hi:i < vs.length:=by
   unfold start at h2
   by_cases hi:i < vs.length
   ·exact hi
   ·rw [List.getElem?_append_right (by simpa using hi)] at h2;rw [List.getElem?_replicate] at h2;split at h2<;>cases h2
  have ha:vs[i]? =some v:=by
   unfold start at h2;rw [List.getElem?_append_left (by simpa using hi),dz] at h2;cases e:vs[i]? with
   | none=>rw [e] at h2;cases h2
   | some a=>rw [e] at h2;cases h2;rfl
  obtain ⟨u,hu,rv⟩:=r.get ha;have hp:ps[i]? =some y:=by
   rw [← S.pre,List.getElem?_take_of_lt (by omega)];exact h1
  have ndP:ps.Nodup:=by rw [← S.pre];exact S.nd.sublist (List.take_sublist _ _)
  refine ⟨u,rv,?_⟩;rcases S.par y (List.mem_of_getElem? hp) with k | k
  ·exact .inl ⟨k,Vk ndP hp hu k⟩
  ·obtain ⟨c,e⟩:=Zbf (n:=s.heap.objs.size + 1) k;refine .inr ⟨.inl k,c,e,?_⟩;have q:=x.cell y c e;rw [Vm ndP hp hu (by show scope.names.lookup y≠_;rw [k];decide)] at q;exact q
 ·exact e0.hok.fresh (Nat.le_of_lt (x.above y c (PySem.mem_of_lookup h)))
 ·unfold start;show _=N.length;rw [List.length_append,bu,List.length_replicate];omega
theorem Zmi {CX:Zn}{P:Program}{w:World}{K:aC}{mg:Str→Option Value}{base:Heap}{k:Nat}{f:Addr}{name qual:Str}{params:Arguments}{body:List Stmt}{scope:Scope}{dV kV doc pm cdv ct oc:Value}{an od:Option Addr}
  {osl:Array (Option Value)}{N ps:List Str}{sp:Sp} (lk:K.lookup f=some ⟨oc,od,.func (PySem.W.fnOf name qual params body scope dV kV doc pm an cdv ct),osl⟩) (hcd:PySem.W.codeIn K cdv qual=true) (S:aP N ps scope)
  (len:∀ vs H Q E,sp vs H Q E→vs.length=ps.length)
  (hbody:∀ (A:Around) (outer:List Env) (s:Shared) (H:Hp) (vs:List V) (Q:VK) (E:XK),Room k (A.deeper (envOfC qual scope s.heap.objs.size f cdv))→sp vs H Q E→
   ∃ t,Zk (Kh CX P w K mg base N qual scope f cdv A outer s H E) body t∧t { nx:=fun _ H'=>Q .non H',rt:=Q } (start N vs) H):
  uK P w K mg base CX (k + 1) f (PySem.W.fnOf name qual params body scope dV kV doc pm an cdv ct) ps sp:=by
 refine ⟨len,fun A outer s H args us vs Q E hr e0 hb r hsp=>?_⟩;have hl:=len _ _ _ _ hsp;have KX:K.In s.heap:=e0.mod.kin.keeps fun b o e=>(e0.bs b o e).1;have lim:s.heap.NoLimit:=e0.mod.nolimit.keeps fun b o e=>(e0.bs b o e).1;have hkind:∀ y∈ps.zip us,scope.names.lookup y.1=some .local∨(scope.names.lookup y.1=some .cell∧((cellsFrom (s.heap.objs.size + 1) scope.names []).lookup y.1).isSome=true):=fun ⟨n,v⟩ hy=>by
  rcases S.par n (List.of_mem_zip hy).1 with q | q
  ·exact .inl q
  ·exact .inr ⟨q,PySem.W.cellsFrom_some _ _ _ (.inl q)⟩
 refine codeAny_call_function hr.depth (KX _ _ lk) rfl S.co S.gen rfl (PySem.W.codeRec_of KX hcd) (hb _ _ _ _ ?_);refine wpAny_newFunctionEnv_cells S.kind hkind fun env he s1 x=>?_;subst he;refine ⟨lim.keeps x.toInCall.keep,codeAny_func ?_⟩;obtain ⟨t,ht,hq⟩:=hbody A outer s H vs Q E (hr.deeper _) hsp;have I:Inv (Kh CX P w K mg base N qual scope f cdv A outer s H E) [] (start N vs) H s1:=Zhy S hr.hd e0 hl r x;refine wpAny_mono (ht [] s1 (start N vs) H _ I hq) (fun fl s' hs=>?_) fun e s' hs=>hs;have fin:∀ {σ':St}{H':Hp}{v:V}{u:Value},Inv (Kh CX P w K mg base N qual scope f cdv A outer s H E) [] σ' H' s'→RelV v u→Q v H'→CE outer P w H s Q u s':=
  fun {σ' H' v u} J rv q=>⟨v,H',J.os,J.bare,J.base,J.hok,rv,q⟩
 cases fl with
 | ret u=>
  obtain ⟨v,σ',H',J,rv,q⟩:=hs;exact fin J rv q
 | next=>
  obtain ⟨σ',H',J,q⟩:=hs;exact fin (v:=V.non) (u:=Value.none) J rfl q
 | brk=>
  obtain ⟨_,_,_,q⟩:=hs;exact False.elim q
 | cont=>
  obtain ⟨_,_,_,q⟩:=hs;exact False.elim q
end L2
namespace L2
open PySem PySem.Spec PyProof.Rows
section
variable {X:Cx}{x:Str}{p pos:Pos}{e:Expr}{es:List Expr}{t:TA}{id T:String}{r:List V→Hp→VK→Prop}
def zE (r:List V→Hp→VK→Prop) (t:TA):TE:=fun σ H Q=>t σ H fun vs H1=>r vs H1 Q
theorem cV (hc:HX X (.builtin id) r) (hg:Gl X x) (hm:X.mg x=none) (hv:bootBuiltins x=some (.builtin id)) (ha:PA X (e :: es) t) (hn:x≠"__name__":=by decide) (hdb:(x == ("__debug__":Str))=false:=by decide)
  (he:starEach (e :: es) X.env=(false,eval e X.env) :: starEach es X.env:=by rfl) (hpl:(backTo pos (starEach es X.env)).any (·.1)=false:=by rfl):PE X (.Call (.Name x p) (e :: es) [] pos) (zE r t):=by
 intro pins s σ H Q I h;refine wpAny_Call_Name_kw (PL I hg hm hv ?_ hn hdb);exact PyProof.Rows.callWith_builtin1 (gM (ha pos pins s σ H _ I h) fun us s1 ⟨vs,H1,I1,r1,q1⟩=>hc pins s1 σ H1 vs us Q I1 r1 q1) he hpl
theorem qx (hc:HX X (.type T) r) (hg:Gl X x) (hm:X.mg x=none) (hv:bootBuiltins x=some (.type T)) (ha:PA X (e :: es) t) (hn:x≠"__name__":=by decide) (hdb:(x == ("__debug__":Str))=false:=by decide)
  (he:starEach (e :: es) X.env=(false,eval e X.env) :: starEach es X.env:=by rfl) (hpl:(backTo pos (starEach es X.env)).any (·.1)=false:=by rfl):PE X (.Call (.Name x p) (e :: es) [] pos) (zE r t):=by
 intro pins s σ H Q I h;refine wpAny_Call_Name_kw (PL I hg hm hv ?_ hn hdb);exact PyProof.Rows.callWith_type1 (gM (ha pos pins s σ H _ I h) fun us s1 ⟨vs,H1,I1,r1,q1⟩=>hc pins s1 σ H1 vs us Q I1 r1 q1) he hpl
end
end L2
namespace HT
open PySem PyProof.Rows
section
open PySem.SeqAt
open PySem.AutoSeq1 (wpAny_loadPart')
open PySem.MeetsSeq PySem.MeetsSeq2 PySem.MeetsSeq3
end
section
variable {prog:Program}{w:World}{A:Around}{E:Value→Shared→Prop}{s:Shared}
theorem Zqa {t b:Addr}{vs ws:List Value}{Q:Value→Shared→Prop} (ht:IsTup s.heap t vs.toArray) (hb:IsTup s.heap b ws.toArray) (hv:vs≠[])
  (h1:ws=[]→Q (.ref t) s) (h2:ws≠[]→Q (.ref s.heap.objs.size) { s with heap:=s.heap.push { cls:=.type "tuple",data:=.seq (vs ++ ws).toArray } })
  (hsz:vs.length + ws.length≤sizeLine):wpAny (model prog w) A (binaryOp .Add (.ref t) (.ref b)) Q E s:=by
 obtain ⟨⟨cls,dd,data,sl⟩,ho,hc,n,hd⟩:=id ht;obtain ⟨⟨cls2,dd2,data2,sl2⟩,ho2,hc2,n2,hd2⟩:=id hb;simp only at hc hd hc2 hd2;subst hc hd hc2 hd2;have e:vs.toArray ++ ws.toArray=(vs ++ ws).toArray:=by simp
 by_cases hw:ws=[]
 ·exact concat_meets ⟨_,ho,rfl⟩ ⟨_,ho2,rfl⟩ noFill_tuple_add seq_tuple_add PySem.F.slot_tuple_add PySem.F.entry_tuple_add (PySem.F.args_tuple_add_2 _ _)
   (tuple_addW1 t b vs.toArray ws.toArray n n2 dd dd2 sl sl2 (by simpa using hv) (by simp [hw])) ⟨ho,ho2,h1 hw⟩
 ·refine concat_meets ⟨_,ho,rfl⟩ ⟨_,ho2,rfl⟩ noFill_tuple_add seq_tuple_add PySem.F.slot_tuple_add PySem.F.entry_tuple_add (PySem.F.args_tuple_add_2 _ _)
   (tuple_addW2 t b vs.toArray ws.toArray n n2 dd dd2 sl sl2 (by simpa using hv) (by simpa using hw) (by rw [List.size_toArray,List.size_toArray];exact hsz)) ⟨ho,ho2,?_⟩
  rw [e];exact h2 hw
def Zi (n d:Nat):Option Int→Nat
 | none=>d
 | some v=>if v < 0 then (v + (n:Int)).toNat else min v.toNat n
end
end HT
namespace L2
open PySem PySem.Spec PyProof.Rows
abbrev TO:=St→Hp→(Option Int→Hp→Prop)→Prop
def PO (X:Cx) (e:Option Expr) (t:TO):Prop:=
 ∀ (pins:List (Addr×Obj)) (s:Shared) (σ:St) (H:Hp) (Q:Option Int→Hp→Prop),Inv X pins σ H s→t σ H Q→
  wpAny (model X.prog X.w) X.A (evalPart e X.env) (fun u s'=>∃ o H',Inv X pins σ H' s'∧IsPart u o∧Q o H') X.xe s
def Zfn (t:TE):TO:=fun σ H Q=>t σ H fun x H1=>∃ i,x=.int i∧Q (some i) H1
section
variable {X:Cx}{e:Expr}{te:TE}{lo hi:Option Expr}{tl th:TO}{pos p2:Pos}
theorem Zfw (h:PE X e te):PO X (some e) (Zfn te):=by
 intro pins s σ H Q I hw;rw [evalPart_some];refine gM (h pins s σ H _ I hw) fun u s1 ⟨x,H1,I1,r1,q1⟩=>?_;obtain ⟨i,rfl,q⟩:=q1;obtain ⟨t,rfl⟩:=r1;exact ⟨some i,H1,I1,.int i t,q⟩
def SlR (X:Cx) (r:V→Option Int→Option Int→Hp→VK→Prop):Prop:=
 ∀ (pins:List (Addr×Obj)) (s:Shared) (σ:St) (H:Hp) (x:V) (v vl vu:Value) (lo hi:Option Int) (sl:Addr) (Q:VK),Inv X pins σ H s→RelV x v→s.heap.IsSliceOf sl vl vu .none→IsPart vl lo→IsPart vu hi→r x lo hi H Q→
  ∃ T id,typeLookup (.type T) "__getitem__"=pure (some (.builtin id))∧s.TypeIs v T∧wpAny (model X.prog X.w) X.A (getItem v (.ref sl)) (EP X pins σ Q) X.xe s
def tSl (r:V→Option Int→Option Int→Hp→VK→Prop) (te:TE) (tl th:TO):TE:=fun σ H Q=>te σ H fun x H1=>tl σ H1 fun l H2=>th σ H2 fun u H3=>r x l u H3 Q
theorem Zk9 {r:V→Option Int→Option Int→Hp→VK→Prop} (hr:SlR X r) (he:PE X e te) (hl:PO X lo tl) (hu:PO X hi th):PE X (.Subscript e (.Slice lo hi none p2) pos) (tSl r te tl th):=by
 intro pins s σ H Q I h;refine Subscript_ (gM (he pins s σ H _ I h) fun v s1 ⟨x,H1,I1,r1,q1⟩=>?_);refine wpAny_Slice (gM (hl pins s1 σ H1 _ I1 q1) fun vl s2 ⟨l,H2,I2,pl,q2⟩=>gM (hu pins s2 σ H2 _ I2 q2) fun vu s3 ⟨u,H3,I3,pu,q3⟩=>?_);rw [evalPart_none];refine wpAny_pure ?_;have I4:Inv X pins σ H3 { s3 with heap:=s3.heap.push { cls:=.type "slice",data:=.fields #[vl,vu,.none] } }:=I3.kept (t':=s3.toks) fun b ob q=>Heap.get?_push_of_some _ q;obtain ⟨T,id,hT,ht,hg⟩:=hr pins { s3 with heap:=s3.heap.push { cls:=.type "slice",data:=.fields #[vl,vu,.none] } } σ H3 x v vl vu l u s3.heap.objs.size Q I4 r1 (Heap.IsSliceOf.new ..) pl pu q3;show wpAny (model X.prog X.w) X.A (subscriptTail e (.Slice lo hi none p2) v (.ref s3.heap.objs.size)) (EP X pins σ Q) X.xe { s3 with heap:=s3.heap.push { cls:=.type "slice",data:=.fields #[vl,vu,.none] } };exact tail_any (ops:=[.ref s3.heap.objs.size,v]) ht hT hg (by with_unfolding_all rfl)
def Ziw (xs:List V) (lo hi:Option Int):List V:=(xs.drop (HT.Zi xs.length 0 lo)).take (HT.Zi xs.length xs.length hi - HT.Zi xs.length 0 lo)
theorem Zbd (xs:List V) (lo hi:Option Int):(Ziw xs lo hi).length≤xs.length:=by
 unfold Ziw;rw [List.length_take,List.length_drop];omega
def Zqq (K:aC):R2:=fun x y H Q=>∃ a b xs ys,x=.ref a∧y=.ref b∧gU K H a xs∧gU K H b ys∧xs≠[]∧xs.length + ys.length≤sizeLine∧
 (ys=[]→Q (.ref a) H)∧(ys≠[]→∀ p,H p=none→Q (.ref p) (upd H p (.tup (xs ++ ys))))
theorem Vals.Xf {xs:List V}{us:List Value} (r:Vals xs us):us=[]↔xs=[]:=by
 cases r with
 | nil=>simp
 | cons _ _=>simp
theorem Zoj:zy X (binaryOp .Add) (Zqq X.K):=by
 intro pins s σ H x y v u Q I rx ry h;obtain ⟨a,b,xs,ys,rfl,rfl,ha,hb,hx,hz,q1,q2⟩:=h;cases rx;cases ry;obtain ⟨its,r1,p1,_⟩:=I.tuple ha;obtain ⟨its2,r2,p2,_⟩:=I.tuple hb;refine HT.Zqa p1 p2 (fun z=>hx (r1.Xf.mp z)) (fun z=>⟨.ref a,H,I,rfl,q1 (r2.Xf.mp z)⟩) (fun z=>?_) (by rw [← r1.length,← r2.length];exact hz);refine ⟨.ref s.heap.objs.size,_,I.laid (t':=s.toks) (o:=.tup (xs ++ ys)) (fun b ob q=>Heap.get?_push_of_some _ q) (Nat.le_refl _) ?_,rfl,q2 (fun w=>z (r2.Xf.mpr w)) _ (I.hok.fresh (Nat.le_refl _))⟩;exact ⟨by rw [List.length_append];exact hz,_,r1.append r2,IsTup.new _ _⟩
end
end L2
namespace L2
open PySem PySem.Spec PyProof.Rows
def ixN (n:Nat) (i:Int):Option Nat:=if 0≤i then (if i < n then some i.toNat else none) else if -(n:Int)≤i then some (i + n).toNat else none
def atI {α:Type} (xs:List α) (i:Int):Option α:=(ixN xs.length i).bind fun j=>xs[j]?
theorem Zg7 {n:Nat}{i:Int}{j:Nat} (h:ixN n i=some j):seqIndex? i n=some j∧j < n∧-(n:Int)≤i∧i < n:=by
 unfold ixN at h
 by_cases h0:0≤i
 ·rw [if_pos h0] at h
  by_cases h1:i < n
  ·rw [if_pos h1] at h;have e:i.toNat=j:=Option.some.inj h;exact ⟨by rw [seqIndex_of h0 h1,e],by omega,by omega,h1⟩
  ·rw [if_neg h1] at h;cases h
 ·rw [if_neg h0] at h
  by_cases h1:-(n:Int)≤i
  ·rw [if_pos h1] at h;have e:(i + n).toNat=j:=Option.some.inj h;exact ⟨by rw [seqIndex_neg (by omega) h1,e],by omega,h1,by omega⟩
  ·rw [if_neg h1] at h;cases h
theorem YB {α:Type}{xs:List α}{i:Int}{v:α} (h:atI xs i=some v):∃ j,seqIndex? i xs.length=some j∧xs[j]? =some v∧j < xs.length∧-(xs.length:Int)≤i∧i < xs.length:=by
 unfold atI at h;cases e:ixN xs.length i with
 | none=>rw [e] at h;cases h
 | some j=>
  rw [e] at h;obtain ⟨h1,h2,h3,h4⟩:=Zg7 e;exact ⟨j,h1,h,h2,h3,h4⟩
theorem ie {α:Type}{xs:List α}{j:Nat}{v:α} (h:xs[j]? =some v):atI xs (j:Int)=some v:=by
 have hj:j < xs.length:=(fG h).1;have e:ixN xs.length (j:Int)=some j:=by
  unfold ixN;rw [if_pos (by omega),if_pos (by omega)];simp
 unfold atI;rw [e];exact h
def Y6 (b:Expr):Prop:=∀ o i,subscripted b false o i=operate [o,i] (getItem o i)
def IxR (X:Cx) (r:R2):Prop:=
 ∀ (value slice:Expr) (pins:List (Addr×Obj)) (s:Shared) (σ:St) (H:Hp) (x y:V) (v u:Value) (Q:VK),Inv X pins σ H s→RelV x v→RelV y u→r x y H Q→
  subscripted slice false v u=operate [v,u] (getItem v u)→wpAny (model X.prog X.w) X.A (subscriptTail value slice v u) (EP X pins σ Q) X.xe s
def MtR (X:Cx) (id:String) (r:V→List V→Hp→VK→Prop):Prop:=
 ∀ (pins:List (Addr×Obj)) (s:Shared) (σ:St) (H:Hp) (x:V) (xs:List V) (v:Value) (us:List Value) (Q:VK),Inv X pins σ H s→RelV x v→Vals xs us→r x xs H Q→
  wpAny (model X.prog X.w) X.A (call (.builtin id) (v :: us)) (EP X pins σ Q) X.xe s
section
variable {X:Cx}{a b:Expr}{ta tb:TE}{pos:Pos}
theorem Zqs {r:R2} (hr:IxR X r) (ha:PE X a ta) (hb:PE X b tb) (hs:Y6 b):PE X (.Subscript a b pos) (bA r ta tb):=by
 intro pins s σ H Q I h;exact Subscript_ (Ztm ha hb I h fun v u s2 x y H2 I2 rx ry q=>hr a b pins s2 σ H2 x y v u Q I2 rx ry q (hs _ _))
def nH (K:aC):R2:=fun x y H Q=>∃ p xs i v,x=.ref p∧y=.int i∧cU K H p xs∧atI xs i=some v∧Q v H
def eZ (K:aC):R2:=fun x y H Q=>∃ p xs i v,x=.ref p∧y=.int i∧gU K H p xs∧atI xs i=some v∧Q v H
def Zju:R2:=fun x y H Q=>∃ z i c,x=.str z∧y=.int i∧z.length≤sizeLine∧atI z.cps.toList i=some c∧Q (.str ⟨#[c]⟩) H
theorem dZ:IxR X (nH X.K):=by
 intro value slice pins s σ H x y v u Q I rx ry h hs;obtain ⟨p,xs,i,z,rfl,rfl,hq,he,q⟩:=h;cases rx;obtain ⟨t,rfl⟩:=ry;obtain ⟨its,r,pl,hz⟩:=I.list hq;obtain ⟨j,h1,h2,h3,h4,h5⟩:=YB he;obtain ⟨w,ew,rw'⟩:=r.get h2;have hl:=r.length;have hn:=JP;have fin:EP X pins σ Q w s:=⟨z,H,I,rw',q⟩
 by_cases h0:0≤i
 ·have hj:i.toNat=j:=by
   rw [seqIndex_of h0 h5] at h1;exact Option.some.inj h1
  exact item_listR pl.isList h0 (by omega) (by rw [hj];simpa using ew) fin hs
 ·have hj:(i + (its.toArray.size:Int)).toNat=j:=by
   rw [seqIndex_neg (by omega) h4] at h1;rw [List.size_toArray,← hl];exact Option.some.inj h1
  exact subscriptTail_builtinR (x:=w) pl.isList.typeIs slot_list_getitem.lookup
   (wpAny_getItem_list_neg (Q:=fun r s'=>r=w∧EP X pins σ Q r s') pl.isList (by omega) (by rw [List.size_toArray]<;>omega) (by omega) (by rw [hj];simpa using ew) ⟨rfl,fin⟩) hs
theorem bK:IxR X (eZ X.K):=by
 intro value slice pins s σ H x y v u Q I rx ry h hs;obtain ⟨p,xs,i,z,rfl,rfl,hq,he,q⟩:=h;cases rx;obtain ⟨t,rfl⟩:=ry;obtain ⟨its,r,pl,hz⟩:=I.tuple hq;obtain ⟨j,h1,h2,h3,h4,h5⟩:=YB he;obtain ⟨w,ew,rw'⟩:=r.get h2;have hl:=r.length;have hn:=JP;have fin:EP X pins σ Q w s:=⟨z,H,I,rw',q⟩;exact subscriptTail_builtinR (x:=w) pl.typeIs slot_tuple_getitem.lookup
  (getItem_tuple (j:=j) (Q:=fun r s'=>r=w∧EP X pins σ Q r s') pl (by omega) (by omega) (by rw [List.size_toArray,← hl];exact h1) (by simpa using ew) ⟨rfl,fin⟩) hs
theorem Zlq:IxR X Zju:=by
 intro value slice pins s σ H x y v u Q I rx ry h hs;obtain ⟨z,i,c,rfl,rfl,hz,he,q⟩:=h;obtain ⟨t,rfl⟩:=rx;obtain ⟨t',rfl⟩:=ry;obtain ⟨j,h1,h2,h3,h4,h5⟩:=YB he;have hl:z.cps.toList.length=z.length:=by simp [Str.length]
 rw [hl] at h1 h4 h5;have hn:=JP;exact tail_any (typeIs_str s z t) slot_str_getitem.lookup (getItem_str (c:=c) (by
  have e1:decide (i < -(2 ^ 63:Int))=false:=decide_eq_false (by omega);have e2:decide (i≥2 ^ 63)=false:=decide_eq_false (by omega);rw [e1,e2,Bool.or_false]) (by rw [h1];simpa using h2) ⟨.str ⟨#[c]⟩,H,I.tok _,⟨_,rfl⟩,q⟩) hs
theorem Zdy (its:List Value) (n j:Nat) (u:Value):Obj.mapSeq (·.setIfInBounds j u) { cls:=.type "list",data:=.seq its.toArray n }={ cls:=.type "list",data:=.seq (its.set j u).toArray n }:=by
 simp [Obj.mapSeq]
theorem Inv.lst {pins:List (Addr×Obj)}{σ:St}{H:Hp}{s:Shared}{p:Addr}{xs:List V} (I:Inv X pins σ H s) (h:H p=some (.lst xs)):
  ∃ (its:List Value) (n:Nat),Vals xs its∧s.heap.get? p=some { cls:=.type "list",data:=.seq its.toArray n }∧xs.length≤sizeLine:=by
 obtain ⟨z,its,n,r,e⟩:=I.hok p _ h;exact ⟨its,n,r,e,z⟩
theorem Inv.Zs7 {pins:List (Addr×Obj)}{σ:St}{H:Hp}{s:Shared}{p:Addr}{xs ys:List V}{its its':List Value}{n n':Nat}{f:Obj→Obj} (I:Inv X pins σ H s) (h:H p=some (.lst xs))
  (ho:s.heap.get? p=some { cls:=.type "list",data:=.seq its.toArray n }) (hf:f { cls:=.type "list",data:=.seq its.toArray n }={ cls:=.type "list",data:=.seq its'.toArray n' }) (r:Vals ys its') (hz:ys.length≤sizeLine) (t:Nat):
  Inv X pins σ (upd H p (.lst ys)) { s with heap:=s.heap.update p f,toks:=t }:=by
 have e:(s.heap.update p f).get? p=some { cls:=.type "list",data:=.seq its'.toArray n' }:=by
  rw [Heap.get?_update_self f ho (by rw [hf]<;>rfl),hf]
 refine I.write (x:=p) (e:=p) (by rw [h];trivial) (.inl rfl) (fun b u hb q=>(Heap.get?_update_other _ _ (Ne.symm hb)).trans q) ⟨_,e⟩ ?_;exact ⟨hz,its',n',r,e⟩
def Av:V→V→V→Hp→(Hp→Prop)→Prop:=fun o i v H Q=>∃ p xs k j,o=.ref p∧i=.int k∧H p=some (.lst xs)∧ixN xs.length k=some j∧Q (upd H p (.lst (xs.set j v)))
theorem set_list:Zvp X Av:=by
 intro pins s σ H o i v ov iv u Q I ro ri rv h;obtain ⟨p,xs,k,j,rfl,rfl,hp,hj,q⟩:=h;cases ro;obtain ⟨t,rfl⟩:=ri;obtain ⟨its,n,r,ho,hz⟩:=I.lst hp;obtain ⟨h1,h2,h3,h4⟩:=Zg7 hj;have hl:=r.length;have hn:=JP;have I':Inv X pins σ (upd H p (.lst (xs.set j v))) { s with heap:=s.heap.update p (Obj.mapSeq (·.setIfInBounds j u)) }:=
  I.Zs7 hp ho (Zdy its n j u) (r.set rv j) (by rw [List.length_set];exact hz) s.toks
 by_cases h0:0≤k
 ·have hk:k.toNat=j:=by
   rw [seqIndex_of h0 h4] at h1;exact Option.some.inj h1
  exact PySem.W.ki_setAt ho h0 (by omega) (by rw [List.size_toArray,← hl];exact h4) (by rw [hk];exact ⟨_,I',q⟩)
 ·have hk:(k + (its.toArray.size:Int)).toNat=j:=by
   rw [seqIndex_neg (by omega) h3] at h1;rw [List.size_toArray,← hl];exact Option.some.inj h1
  exact PySem.W.ki_setBack ho (by omega) (by rw [List.size_toArray,← hl];exact h3) (by omega) (by rw [hk];exact ⟨_,I',q⟩)
theorem VR (lo hi:Option Int) (n:Nat):(sliceBounds lo hi none n).1=((HT.Zi n 0 lo:Nat):Int)∧(sliceBounds lo hi none n).2.1=((HT.Zi n n hi:Nat):Int)∧(sliceBounds lo hi none n).2.2=1:=by
 refine ⟨?_,?_,rfl⟩
 ·cases lo with
  | none=>simp [sliceBounds,HT.Zi]
  | some i=>
   simp only [sliceBounds,HT.Zi,Option.getD_none,show (1:Int) > 0 by decide,if_true]
   by_cases h:i < 0
   ·simp only [h,if_true]<;>omega
   ·simp only [h,if_false]<;>omega
 ·cases hi with
  | none=>simp [sliceBounds,HT.Zi]
  | some i=>
   simp only [sliceBounds,HT.Zi,Option.getD_none,show (1:Int) > 0 by decide,if_true]
   by_cases h:i < 0
   ·simp only [h,if_true]<;>omega
   ·simp only [h,if_false]<;>omega
theorem Rc (its:List Value) (lo hi:Option Int):slicePick its.toArray lo hi none=((its.drop (HT.Zi its.length 0 lo)).take (HT.Zi its.length its.length hi - HT.Zi its.length 0 lo)).toArray:=by
 obtain ⟨h1,h2,h3⟩:=VR lo hi its.toArray.size;unfold slicePick;rw [h1,h2,h3];simp only [sliceRange_one,pick_run,List.size_toArray]<;>rfl
def Zu9 (K:aC):V→Option Int→Option Int→Hp→VK→Prop:=fun x lo hi H Q=>∃ a xs,x=.ref a∧cU K H a xs∧∀ p,H p=none→Q (.ref p) (upd H p (.lst (Ziw xs lo hi)))
theorem Zne:SlR X (Zu9 X.K):=by
 intro pins s σ H x v vl vu lo hi sl Q I rx hs pl pu h;obtain ⟨a,xs,rfl,hx,q⟩:=h;cases rx;obtain ⟨its,r,ht,hz⟩:=I.list hx;have hlen:=r.length;refine ⟨"list",_,slot_list_getitem.lookup,ht.isList.typeIs,?_⟩;refine wpAny_getItem_list_slice ht.isList hs pl pu .none (by simp) ?_ (by rw [List.size_toArray]<;>omega);rw [Rc,← hlen];refine ⟨.ref s.heap.objs.size,_,I.laid (t':=s.toks) (o:=.lst (Ziw xs lo hi)) (fun b ob q=>Heap.get?_push_of_some _ q) (Nat.le_refl _) ?_,rfl,q _ (I.hok.fresh (Nat.le_refl _))⟩;exact ⟨Nat.le_trans (Zbd xs lo hi) hz,_,0,(r.drop (HT.Zi xs.length 0 lo)).take (HT.Zi xs.length xs.length hi - HT.Zi xs.length 0 lo),Heap.get?_push_size _ rfl⟩
def oZ:V→Bool
 | .non=>true
 | .bl _=>true
 | .int _=>true
 | .str _=>true
 | _=>false
def eqV:V→V→Bool
 | .non,.non=>true
 | .bl a,.bl b=>a == b
 | .bl a,.int b=>(if a then 1 else 0) == b
 | .int a,.bl b=>a == (if b then 1 else 0)
 | .int a,.int b=>a == b
 | .str a,.str b=>a == b
 | _,_=>false
theorem BR {A:Around}{s:Shared}{y x:V}{u v:Value} (ry:RelV y u) (rx:RelV x v) (fy:oZ y=true) (fx:oZ x=true):SeqAt.EqAt A s u v (eqV y x):=by
 cases y with
 | non=>
  cases ry;cases x with
  | non=>cases rx;exact SeqAt.EqAt.same _
  | bl b=>cases rx;exact SeqAt.EqAt.none_bool b
  | int b=>obtain ⟨t,rfl⟩:=rx;exact SeqAt.EqAt.none_int b t
  | str b=>obtain ⟨t,rfl⟩:=rx;exact SeqAt.EqAt.none_str b t
  | _=>exact absurd (show false=true from fx) Bool.false_ne_true
 | bl a=>
  cases ry;cases x with
  | non=>cases rx;exact SeqAt.EqAt.bool_none a
  | bl b=>cases rx;exact SeqAt.EqAt.bool_bool a b
  | int b=>obtain ⟨t,rfl⟩:=rx;exact SeqAt.EqAt.bool_int a b t
  | str b=>obtain ⟨t,rfl⟩:=rx;exact SeqAt.EqAt.bool_str a b t
  | _=>exact absurd (show false=true from fx) Bool.false_ne_true
 | int a=>
  obtain ⟨t',rfl⟩:=ry;cases x with
  | non=>cases rx;exact SeqAt.EqAt.int_none a t'
  | bl b=>cases rx;exact SeqAt.EqAt.int_bool a t' b
  | int b=>obtain ⟨t,rfl⟩:=rx;exact SeqAt.EqAt.int_int a t' b t
  | str b=>obtain ⟨t,rfl⟩:=rx;exact SeqAt.EqAt.int_str a t' b t
  | _=>exact absurd (show false=true from fx) Bool.false_ne_true
 | str a=>
  obtain ⟨t',rfl⟩:=ry;cases x with
  | non=>cases rx;exact SeqAt.EqAt.str_none a t'
  | bl b=>cases rx;exact SeqAt.EqAt.str_bool a t' b
  | int b=>obtain ⟨t,rfl⟩:=rx;exact SeqAt.EqAt.str_int a t' b t
  | str b=>obtain ⟨t,rfl⟩:=rx;exact SeqAt.EqAt.str_str a t' b t
  | _=>exact absurd (show false=true from fx) Bool.false_ne_true
 | _=>exact absurd (show false=true from fy) Bool.false_ne_true
def eqU (x:V) (u:Value):Bool:=match u with
 | .none=>eqV .non x
 | .bool b=>eqV (.bl b) x
 | .int i _=>eqV (.int i) x
 | .str z _=>eqV (.str z) x
 | _=>false
theorem Zmn {x y:V}{u:Value} (r:RelV y u) (f:oZ y=true):eqU x u=eqV y x:=by
 cases y with
 | non=>cases r;rfl
 | bl b=>cases r;rfl
 | int i=>obtain ⟨t,rfl⟩:=r;rfl
 | str z=>obtain ⟨t,rfl⟩:=r;rfl
 | _=>exact absurd (show false=true from f) Bool.false_ne_true
theorem YC {x:V}:∀ {xs:List V}{us:List Value},Vals xs us→xs.all oZ=true→us.any (eqU x)=xs.any fun y=>eqV y x
 | _,_,.nil,_=>rfl
 | y :: xs,u :: us,.cons r t,f=>by
  rw [List.all_cons,Bool.and_eq_true] at f;rw [List.any_cons,List.any_cons,Zmn r f.1,YC t f.2]
theorem Pr {A:Around}{s:Shared}{x:V}{v:Value} (rx:RelV x v) (fx:oZ x=true):∀ {xs:List V}{us:List Value},Vals xs us→xs.all oZ=true→∀ u∈us,SeqAt.EqAt A s u v (eqU x u)
 | _,_,.nil,_=>fun u hu=>by cases hu
 | y :: xs,u :: us,.cons r t,f=>fun u' hu=>by
  rw [List.all_cons,Bool.and_eq_true] at f;rcases List.mem_cons.mp hu with rfl | hu
  ·rw [Zmn r f.1];exact BR r rx f.1 fx
  ·exact Pr rx fx t f.2 u' hu
def inV (x:V) (xs:List V):Bool:=xs.any fun y=>eqV y x
def rIn (K:aC) (neg:Bool):R2:=fun x y H Q=>∃ p xs,y=.ref p∧(cU K H p xs∨gU K H p xs)∧oZ x=true∧xs.all oZ=true∧Q (.bl (if neg then !inV x xs else inV x xs)) H
theorem Zha:zy X (compareOp .In) (rIn X.K false):=by
 intro pins s σ H x y v u Q I rx ry h;obtain ⟨p,xs,rfl,hq,fx,fs,q⟩:=h;cases ry;rcases hq with hq | hq
 ·obtain ⟨its,r,pl,hz⟩:=I.list hq;refine SeqAt.in_listAt (eqU x) pl.isList (fun w hw=>Pr rx fx r fs w (by simpa using hw)) ⟨.bl _,H,I,rfl,?_⟩;rw [show its.toArray.any (eqU x)=its.any (eqU x) by simp,YC r fs];exact q
 ·obtain ⟨its,r,pl,hz⟩:=I.tuple hq;refine SeqAt.in_tupleAt (eqU x) pl (fun w hw=>Pr rx fx r fs w (by simpa using hw)) ⟨.bl _,H,I,rfl,?_⟩;rw [show its.toArray.any (eqU x)=its.any (eqU x) by simp,YC r fs];exact q
theorem Yy:HX X (.builtin "len") (fun xs H Q=>∃ p ys,xs=[.ref p]∧(cU X.K H p ys∨gU X.K H p ys)∧Q (.int ys.length) H):=by
 intro pins s σ H xs us Q I r h;obtain ⟨p,ys,rfl,hq,q⟩:=h;obtain ⟨u,rfl,rx⟩:=vals1 r;cases rx;have hn:=JP;rcases hq with hq | hq
 ·obtain ⟨its,r',pl,hz⟩:=I.list hq;have hlen:=r'.length;exact Calls.call_len_list pl.isList (by simp only [List.size_toArray]<;>omega) ⟨.int ys.length,H,I.tok _,⟨s.toks + 1,by rw [List.size_toArray,hlen]⟩,q⟩
 ·obtain ⟨its,r',pl,hz⟩:=I.tuple hq;have hlen:=r'.length;exact len_tuple pl (by simp only [List.size_toArray]<;>omega) ⟨.int ys.length,H,I.tok _,⟨s.toks + 1,by rw [List.size_toArray,hlen]⟩,q⟩
theorem Hz:HX X (.type "list") (fun xs H Q=>∃ p ys,xs=[.ref p]∧(cU X.K H p ys∨gU X.K H p ys)∧∀ l,H l=none→Q (.ref l) (upd H l (.lst ys))):=by
 intro pins s σ H xs us Q I r h;obtain ⟨p,ys,rfl,hq,q⟩:=h;obtain ⟨u,rfl,rx⟩:=vals1 r;cases rx;have fin:∀ (its:List Value),Vals ys its→ys.length≤sizeLine→∀ (h':Heap) (c':Nat),(∀ b o',s.heap.get? b=some o'→h'.get? b=some o')→
   h'.get? s.heap.objs.size=some { cls:=.type "list",dict:=none,data:=.seq its.toArray c',slots:=#[] }→EP X pins σ Q (.ref s.heap.objs.size) { s with heap:=h' }:=fun its r' hz h' c' kp e=>
  ⟨.ref s.heap.objs.size,_,I.laid (t':=s.toks) kp (Nat.le_refl _) (show jO X.prog X.w _ h' _ (.lst ys) from ⟨hz,its,c',r',e⟩),rfl,q _ (I.hok.fresh (Nat.le_refl _))⟩
 rcases hq with hq | hq
 ·obtain ⟨its,r',pl,hz⟩:=I.list hq;have hlen:=r'.length;obtain ⟨o,ho,hc,n,hd⟩:=pl.isList;exact call_list_seq p (.inl rfl) ho hc hd (fun h' c' kp e=>fin its r' hz h' c' kp e) (by simp only [List.size_toArray]<;>omega)
 ·obtain ⟨its,r',pl,hz⟩:=I.tuple hq;have hlen:=r'.length;obtain ⟨o,ho,hc,n,hd⟩:=pl;exact call_list_seq p (.inr rfl) ho hc hd (fun h' c' kp e=>fin its r' hz h' c' kp e) (by simp only [List.size_toArray]<;>omega)
def tyV (K:aC) (T:String) (x:V) (H:Hp):Prop:=match x with
 | .str _=>T="str"
 | .int _=>T="int"
 | .ref p=>(T="list"∧∃ xs,cU K H p xs)∨(T="tuple"∧∃ o,K.lookup p=some o∧o.cls=.type "tuple"∧o.dict=none)∨
   (T="dict"∧((∃ kvs,H p=some (.dK kvs))∨∃ kvs,H p=some (.dT kvs)))∨(T="set"∧∃ S n,H p=some (.set S n))
 | _=>False
theorem Zr6 {pins:List (Addr×Obj)}{σ:St}{H:Hp}{s:Shared}{T:String}{x:V}{v:Value} (I:Inv X pins σ H s) (r:RelV x v) (ty:tyV X.K T x H):
  s.TypeIs v T∧∀ a,v=.ref a→∃ ob,s.heap.get? a=some ob∧ob.dict=none:=by
 cases x with
 | str z=>
  obtain ⟨t,rfl⟩:=r;cases (show T="str" from ty);exact ⟨typeIs_str s z t,fun _ e=>nomatch e⟩
 | int i=>
  obtain ⟨t,rfl⟩:=r;cases (show T="int" from ty);exact ⟨typeIs_int s i t,fun _ e=>nomatch e⟩
 | ref p=>
  cases r;rcases ty with ⟨rfl,xs,hq⟩ | ⟨rfl,o,hk,hc,hd⟩ | ⟨rfl,hk⟩ | ⟨rfl,S,n,hk⟩
  ·obtain ⟨its,_,pl,_⟩:=I.list hq;refine ⟨pl.isList.typeIs,fun a e=>?_⟩;cases e;obtain ⟨o,n,e,c,hd,_⟩:=pl;exact ⟨o,e,hd⟩
  ·refine ⟨⟨o,I.By p o hk,hc⟩,fun a e=>?_⟩;cases e;exact ⟨o,I.By _ o hk,hd⟩
  ·have z:∃ o,s.heap.get? p=some o∧o.ExactDict:=by
    rcases hk with ⟨kvs,hk⟩ | ⟨kvs,hk⟩
    ·obtain ⟨_,_,_,_,o,_,_,e,ex,_⟩:=I.hok p _ hk;exact ⟨o,e,ex⟩
    ·obtain ⟨_,_,_,_,o,_,_,e,ex,_⟩:=I.hok p _ hk;exact ⟨o,e,ex⟩
   obtain ⟨o,e,ex⟩:=z;refine ⟨⟨o,e,ex.1⟩,fun a e2=>?_⟩;cases e2;exact ⟨o,e,ex.2.1⟩
  ·obtain ⟨o,_,_,_,e,ex,_⟩:=I.hok p _ hk;refine ⟨⟨o,e,ex.1⟩,fun a e2=>?_⟩;cases e2;exact ⟨o,e,ex.2.1⟩
 | _=>exact False.elim ty
def tBM (K:aC) (T:String) (r:V→List V→Hp→VK→Prop) (to:TE) (t:TA):TE:=fun σ H Q=>to σ H fun x H1=>tyV K T x H1∧t σ H1 fun xs H2=>r x xs H2 Q
variable {o e:Expr}{es:List Expr}{to:TE}{t:TA}{name:Str}{apos cpos:Pos}{T id:String}{r:V→List V→Hp→VK→Prop}
theorem Aw (pa:PlainAttrs T) (slot:Slot T name id) (hty:typeOf (.builtin id)=pure (.type "method_descriptor")) (hm:MtR X id r) (ho:PE X o to) (ha:PA X (e :: es) t)
  (hbase:attributeBase o name X.env (eval o X.env)=eval o X.env:=by rfl)
  (hfew:((backTo cpos (starEach (e :: es) X.env)).all (fun x=>!x.1) && (backToKw cpos (keywordEach [] X.env)).all (fun x=>x.1.isSome)
   && decide ((e :: es).length + ([]:List Keyword).length + (if ([]:List Keyword).isEmpty then 0 else 1) < 30))=true:=by rfl)
  (hline:(apos.endLine == cpos.line)=true:=by rfl) (hs:starEach (e :: es) X.env=(false,eval e X.env) :: starEach es X.env:=by rfl) (hplain:(backTo cpos (starEach es X.env)).any (·.1)=false:=by rfl):
  PE X (.Call (.Attribute o name apos) (e :: es) [] cpos) (tBM X.K T r to t):=by
 intro pins s σ H Q I h;refine wpAny_Call_method_late hbase hfew hline rfl (gM (ho pins s σ H _ I h) fun v s1 ⟨x,H1,I1,r1,ty,q1⟩=>?_);obtain ⟨h1,h2⟩:=Zr6 I1 r1 ty;refine ⟨T,id,pa,slot,hty,h1,h2,?_⟩;have hA:=ha cpos pins s1 σ H1 _ I1 q1;rw [hs] at hA ⊢;refine Calls.callWith_builtin (by show (false || (backTo cpos (starEach es X.env)).any (·.1))=false;rw [hplain]<;>rfl) (Calls.evalArgs_plain ?_);exact gM hA fun us s2 ⟨vs,H2,I2,r2,q2⟩=>hm pins s2 σ H2 x vs v us Q I2 r1 r2 q2
end
end L2
namespace L2
open PySem PySem.Spec PyProof.Rows
def MtM (X:Cx) (id:String) (r:V→List V→Hp→VK→Prop):Prop:=
 ∀ (pins:List (Addr×Obj)) (s:Shared) (σ:St) (H:Hp) (x:V) (xs:List V) (v:Value) (us:List Value) (Q:VK),Inv X pins σ H s→RelV x v→Vals xs us→r x xs H Q→
  wpAny (model X.prog X.w) X.A (call (.builtin id) (v :: us)) (EP X pins σ Q) X.xe s
theorem Vals.one:∀ {x:V}{us:List Value},Vals [x] us→∃ u,us=[u]∧RelV x u
 | _,_,.cons r .nil=>⟨_,rfl,r⟩
theorem Vals.eraseIdx:∀ {xs:List V}{us:List Value} (i:Nat),Vals xs us→Vals (xs.eraseIdx i) (us.eraseIdx i)
 | _,_,_,.nil=>.nil
 | _,_,0,.cons _ t=>t
 | _,_,i + 1,.cons r t=>.cons r (Vals.eraseIdx i t)
theorem Vals.rep {xs:List V}{us:List Value} (h:Vals xs us):∀ k:Nat,Vals (List.replicate k xs).flatten (List.replicate k us).flatten
 | 0=>.nil
 | k + 1=>by
  rw [List.replicate_succ,List.replicate_succ,List.flatten_cons,List.flatten_cons];exact Vals.append h (Vals.rep h k)
theorem UG {α:Type}:∀ (l:List α) (i:Nat),(l.eraseIdx i).length≤l.length
 | [],_=>Nat.le_refl _
 | _ :: _,0=>Nat.le_succ _
 | _ :: r,i + 1=>Nat.succ_le_succ (UG r i)
theorem foldl_rep (its:List Value):∀ (k:Nat) (acc:List Value),
  List.foldl (fun x1 x2=>x1 ++ x2) acc.toArray (List.replicate k its.toArray)=(acc ++ (List.replicate k its).flatten).toArray
 | 0,acc=>by simp
 | k + 1,acc=>by
  have e:acc.toArray ++ its.toArray=(acc ++ its).toArray:=by simp
  have e2:(acc ++ its) ++ (List.replicate k its).flatten=acc ++ (List.replicate (k + 1) its).flatten:=by
   rw [List.replicate_succ,List.flatten_cons,List.append_assoc]
  rw [← e2,← foldl_rep its k (acc ++ its),← e,List.replicate_succ,List.foldl_cons]
section
variable {X:Cx}{pins:List (Addr×Obj)}{σ:St}{H:Hp}{s:Shared}{l b:Addr}{xs ys zs:List V}
theorem Inv.Zs8 {its its':List Value}{n:Nat}{f:Array Value→Array Value}{t':Nat} (I:Inv X pins σ H s) (hH:H l=some (.lst xs))
  (e:s.heap.get? l=some { cls:=.type "list",data:=.seq its.toArray n }) (hf:f its.toArray=its'.toArray) (hv:Vals ys its') (hz:ys.length≤sizeLine):
  Inv X pins σ (upd H l (.lst ys)) { s with heap:=s.heap.update l (Obj.mapSeq f),toks:=t' }:=by
 have q:=PySem.IsL.update e f;rw [hf] at q;refine I.write (x:=l) (e:=l) (by rw [hH];exact trivial) (.inl rfl) (fun b' u hb hu=>(Heap.get?_update_other s.heap (Obj.mapSeq f) (Ne.symm hb)).trans hu) ⟨_,q⟩ ?_;exact ⟨hz,its',_,hv,q⟩
theorem Inv.Zuj {its:List Value}{t':Nat} (I:Inv X pins σ H s) (hv:Vals ys its) (hz:ys.length≤sizeLine):
  Inv X pins σ (upd H s.heap.objs.size (.lst ys)) { s with heap:=s.heap.push { cls:=.type "list",data:=.seq its.toArray },toks:=t' }:=
 I.laid (fun _ _ q=>Heap.get?_push_of_some _ q) (Nat.le_refl _) ⟨hz,its,0,hv,Heap.get?_push_size _ rfl⟩
theorem Inv.fresh (I:Inv X pins σ H s):H s.heap.objs.size=none:=I.hok.fresh (Nat.le_refl _)
theorem Inv.Ze4 (I:Inv X pins σ H s) (hH:H l=some (.lst xs)):xs.length≤sizeLine∧∃ (its:List Value) (n:Nat),Vals xs its∧xs.length=its.length∧s.heap.get? l=some { cls:=.type "list",data:=.seq its.toArray n }:=by
 obtain ⟨z,its,n,r,e⟩:=I.hok l _ hH;exact ⟨z,its,n,r,r.length,e⟩
theorem Za0 {n:Nat} (h:n≤sizeLine):Builtin.List.listTooLong n=false:=by
 unfold Builtin.List.listTooLong;exact decide_eq_false (by omega)
end
section
variable {X:Cx}
def uT:V→List V→Hp→VK→Prop:=fun x vs H Q=>∃ l xs y,x=.ref l∧vs=[y]∧H l=some (.lst xs)∧xs.length < sizeLine∧Q .non (upd H l (.lst (xs ++ [y])))
theorem m5:MtM X "list.append" uT:=by
 intro pins s σ H x vs v us Q I rx rv h;obtain ⟨l,xs,y,rfl,rfl,hH,hz,q⟩:=h;cases rx;obtain ⟨u,rfl,ru⟩:=rv.one;obtain ⟨z,its,n,r,hl,e⟩:=I.Ze4 hH;refine call_meets F.slot_list_append ⟨_,e,rfl⟩ F.entry_list_append (F.args_list_append_2 _ _) (PySem.list_append l its.toArray n u (by rw [List.size_toArray];omega)) ⟨e,?_⟩;refine ⟨.non,_,I.Zs8 (its':=its ++ [u]) hH e (by simp) (r.append (.cons ru .nil)) ?_,rfl,q⟩;rw [List.length_append,List.length_singleton];omega
def MT:V→List V→Hp→VK→Prop:=fun x vs H Q=>∃ l b xs zs,x=.ref l∧vs=[.ref b]∧H l=some (.lst xs)∧H b=some (.lst zs)∧xs.length + zs.length≤sizeLine∧Q .non (upd H l (.lst (xs ++ zs)))
theorem JF:MtM X "list.extend" MT:=by
 intro pins s σ H x vs v us Q I rx rv h;obtain ⟨l,b,xs,zs,rfl,rfl,hH,hB,hz,q⟩:=h;cases rx;obtain ⟨u,rfl,ru⟩:=rv.one;cases ru;obtain ⟨z,its,n,r,hl,e⟩:=I.Ze4 hH;obtain ⟨z2,its2,n2,r2,hl2,e2⟩:=I.Ze4 hB;have hsz:its.toArray.size + its2.toArray.size≤sizeLine:=by rw [List.size_toArray,List.size_toArray];omega
 have Zm3:¬ (!its.toArray.isEmpty && Builtin.List.listTooLong (its.toArray.size + its2.toArray.size))=true:=by
  rw [Za0 hsz,Bool.and_false];exact Bool.false_ne_true
 refine call_meets F.slot_list_extend ⟨_,e,rfl⟩ F.entry_list_extend (F.args_list_extend_2 _ _)
  (AutoSeq1.list_extend_list_list_0 l its.toArray n b its2.toArray n2 Zm3 (by rw [List.size_toArray];omega) (by omega)) ⟨e,e2,?_⟩
 refine ⟨.non,_,I.Zs8 (its':=its ++ its2) hH e (by simp) (r.append r2) ?_,rfl,q⟩;rw [List.length_append];omega
def Zjt:V→List V→Hp→VK→Prop:=fun x vs H Q=>∃ l xs i k y,x=.ref l∧vs=[.int i]∧H l=some (.lst xs)∧-(2 ^ 63)≤i∧i < 2 ^ 63∧seqIndex? i xs.length=some k∧xs[k]? =some y∧Q y (upd H l (.lst (xs.eraseIdx k)))
theorem Zky:MtM X "list.pop" Zjt:=by
 intro pins s σ H x vs v us Q I rx rv h;obtain ⟨l,xs,i,k,y,rfl,rfl,hH,h1,h2,hk,hy,q⟩:=h;cases rx;obtain ⟨u,rfl,ru⟩:=rv.one;obtain ⟨t,rfl⟩:=ru;obtain ⟨z,its,n,r,hl,e⟩:=I.Ze4 hH;obtain ⟨w,hw,rw'⟩:=r.get hy;refine call_meets F.slot_list_pop ⟨_,e,rfl⟩ F.entry_list_pop (F.args_list_pop_2 _ _)
  (MeetsSeq.list_pop_at l its.toArray n i t k w (fitsIndex_both h1 h2) (by rw [List.size_toArray,← hl];exact hk) (by rw [← Array.getElem?_toList];exact hw) (by rw [List.size_toArray];omega)) ⟨e,?_⟩
 refine ⟨y,_,I.Zs8 (its':=its.eraseIdx k) hH e ?_ (r.eraseIdx k) ?_,rw',q⟩
 ·show its.toArray.eraseIdxIfInBounds k=(its.eraseIdx k).toArray;rw [List.eraseIdxIfInBounds_toArray]
 ·have:=UG xs k;omega
def yI:R2:=fun x y H Q=>∃ l b xs zs,x=.ref l∧y=.ref b∧H l=some (.lst xs)∧H b=some (.lst zs)∧xs.length + zs.length≤sizeLine∧∀ p,H p=none→Q (.ref p) (upd H p (.lst (xs ++ zs)))
theorem sJ:zy X (binaryOp .Add) yI:=by
 intro pins s σ H x y v u Q I rx ry h;obtain ⟨l,b,xs,zs,rfl,rfl,hH,hB,hz,q⟩:=h;cases rx;cases ry;obtain ⟨z,its,n,r,hl,e⟩:=I.Ze4 hH;obtain ⟨z2,its2,n2,r2,hl2,e2⟩:=I.Ze4 hB;refine PySem.P.add_list e e2 ?_ (by rw [List.size_toArray,List.size_toArray];omega);have ea:its.toArray ++ its2.toArray=(its ++ its2).toArray:=by simp
 rw [ea];exact ⟨.ref _,_,I.Zuj (t':=s.toks) (r.append r2) (by rw [List.length_append];omega),rfl,q _ I.fresh⟩
def ZK:R2:=fun x y H Q=>∃ l k xs,x=.ref l∧y=.int k∧H l=some (.lst xs)∧-(2 ^ 63)≤k∧k < 2 ^ 63∧xs.length * k.toNat≤sizeLine∧
 ∀ p,H p=none→Q (.ref p) (upd H p (.lst (List.replicate k.toNat xs).flatten))
theorem len_rep {α:Type} (xs:List α) (k:Nat):(List.replicate k xs).flatten.length=k * xs.length:=by
 induction k with
 | zero=>simp
 | succ k ih=>rw [List.replicate_succ,List.flatten_cons,List.length_append,ih,Nat.succ_mul,Nat.add_comm]
theorem O3:zy X (binaryOp .Mult) ZK:=by
 intro pins s σ H x y v u Q I rx ry h;obtain ⟨l,k,xs,rfl,rfl,hH,h1,h2,hz,q⟩:=h;cases rx;obtain ⟨t,rfl⟩:=ry;obtain ⟨z,its,n,r,hl,e⟩:=I.Ze4 hH;have hlen:its.toArray.size * k.toNat≤sizeLine:=by rw [List.size_toArray,← hl];exact hz
 have hcap:¬ its.toArray.size * k.toNat > (2 ^ 63 - 1) / 8:=by
  have:(sizeLine:Nat)≤(2 ^ 63 - 1) / 8:=by decide
  omega
 have hfit:¬ (!Builtin.List.listFitsIndex k)=true:=by
  rw [fitsIndex_both h1 h2];exact Bool.false_ne_true
 have Zm3:¬ Builtin.List.listTooLong (its.toArray.size * k.toNat)=true:=by
  rw [Za0 hlen];exact Bool.false_ne_true
 have hnew:List.foldl (fun x1 x2=>x1 ++ x2) #[] (List.replicate (if its.toArray.isEmpty=true then 0 else k.toNat) its.toArray)=(List.replicate k.toNat its).flatten.toArray:=by
  have f0:∀ m:Nat,List.foldl (fun x1 x2=>x1 ++ x2) #[] (List.replicate m its.toArray)=(List.replicate m its).flatten.toArray:=fun m=>by
   have:=foldl_rep its m [];rw [List.nil_append] at this;exact this
  rw [f0];cases its with
  | nil=>simp
  | cons a r'=>rw [if_neg (by simp)]
 refine wpAny_binaryOp_repeat_ref (T:="list") (U:="int") (by decide) ⟨_,e,rfl⟩ (fun s'=>typeIs_int s' k t) noFill_list_mul F.fills_int_mul F.slot_int_rmul repeat_list F.slot_int_index.lookup
  (call_meets F.slot_int_rmul (typeIs_int s k t) F.entry_int_rmul (F.args_int_rmul_2 _ _) (int___rmul___int_list k t l its.toArray n)
   ⟨e,rfl,⟨_,e,rfl⟩,call_meets F.slot_list_mul ⟨_,e,rfl⟩ F.entry_list_mul (F.args_list_mul_2 _ _) (AutoListH.list___mul___list_int_3 l its.toArray n k t hfit hcap Zm3) ⟨e,?_⟩⟩)
 rw [hnew];exact ⟨.ref _,_,I.Zuj (t':=s.toks) (r.rep k.toNat) (by rw [len_rep,Nat.mul_comm];exact hz),rfl,q _ I.fresh⟩
end
section
variable {prog:Program}{w:World}{A:Around}{E:Value→Shared→Prop}{s:Shared}
end
section
variable {X:Cx}
end
end L2
namespace Att
open PySem PySem.W PySem.Calls PyProof.Rows
theorem My {P:Params}{h:Heap}:∀ (ns:List Int) (vs:List Value),WellAll P h vs (ns.map WData.int)→IntsAre vs ns:=by
 intro ns
 induction ns with
 | nil=>
  intro vs w;rw [List.map_nil] at w;cases w;exact .nil
 | cons n ns ih=>
  intro vs w;rw [List.map_cons] at w;cases w with
  | cons a b=>
   cases a;exact .cons _ _ (ih _ b)
theorem Zgx {l:OpenLaw}{n:Nat} (hn:l.most=some n) {P:Params}{h:Heap}{args:List WData}{vals:List Value}
  (hpre:l.row.toRowW.claim.pre args=true) (hwl:WellAll P h vals args):
  ∃ a vs ns,vals=[Value.ref a]∧args=[WData.list (ns.map WData.int)]∧h.get? a=some { cls:=.type "list",data:=.seq vs.toArray }∧IntsAre vs ns∧ns.length≤n:=by
 have hsh:WShape.hasAll [] args [.list .int]=true:=(pre_splitW hpre).1;have hc:l.pre.holds [] { args:=args }=true:=(pre_splitW hpre).2;obtain ⟨d,r,rfl,h1,h2⟩:=hasAllW_cons hsh;obtain rfl:=hasAllW_nil h2;obtain ⟨xs,rfl,h3⟩:=hasW_list h1;obtain ⟨ns,rfl⟩:=items_int h3;have hlen:ns.length≤n:=by
  unfold OpenLaw.pre at hc;have h4:(WTm.not (.lt (.lit (.int (n:Int))) (.len (.arg 0)))).holds [] { args:=[.list (ns.map .int)] }=true:=by
   have h4:=(holds_andW hc).1;rw [hn] at h4;exact h4
  have h5:=condW_of h4 (w_not (w_lt w_lit (w_len_list (w_arg rfl))));rw [bu] at h5;refine Nat.le_of_not_lt fun q=>?_;have q':(n:Int) < ((ns.length:Nat):Int):=by omega
  first
   | (rw [decide_eq_true q'] at h5;exact absurd h5 (by decide))
   | (simp at h5;omega)
 cases hwl with
 | cons w1 w2=>
  cases w2;cases w1 with
  | list ho hall=>exact ⟨_,_,ns,rfl,rfl,ho,My ns _ hall,hlen⟩
theorem Zh5 (l:OpenLaw) (args:List WData):l.row.toRowW.claim.post args (.bool true) args=true:=
 postW_of (r:=l.row.toRowW) (X:=(true == true))
  (show WShape.has [] (.bool true) .bool=true by first | rfl | decide | simp [WShape.has,WShape.arms,WShape.armsAll])
  (show (WTm.eq .res (.lit (.bool true))).value [] { args:=args,res:=some (.bool true),after:=args }=some (.bool (true == true)) from w_eq_bool (w_res rfl) w_lit) rfl
theorem Zbi {l:OpenLaw}{n:Nat}{q:Program}{loose:List Str}{XP:(Str→Option Value)→Heap→Prop}{YP:World→Heap→Prop}{d:DefRec}
  (hn:l.most=some n) (hdf:d.params.defaults=[])
  (call:∀ (w:World) (s₀ s₁:Shared) (mg mb:Str→Option Value) (fa:Addr) (o:Obj) (pm cd doc:Value) (a:Addr) (vs:List Value) (ns:List Int),
   Ground q loose [] XP w s₀ mg mb s₁.heap→YP w s₁.heap→
   s₁.heap.get? fa=some o→o.data=.func (docDef d.name d.params d.body d.scope pm cd doc)→s₁.heap.CodeRec cd d.name→mg d.name=some (.ref fa)→
   s₁.heap.get? a=some { cls:=.type "list",data:=.seq vs.toArray }→IntsAre vs ns→ns.length≤n→s₁.gens=#[]→
   codeAny (model l.prog w) callerA (.call (.ref fa) ⟨[.ref a],[]⟩) (fun r s'=>r=.ok (.ret (.bool true))∧OldK s₁.heap s'.heap∧s'.os=s₁.os∧AllBare s'.gens) s₁):
  WalkO q loose XP YP l.row.toRowW d [] (fun f vs=>PySem.call f vs):=by
 intro w s₀ s₁ mg mb G Y fa o pm cd doc dV kV ho hd hcd hD hmg hg args vals as hpre hlay hrd hwl hlo;obtain rfl:dV=.none:=Dflts.none hD hdf;obtain rfl:kV=.none:=Dflts.noKw hD;obtain ⟨a,vs,ns,rfl,rfl,hobj,hints,hlen⟩:=Zgx hn hpre hwl;refine enter_call (codeAny_mono (call w s₀ s₁ mg mb fa o pm cd doc a vs ns G Y ho (fd_plain hd) hcd hmg hobj hints hlen hg) fun r s' hq=>?_);obtain ⟨rfl,h2,h3,h4⟩:=hq;exact ⟨.inl ⟨.bool true,.bool true,[],rfl,fun _=>rfl,.bool true,Zh5 l _,fun _=>⟨List.Pairwise.nil,fun _ hm=>(nomatch hm)⟩⟩,h2,h3,h4⟩
section
variable {prog:Program}{w:World}{A:Around}{E:Value→Shared→Prop}{s:Shared}{K:Frag}
end
end Att
namespace L2
open PySem PySem.Spec PyProof.Rows
theorem TY:∀ {vs:List Value}{ns:List Int},IntsAre vs ns→Vals (ns.map V.int) vs
 | _,_,.nil=>.nil
 | _,_,.cons n t h=>.cons ⟨t,rfl⟩ (TY h)
def Only (H:Hp):Prop:=∀ b,H b=none∨∃ o xs,H b=some (.xO o (.lst xs))
theorem Zlm {P:Program}{w:World}{K:aC}{mg mb:Str→Option Value}{CX:Zn}{k:Nat}{fa a:Addr}{fd:FuncData}{x:Str}{sp:Sp}{s₁:Shared}{vs:List Value}{ns:List Int}
  (KX:K.In s₁.heap) (hns:s₁.heap.Ns mainGlobals mg) (hb:s₁.heap.Ns builtinsNs mb) (hbb:∀ x:Str,x≠"__name__"→mb x=bootBuiltins x) (hlim:s₁.heap.NoLimit) (hg:s₁.gens=#[])
  (ha:s₁.heap.get? a=some { cls:=.type "list",data:=.seq vs.toArray }) (hi:IntsAre vs ns) (hl:ns.length≤sizeLine) (hr:Room k callerA)
  (F:∀ base:Heap,K.In base→base.Ns mainGlobals mg→uK P w K mg base CX k fa fd [x] sp) (hbind:∀ (s:Shared) (u:Value),BindsTo s fd ⟨[u],[]⟩ [(x,u)])
  (hsp:∀ H:Hp,Only H→cU K H a (ns.map V.int)→sp [.ref a] H (fun v _=>v=.bl true) fun _ _ _=>False)
  (hCX:∀ H e s',CX [] H s₁ (fun _ _ _=>False) e s'→False):
  codeAny (model P w) callerA (.call (.ref fa) ⟨[.ref a],[]⟩) (fun r s'=>r=.ok (.ret (.bool true))∧OldK s₁.heap s'.heap∧s'.os=s₁.os∧AllBare s'.gens) s₁:=by
 have rv:=TY hi;have lenV:=hi.length;have core:∀ H:Hp,Only H→cU K H a (ns.map V.int)→zM P w H s₁.heap→(∀ b,H b≠none→b=a)→(H a≠none→K.lookup a=none)→
   codeAny (model P w) callerA (.call (.ref fa) ⟨[.ref a],[]⟩) (fun r s'=>r=.ok (.ret (.bool true))∧OldK s₁.heap s'.heap∧s'.os=s₁.os∧AllBare s'.gens) s₁:=by
  intro H hO hS hok hA hK;have Zgj:∀ {b:Addr}{o:Obj},s₁.heap.get? b=some o→H b=none→(X6 s₁.heap H).get? b=some o:=fun e n=>Zm4 e n;have noA:∀ {b:Addr}{o:Obj}{es:Array DictEntry}{ep:Nat},s₁.heap.get? b=some o→o.data=.dict es ep→H b=none:=fun {b o es ep} e d=>by
   cases q:H b with
   | none=>rfl
   | some u=>
    have e':b=a:=hA b (by rw [q];simp);subst e';rw [ha] at e;cases e;have d':Data.seq vs.toArray _=Data.dict es ep:=d;cases d'
  have nsK:∀ {b:Addr}{m:Str→Option Value},s₁.heap.Ns b m→(X6 s₁.heap H).Ns b m:=fun {b m} ⟨o,es,ep,e,d,r⟩=>⟨o,es,ep,Zgj e (noA e d),d,r⟩;have hKb:K.In (X6 s₁.heap H):=fun b o e=>Zgj (KX b o e) (by
   cases q:H b with
   | none=>rfl
   | some u=>
    have e':b=a:=hA b (by rw [q];simp);subst e';rw [hK (by rw [q];simp)] at e;cases e)
  have hM:Mod K mg (X6 s₁.heap H):=⟨hKb,nsK hns,⟨mb,nsK hb,hbb⟩,let ⟨mc,h1,h2⟩:=hlim;⟨mc,nsK h1,h2⟩⟩;have e0:Zfk P w K mg (X6 s₁.heap H) callerA [] s₁ H:=⟨rfl,hM,fun b o e=>Zot e,Nat.le_of_eq (Zid _ _),trivial,fun b hb=>absurd (show b∈([]:List Addr) from hb) (by simp),hok,.of_eq hg⟩;refine codeAny_mono ((F _ hKb (nsK hns)).run callerA [] s₁ H ⟨[.ref a],[]⟩ [.ref a] [.ref a] _ _ hr e0 (hbind s₁ (.ref a)) (.cons rfl .nil) (hsp H hO hS)) fun r s' h=>?_;cases r with
  | error e=>exact (hCX H e s' h).elim
  | ok fl=>
   cases fl with
   | next=>exact False.elim h
   | brk=>exact False.elim h
   | cont=>exact False.elim h
   | ret u=>
    obtain ⟨v,H',os,bare,un,hok',r',q⟩:=h;have q':v=.bl true:=q;subst q';obtain rfl:u=Value.bool true:=r';refine ⟨rfl,OldK.of_keep fun b o e=>?_,os,bare⟩;cases q:H b with
    | none=>exact un.keep b o e q (by intro z;exact absurd (show b∈([]:List Addr) from z) (by simp)) (by simp)
    | some u=>
     rcases hO b with z | ⟨ob,xs,z⟩
     ·rw [q] at z;cases z
     ·have z2:=un.BL b ob _ z;obtain ⟨e1,_⟩:=hok b _ z;obtain ⟨e2,_⟩:=hok' b _ z2;rw [e] at e1;cases e1;exact e2
 cases hk:K.lookup a with
 | some o=>
  have e:=KX a o hk;rw [ha] at e;cases e;refine core (fun _=>none) (fun _=>.inl rfl) (.inr ⟨_,vs.toArray,_,hk,rfl,rfl,rfl,by rw [List.size_toArray,lenV];exact hl,by simpa using rv⟩) (fun b u z=>by have z':(none:Option HO)=some u:=z;cases z') (fun b z=>absurd rfl z) fun z=>absurd rfl z
 | none=>
  refine core (fun b=>if b=a then some (.xO { cls:=.type "list",data:=.seq vs.toArray } (.lst (ns.map V.int))) else none) (fun b=>?_) (.inl (.inr ⟨{ cls:=.type "list",data:=.seq vs.toArray },if_pos rfl⟩)) (fun b u z=>?_) (fun b z=>?_) fun _=>hk
  ·by_cases hb:b=a
   ·exact .inr ⟨_,_,if_pos hb⟩
   ·exact .inl (if_neg hb)
  ·by_cases hb:b=a
   ·have z':=(if_pos hb).symm.trans z;cases z';subst hb;exact ⟨ha,by rw [bu];exact hl,vs,_,rv,ha⟩
   ·have z':=(if_neg hb).symm.trans z;cases z'
  ·by_cases hb:b=a
   ·exact hb
   ·exact absurd (if_neg hb) z
end L2
namespace L2
open PySem PySem.Spec PyProof.Rows
theorem Zn8 {l:PySem.W.OpenLaw}{n k:Nat}{q:Program}{loose:List Str}{XP:(Str→Option Value)→Heap→Prop}{YP:World→Heap→Prop}{d:DefRec}{K:Params→aC}{CX:World→Zn}{sp:World→Sp}{x:Str}
  (hn:l.most=some n) (hn2:n≤sizeLine) (hdf:d.params.defaults=[]) (hr:Room k callerA)
  (hY:∀ (w:World) (h:Heap),YP w h→(K w.params).In h)
  (F:∀ (w:World) (mg:Str→Option Value) (fa:Addr) (h:Heap),(K w.params).In h→h.Ns mainGlobals mg→mg d.name=some (.ref fa)→
   ∃ fd:FuncData,(∀ (s:Shared) (u:Value),BindsTo s fd ⟨[u],[]⟩ [(x,u)])∧
    ∀ base:Heap,(K w.params).In base→base.Ns mainGlobals mg→uK l.prog w (K w.params) mg base (CX w) k fa fd [x] (sp w))
  (hsp:∀ (w:World) (H:Hp) (a:Addr) (ns:List Int),ns.length≤n→Only H→cU (K w.params) H a (ns.map V.int)→sp w [.ref a] H (fun v _=>v=.bl true) fun _ _ _=>False)
  (hCX:∀ (w:World) (H:Hp) (s:Shared) (e:Value) (s':Shared),CX w [] H s (fun _ _ _=>False) e s'→False):
  PySem.W.WalkO q loose XP YP l.row.toRowW d [] (fun f vs=>PySem.call f vs):=by
 refine Att.Zbi hn hdf fun w s₀ s₁ mg mb fa o pm cd doc a vs ns G Y ho hd hcd hmg hobj hints hlen hg=>?_;have KX:=hY w _ Y;obtain ⟨fd,hb,hF⟩:=F w mg fa _ KX G.T.g hmg;exact Zlm KX G.T.g G.T.b G.T.builtins G.T.nolimit hg hobj hints (Nat.le_trans hlen hn2) hr hF hb (fun H hO hS=>hsp w H a ns hlen hO hS) fun H e s'=>hCX w H s₁ e s'
end L2
namespace L2
open PySem PySem.Spec PyProof.Rows
def inClass (s:Stmt) (j:Nat):Stmt:=match s with
 | .ClassDef _ _ _ body _ _ _ _ _ _ _=>body.getD j (.Pass ⟨0,0,0,0⟩)
 | _=>.Pass ⟨0,0,0,0⟩
def mJ (s:Stmt):Arguments:=match s with
 | .FunctionDef _ a _ _ _ _ _ _ _ _=>a
 | _=>{ posonlyargs:=[],args:=[],vararg:=none,kwonlyargs:=[],kw_defaults:=[],kwarg:=none,defaults:=[] }
def jR (s:Stmt):List Stmt:=match s with
 | .FunctionDef _ _ b _ _ _ _ _ _ _=>b
 | _=>[]
def aF (s:Stmt):Scope:=match s with
 | .FunctionDef _ _ _ _ _ _ sc _ _ _=>sc
 | _=>{ kind:=.function,names:=[],isGenerator:=false,isCoroutine:=false }
abbrev E0:XK:=fun _ _ _=>False
structure jF (K:aC) (x qual:Str) (st:Stmt) (f:Addr) (fd:FuncData):Prop where
 ex:∃ (oc:Value) (od:Option Addr) (kV doc pm:Value) (an:Option Addr) (cdv ct:Value) (osl:Array (Option Value)),
  fd=PySem.W.fnOf x qual (mJ st) (jR st) (aF st) .none kV doc pm an cdv ct∧K.lookup f=some ⟨oc,od,.func fd,osl⟩∧PySem.W.codeIn K cdv qual=true
 kp:PySem.W.keepIn K (.ref f)=true
section
variable {P:Program}{w:World}{K:aC}{mg:Str→Option Value}{base:Heap}
theorem jF.binds {x qual:Str}{st:Stmt}{f:Addr}{fd:FuncData}{ps:List Str} (F:jF K x qual st f fd)
  (h:∀ (kV doc pm:Value) (an:Option Addr) (cdv ct:Value) (us:List Value),us.length=ps.length→bindArgs (PySem.W.fnOf x qual (mJ st) (jR st) (aF st) .none kV doc pm an cdv ct) ⟨us,[]⟩=pure (ps.zip us)):Binds K fd ps []:=by
 obtain ⟨oc,od,kV,doc,pm,an,cdv,ct,osl,rfl,lk,hcd⟩:=F.ex;exact .all (h kV doc pm an cdv ct)
theorem Zmf {x qual:Str}{st:Stmt}{f:Addr}{oc:Value}{od an:Option Addr}{osl:Array (Option Value)}{kV doc pm cdv ct:Value} (l:K.lookup f=some ⟨oc,od,.func (PySem.W.fnOf x qual (mJ st) (jR st) (aF st) .none kV doc pm an cdv ct),osl⟩)
  (c:PySem.W.codeIn K cdv qual=true) (k:PySem.W.keepIn K (.ref f)=true):jF K x qual st f (PySem.W.fnOf x qual (mJ st) (jR st) (aF st) .none kV doc pm an cdv ct):=⟨⟨oc,od,kV,doc,pm,an,cdv,ct,osl,rfl,l,c⟩,k⟩
end
theorem Qn {A:Around}{k:Nat} (hr:Room k A):A.units + 1 < cLine:=Nat.lt_of_le_of_lt (Nat.add_le_add_left (by decide:1≤64) _) hr.units
section
variable {X:Cx}
theorem pv (i:Nat) {x:Str}{pos:Pos} (hN:X.N[i]? =some x:=by rfl) (hv:Vis X.env.scope x:=by first | exact Or.inl rfl | exact Or.inr (Or.inl rfl) | exact Or.inr (Or.inr rfl)) (hd:(x == ("__debug__":Str))=false:=by decide)
  (hcd:(x == ("__classdict__":Str))=false:=by decide):PE X (.Name x pos) (ak i):=Zk7 hN hv hd hcd
end
theorem Zpa {A B:Prop} (h:B):if false=true then A else B:=by
 rw [if_neg Bool.false_ne_true];exact h
theorem Zea {A B:Prop} (h:A):if true=true then A else B:=by
 rw [if_pos rfl];exact h
theorem Zsh {c A B:Prop} [Decidable c] (h1:c→A) (h2:¬ c→B):if c then A else B:=by
 by_cases h:c
 ·rw [if_pos h];exact h1 h
 ·rw [if_neg h];exact h2 h
def aY (H H':Hp):Prop:=∀ b o,H b=some o→H' b=some o
theorem aY.refl (H:Hp):aY H H:=fun _ _ h=>h
theorem aY.trans {H H1 H2:Hp} (a:aY H H1) (b:aY H1 H2):aY H H2:=fun c o h=>b c o (a c o h)
theorem aY.free {H H':Hp} (e:aY H H') {l:Addr} (h:H' l=Option.none):H l=Option.none:=by
 cases q:H l with
 | none=>rfl
 | some o=>
  rw [e l o q] at h;cases h
theorem aY.seq {K:aC}{H H':Hp}{a:Addr}{xs:List V} (e:aY H H') (h:cU K H a xs):cU K H' a xs:=by
 rcases h with (h | ⟨o,h⟩) | h
 ·exact .inl (.inl (e _ _ h))
 ·exact .inl (.inr ⟨o,e _ _ h⟩)
 ·exact .inr h
end L2
namespace L2
open PySem PySem.Spec PyProof.Rows
end L2
namespace L2
open PySem PySem.Spec PyProof.Rows
end L2
namespace L2
open PySem PySem.Spec PyProof.Rows
section
variable {X:Cx}{pins:List (Addr×Obj)}{σ:List (Option V)}{H H':Hp}{s:Shared}{h':Heap}
end
end L2
namespace L2
open PySem PySem.Spec PyProof.Rows
section
variable {X:Cx}
variable {a b:Expr}{ta tb:TE}{pos:Pos}
variable {tA tB':TT}{rest:List Expr}
end
end L2
namespace L2
open PySem PySem.Spec PyProof.Rows
end L2
namespace L2
open PySem PySem.Spec PyProof.Rows
end L2
namespace L2
open PySem PySem.Spec PyProof.Rows
section
variable {X:Cx}{a b c:Expr}{ta tb tc:TE}{pos:Pos}
end
end L2
namespace L2
open PySem PySem.Spec PyProof.Rows
section
variable {prog:Program}{w:World}{A:Around}{E:Value→Shared→Prop}{s:Shared}{K:aC}{x dx C f:Addr}{mA:Str→Option Value}{name:Str}{v:Value}
end
section
variable {X:Cx}{pins:List (Addr×Obj)}{σ:St}{H:Hp}{s:Shared}{a C dx:Addr}{fs:List (Str×V)}{f:Str}{v:V}{A:Around}{E:Value→Shared→Prop}
end
end L2
namespace L2
open PySem PySem.Spec PyProof.Rows
section
variable {X:Cx}{CX:Zn}{k:Nat}{f C:Addr}{fd:FuncData}{ps:List Str}{sp:Sp}{uM:List V}{ds:List Value}{E:XK}{x m:Str}{p pos apos:Pos}{e o:Expr}{es:List Expr}{ta:TE}{t:TA}
end
end L2
namespace L2
open PySem PySem.Spec PyProof.Rows
section
variable {X:Cx}{x:Str}{p pos:Pos}{e:Expr}{es:List Expr}{t:TA}{id T:String}{r:List V→Hp→VK→Prop}
end
end L2
namespace L2
open PySem PySem.Spec PyProof.Rows
section
variable {κ:Type} [DecidableEq κ]
def rK (kvs:List (κ×V)) (k:κ):Option V:=(kvs.find? fun kv=>decide (kv.1=k)).map (·.2)
def putK (kvs:List (κ×V)) (k:κ) (v:V):List (κ×V):=
 if (kvs.any fun kv=>decide (kv.1=k))=true then kvs.map (fun kv=>if kv.1=k then (kv.1,v) else kv) else kvs ++ [(k,v)]
theorem Fj {p:κ×V}{r:List (κ×V)}{k:κ} (e:p.1=k):rK (p :: r) k=some p.2:=by simp [rK,List.find?_cons,e]
theorem Fl {p:κ×V}{r:List (κ×V)}{k:κ} (e:¬ p.1=k):rK (p :: r) k=rK r k:=by simp [rK,List.find?_cons,e]
theorem NK (k:κ):∀ kvs:List (κ×V),(kvs.any fun kv=>decide (kv.1=k))=(rK kvs k).isSome
 | []=>rfl
 | p :: r=>by
  rw [List.any_cons]
  by_cases e:p.1=k
  ·simp only [Fj e,decide_eq_true e,Bool.true_or,Option.isSome_some]
  ·rw [Fl e,decide_eq_false e,Bool.false_or];exact NK k r
theorem Lj (kvs:List (κ×V)) (k:κ) (v:V):(putK kvs k v).length≤kvs.length + 1:=by
 unfold putK;split
 ·rw [bu];omega
 ·rw [List.length_append,List.length_cons,List.length_nil];omega
theorem Zjz {kvs:List (κ×V)}{k:κ} (v:V) (h:rK kvs k=none):putK kvs k v=kvs ++ [(k,v)]:=by
 unfold putK;rw [NK,h];exact if_neg (by decide)
theorem Di.JW {o:Option V}{u:Option Value} (r:Di o u):o.isSome=u.isSome:=by
 cases o with
 | none=>cases u with
  | none=>rfl
  | some _=>exact (show False from r).elim
 | some _=>cases u with
  | none=>exact (show False from r).elim
  | some _=>rfl
theorem KV.val {kvs:List (κ×V)}{vs:List (κ×Value)} (r:KV kvs vs) (k:κ):Di (rK kvs k) (valueAt vs k):=by
 unfold KV at r
 induction r with
 | nil=>exact True.intro
 | @cons p q ps qs h t ih=>
  obtain ⟨h1,h2⟩:=h
  by_cases e:p.1=k
  ·have e':q.1=k:=h1.symm.trans e;have b:valueAt (q :: qs) k=some q.2:=by simp [valueAt,List.find?_cons,e']
   rw [Fj e,b];exact h2
  ·have e':¬ q.1=k:=fun z=>e (h1.trans z);have b:valueAt (q :: qs) k=valueAt qs k:=by simp [valueAt,List.find?_cons,e']
   rw [Fl e,b];exact ih
theorem KV.any {kvs:List (κ×V)}{vs:List (κ×Value)} (r:KV kvs vs) (k:κ):(kvs.any fun kv=>decide (kv.1=k))=vs.any fun kv=>decide (kv.1=k):=by
 unfold KV at r
 induction r with
 | nil=>rfl
 | cons h t ih=>rw [List.any_cons,List.any_cons,ih,h.1]
theorem KV.repl {kvs:List (κ×V)}{vs:List (κ×Value)} (r:KV kvs vs) (k:κ) {y:V}{u:Value} (ry:RelV y u):
  KV (kvs.map fun kv=>if kv.1=k then (kv.1,y) else kv) (vs.map fun kv=>if kv.1=k then (kv.1,u) else kv):=by
 unfold KV at r ⊢
 induction r with
 | nil=>exact .nil
 | @cons p q ps qs h t ih=>
  rw [List.map_cons,List.map_cons];refine .cons ?_ ih;obtain ⟨h1,h2⟩:=h
  by_cases e:p.1=k
  ·rw [if_pos e,if_pos (h1.symm.trans e)];exact ⟨h1,ry⟩
  ·rw [if_neg e,if_neg (fun z=>e (h1.trans z))];exact ⟨h1,h2⟩
theorem KV.put {kvs:List (κ×V)}{vs:List (κ×Value)} (r:KV kvs vs) (k:κ) {y:V}{u:Value} (ry:RelV y u):KV (putK kvs k y) (stored vs k u):=by
 unfold putK stored;rw [r.any k]
 by_cases e:(vs.any fun kv=>decide (kv.1=k))=true
 ·rw [if_pos e,if_pos e];exact r.repl k ry
 ·rw [if_neg e,if_neg e];exact Paired.snoc r ⟨rfl,ry⟩
theorem KV.length {kvs:List (κ×V)}{vs:List (κ×Value)} (r:KV kvs vs):kvs.length=vs.length:=Paired.length r
end
theorem Zg6 {P:Program}{w:World}{k:Key}{u:Value} (r:RelV (kV k) u):(d7 P w).is k u=true:=by
 cases k with
 | inl i=>obtain ⟨t,e⟩:=(show ∃ t,u=Value.int i t from r);subst e;exact Zab P w i t
 | inr x=>obtain ⟨t,e⟩:=(show ∃ t,u=Value.str x t from r);subst e;exact Zaa P w x t
theorem UL {P:Program}{w:World}:∀ {ks:List Key}{us:List Value},Vals (ks.map kV) us→ItemsAre (d7 P w) ks us
 | [],_,r=>by rw [List.map_nil] at r;cases r;exact .nil
 | k :: ks,_,r=>by
  rw [List.map_cons] at r;cases r with
  | cons h t=>exact .cons (Zg6 h) (UL t)
abbrev KT (H:Hp):List (List Key×V)→List (List Key×Addr×Value)→Prop:=Paired fun p q=>p.1=q.1∧H q.2.1=some (.tup (p.1.map kV))∧RelV p.2 q.2.2
theorem KT.val {H:Hp}{kvs:List (List Key×V)}{xs:List (List Key×Addr×Value)} (r:KT H kvs xs) (k:List Key):Di (rK kvs k) ((atKey xs k).map (·.2)):=by
 induction r with
 | nil=>exact True.intro
 | @cons p q ps qs h t ih=>
  obtain ⟨h1,_,h2⟩:=h
  by_cases e:p.1=k
  ·have e':q.1=k:=h1.symm.trans e;have b:atKey (q :: qs) k=some q.2:=by simp [atKey,List.find?_cons,e']
   rw [Fj e,b];exact h2
  ·have e':¬ q.1=k:=fun z=>e (h1.trans z);have b:atKey (q :: qs) k=atKey qs k:=by simp [atKey,List.find?_cons,e']
   rw [Fl e,b];exact ih
theorem KT.repl {H:Hp}{kvs:List (List Key×V)}{xs:List (List Key×Addr×Value)} (r:KT H kvs xs) (k:List Key) {y:V}{u:Value} (ry:RelV y u):
  KT H (kvs.map fun kv=>if kv.1=k then (kv.1,y) else kv) (xs.map (putAt k u)):=by
 induction r with
 | nil=>exact .nil
 | @cons p q ps qs h t ih=>
  rw [List.map_cons,List.map_cons];refine .cons ?_ ih;obtain ⟨h1,h2,h3⟩:=h;unfold putAt
  by_cases e:p.1=k
  ·rw [if_pos e,if_pos (h1.symm.trans e)];exact ⟨h1,h2,ry⟩
  ·rw [if_neg e,if_neg (fun z=>e (h1.trans z))];exact ⟨h1,h2,h3⟩
theorem KT.put {H:Hp}{kvs:List (List Key×V)}{xs:List (List Key×Addr×Value)} (r:KT H kvs xs) (k:List Key) {b:Addr}{y:V}{u:Value} (hb:H b=some (.tup (k.map kV))) (ry:RelV y u):
  KT H (putK kvs k y) (storedH xs k b u):=by
 have e:(kvs.any fun kv=>decide (kv.1=k))=(atKey xs k).isSome:=by
  rw [NK,(r.val k).JW,Option.isSome_map]
 unfold putK storedH;rw [e]
 by_cases q:(atKey xs k).isSome=true
 ·rw [if_pos q,if_pos q];exact r.repl k ry
 ·rw [if_neg q,if_neg q];exact Paired.snoc r ⟨rfl,hb,ry⟩
theorem KT.keeps {H H':Hp}{kvs:List (List Key×V)}{xs:List (List Key×Addr×Value)} (r:KT H kvs xs) (ht:∀ b ys,H b=some (.tup ys)→H' b=some (.tup ys)):KT H' kvs xs:=
 Paired.Zs6 r fun _ _ z=>⟨z.1,ht _ _ z.2.1,z.2.2⟩
section
variable {P:Program}{w:World}{H:Hp}{h:Heap}{a:Addr}
theorem Zqp {u:HO} (ok:zM P w H h) (e:Rd H a u):jO P w H h a u:=e.ok ok
theorem Dy {kvs:List (Key×V)} (ok:zM P w H h) (e:Rd H a (.dK kvs)):kvs.length≤sizeLine∧(a == sysModules)=false∧∃ vs,KV kvs vs∧h.DictOf (d7 P w) a vs:=
 show jO P w H h a (.dK kvs) from Zqp ok e
theorem Zr3 {kvs:List (Key×V)} (ok:zM P w H h) (e:H a=some (.dK kvs)):kvs.length≤sizeLine∧(a == sysModules)=false∧∃ vs,KV kvs vs∧h.DictOf (d7 P w) a vs:=Dy ok (.inl e)
theorem Xz {ks:List Key} (ok:zM P w H h) (e:H a=some (.tup (ks.map kV))):(tupleKind (d7 P w)).is h ks a:=by
 obtain ⟨_,its,r,o,h1,h2,n,h3⟩:=(show jO P w H h a (.tup (ks.map kV)) from ok a _ e);exact ⟨o,its.toArray,n,h1,h2,h3,by simpa using UL r⟩
theorem Zb6 {kvs:List (List Key×V)} (ok:zM P w H h) (e:Rd H a (.dT kvs)):kvs.length≤sizeLine∧(a == sysModules)=false∧
  ∃ xs,KT H kvs xs∧h.DictOfH (tupleKind (d7 P w)) a xs:=by
 obtain ⟨z,y,xs,r,o,es,ep,h1,h2,h3,h4,h5⟩:=(show jO P w H h a (.dT kvs) from Zqp ok e);refine ⟨z,y,xs,r,o,es,ep,h1,h2,h3,h4,fun x hx=>?_,h5⟩;have all:∀ {l:List (List Key×V)}{m:List (List Key×Addr×Value)},KT H l m→∀ x∈m,(tupleKind (d7 P w)).is h x.1 x.2.1:=by
  intro l m q
  induction q with
  | nil=>intro x hx;exact nomatch hx
  | @cons p q ps qs hq t ih=>
   intro x hx;rcases List.mem_cons.mp hx with e | hx
   ·subst e;exact Xz ok (by rw [← hq.1];exact hq.2.1)
   ·exact ih x hx
 exact all r x hx
theorem Zvd {kvs:List (List Key×V)} (ok:zM P w H h) (e:H a=some (.dT kvs)):kvs.length≤sizeLine∧(a == sysModules)=false∧
  ∃ xs,KT H kvs xs∧h.DictOfH (tupleKind (d7 P w)) a xs:=Zb6 ok (.inl e)
end
def QS (H:Hp) (a:Addr) (y:V) (r:Option V):Prop:=
 (∃ kvs k,Rd H a (.dK kvs)∧y=kV k∧r=rK kvs k)∨∃ kvs k b,Rd H a (.dT kvs)∧y=.ref b∧H b=some (.tup (k.map kV))∧r=rK kvs k
def Zbz (H:Hp) (a:Addr) (y v:V) (H':Hp):Prop:=
 (∃ kvs k,H a=some (.dK kvs)∧y=kV k∧kvs.length < sizeLine∧H'=upd H a (.dK (putK kvs k v)))∨
 ∃ kvs k b,H a=some (.dT kvs)∧y=.ref b∧H b=some (.tup (k.map kV))∧kvs.length < sizeLine∧H'=upd H a (.dT (putK kvs k v))
theorem QS.k {H:Hp}{a:Addr}{kvs:List (Key×V)}{k:Key} (e:H a=some (.dK kvs)):QS H a (kV k) (rK kvs k):=.inl ⟨kvs,k,.inl e,rfl,rfl⟩
theorem Zbz.k {H:Hp}{a:Addr}{kvs:List (Key×V)}{k:Key}{v:V} (e:H a=some (.dK kvs)) (hl:kvs.length < sizeLine):Zbz H a (kV k) v (upd H a (.dK (putK kvs k v))):=.inl ⟨kvs,k,e,rfl,hl,rfl⟩
section
variable {X:Cx}{pins:List (Addr×Obj)}{σ:St}{H:Hp}{s:Shared}{a:Addr}{y v:V}{u r:Value}{o:Option V}{A:Around}{E:Value→Shared→Prop}
theorem Inv.big (I:Inv X pins σ H s):sysModules < s.heap.objs.size:=by
 have h:mainGlobals < s.heap.objs.size:=(I.mod.glob.keeps I.bk).lt;exact Nat.lt_trans (by decide) h
theorem Ziv {Q:Value→Shared→Prop} (hu:A.units + 1 < cLine) (I:Inv X pins σ H s) (g:QS H a y (some v)) (ry:RelV y u) (h:∀ w' s',Inv X pins σ H s'→RelV v w'→Q w' s'):
  wpAny (model X.prog X.w) A (getItem (.ref a) u) Q E s:=by
 rcases g with ⟨kvs,k,e,ey,l⟩ | ⟨kvs,k,b,e,ey,eb,l⟩
 ·subst ey;obtain ⟨z,hd,vs,rel,dd⟩:=Dy I.hok e;obtain ⟨w',hw,rw'⟩:=Di.some_of (v:=v) (o:=valueAt vs k) (by rw [l];exact rel.val k);exact wpAny_getItem_of (Zg6 ry) dd.mapOf hw (h w' _ (I.tok _) rw')
 ·subst ey;cases (show u=Value.ref b from ry);obtain ⟨z,hd,xs,rel,dd⟩:=Zb6 I.hok e;obtain ⟨w',hw,rw'⟩:=Di.some_of (v:=v) (o:=(atKey xs k).map (·.2)) (by rw [l];exact rel.val k);obtain ⟨p,hp,hp2⟩:=Option.map_eq_some_iff.mp hw;refine wpAny_getItem_heap (tupleKind_room_in1 hu) (Xz I.hok eb) dd hp ?_;rw [hp2];exact h w' _ (I.tok _) rw'
theorem Zgg {Q:Value→Shared→Prop} (hu:A.units + 1 < cLine) (I:Inv X pins σ H s) (g:QS H a y o) (ry:RelV y u) (h:∀ s',Inv X pins σ H s'→Q (.bool (!o.isSome)) s'):
  wpAny (model X.prog X.w) A (compareOp .NotIn u (.ref a)) Q E s:=by
 rcases g with ⟨kvs,k,e,ey,l⟩ | ⟨kvs,k,b,e,ey,eb,l⟩
 ·subst ey;obtain ⟨z,hd,vs,rel,dd⟩:=Dy I.hok e;refine wpAny_notIn_of (Zg6 ry) hd dd.mapOf ?_;rw [← (rel.val k).JW,← l];exact h _ (I.tok _)
 ·subst ey;cases (show u=Value.ref b from ry);obtain ⟨z,hd,xs,rel,dd⟩:=Zb6 I.hok e;refine wpAny_notIn_heap (tupleKind_room_in1 hu) (Xz I.hok eb) hd dd ?_;have q:=(rel.val k).JW;rw [Option.isSome_map] at q;rw [← q,← l];exact h _ (I.tok _)
theorem Zgf {h':Heap}{t':Nat}{ob:HO} (I:Inv X pins σ H s) (mu:Mut (H a)) (hs:Heap.SameBut a s.heap h') (he:∃ q,h'.get? a=some q) (new:jO X.prog X.w (upd H a ob) h' a ob):
  Inv X pins σ (upd H a ob) { s with heap:=h',toks:=t' }:=
 I.write (x:=a) (e:=a) mu (.inl rfl) (fun b q hb z=>(hs.2 b hb).trans z) he new
theorem Ztg {P:Program}{w:World}{H':Hp}{h':Heap}{kvs:List (Key×V)}{vs:List (Key×Value)} (z:kvs.length≤sizeLine) (hd:(a == sysModules)=false) (rel:KV kvs vs) (dd:h'.DictOf (d7 P w) a vs):
  jO P w H' h' a (.dK kvs):=⟨z,hd,vs,rel,dd⟩
theorem Ziu {H':Hp}{Q:Unit→Shared→Prop} (hu:A.units + 1 < cLine) (I:Inv X pins σ H s) (g:Zbz H a y v H') (ry:RelV y u) (rv:RelV v r) (h:∀ s',Inv X pins σ H' s'→Q () s'):
  wpAny (model X.prog X.w) A (setItem (.ref a) u r) Q E s:=by
 rcases g with ⟨kvs,k,e,ey,l,eH⟩ | ⟨kvs,k,b,e,ey,eb,l,eH⟩
 ·subst ey eH;obtain ⟨z,hd,vs,rel,dd⟩:=Zr3 I.hok e;have hz:vs.length≤sizeLine:=by rw [← rel.length];exact z
  have hl:(putK kvs k v).length≤sizeLine:=by have:=Lj kvs k v;omega
  refine wpAny_setItem_pairs (hsz:=hz) (Zg6 ry) dd fun h' dd' hs=>h _ ?_;have he:∃ q,h'.get? a=some q:=let ⟨q,_,_,hq,_⟩:=dd';⟨q,hq⟩
  exact Zgf I (by rw [e];exact True.intro) hs he (Ztg hl hd (rel.put k rv) dd')
 ·subst ey eH;cases (show u=Value.ref b from ry);obtain ⟨z,hd,xs,rel,dd⟩:=Zvd I.hok e;have hz:xs.length≤sizeLine:=by rw [← Paired.length rel];exact z
  have hl:(putK kvs k v).length≤sizeLine:=by have:=Lj kvs k v;omega
  refine wpAny_setItem_heap (hsz:=hz) (tupleKind_room_in1 hu) (Xz I.hok eb) dd fun h' dd' hs=>h _ ?_;obtain ⟨q,es,ep,hq,h2,h3,h4,_,h5⟩:=dd';refine Zgf I (by rw [e];exact True.intro) hs ⟨q,hq⟩ ⟨hl,hd,_,(rel.put k eb rv).keeps fun c ys ec=>?_,q,es,ep,hq,h2,h3,h4,h5⟩;rw [aB (pI ec e (fun z=>nomatch z))];exact ec
end
section
variable {X:Cx}{pins:List (Addr×Obj)}{σ:St}{H:Hp}{s:Shared}{a:Addr}{kvs:List (Key×V)}{k:Key}{u:Value}{A:Around}{E:Value→Shared→Prop}
end
def Zqh (i:Expr):Prop:=∀ ov iv,subscripted i false ov iv=operate [ov,iv] (getItem ov iv)
theorem Zfp {prog:Program}{w:World}{A:Around}{E:Value→Shared→Prop}{s:Shared}{env:Env}{value slice:Expr}{pos:Pos}{T id:String}{Q:Value→Shared→Prop}
  (hl:typeLookup (.type T) "__getitem__"=pure (some (.builtin id))) (hs:Zqh slice)
  (h:wpAny (model prog w) A (eval value env) (fun o s₁=>wpAny (model prog w) A (eval slice env) (fun i s₂=>s₂.TypeIs o T∧wpAny (model prog w) A (getItem o i) Q E s₂) E s₁) E s):
  wpAny (model prog w) A (eval (.Subscript value slice pos) env) Q E s:=by
 refine Subscript_ (wpAny_mono h (fun o s₁ h₁=>wpAny_mono h₁ (fun i s₂ h₂=>?_) fun _ _ x=>x) fun _ _ x=>x);obtain ⟨hT,h₂⟩:=h₂;unfold subscriptTail;refine wpAny_bind ?_;rw [getitemInPython_of_ne hT.not_modules];refine wpAny_bind (wpAny_specialOf hT hl ?_);have fin:wpAny (model prog w) A (subscripted slice false o i) (fun r s₃=>wpAny (model prog w) A (letTemporaryGo value o r >>= fun _=>pure r) Q E s₃) E s₂:=by
  rw [hs o i];exact wpAny_operating (wpAny_mono h₂ (fun r s₃ h₃=>wpAny_bind (wpAny_letTemporaryGo (wpAny_pure h₃))) fun _ _ x=>x)
 first
  | exact wpAny_pure (wpAny_bind fin)
  | exact wpAny_bind (wpAny_pure (wpAny_bind fin))
  | exact wpAny_bind fin
theorem Zbc {X:Cx}{pins:List (Addr×Obj)}{σ:St}{H:Hp}{s:Shared}{a:Addr}{y:V}{o:Option V} (I:Inv X pins σ H s) (g:QS H a y o):s.TypeIs (.ref a) "dict":=by
 rcases g with ⟨kvs,k,e,_,_⟩ | ⟨kvs,k,b,e,_,_,_⟩
 ·obtain ⟨_,_,vs,_,dd⟩:=Dy I.hok e;exact dd.typeIs
 ·obtain ⟨_,_,xs,_,dd⟩:=Zb6 I.hok e;exact dd.typeIs
def Uq (td ty:TE):TE:=fun σ H Q=>td σ H fun x H1=>ty σ H1 fun y H2=>∃ a v,x=.ref a∧QS H2 a y (some v)∧Q v H2
def Vt (ty td:TE):TE:=fun σ H Q=>ty σ H fun y H1=>td σ H1 fun x H2=>∃ a o,x=.ref a∧QS H2 a y o∧Q (.bl (!o.isSome)) H2
def Zfq (td ty tv:TE):TS:=fun D σ H=>tv σ H fun v H1=>td σ H1 fun x H2=>ty σ H2 fun y H3=>∃ a H4,x=.ref a∧Zbz H3 a y v H4∧D.nx σ H4
section
variable {X:Cx}{o i e value:Expr}{pos pos' tpos:Pos}{td ty tv:TE}
theorem Zog (hu:X.A.units + 1 < cLine) (ho:PE X o td) (hi:PE X i ty) (hs:Zqh i):PE X (.Subscript o i pos) (Uq td ty):=by
 intro pins s σ H Q I h;refine Zfp PySem.F.slot_dict_getitem.lookup hs (gM (ho pins s σ H _ I h) fun u s1 ⟨x,H1,I1,rx,q1⟩=>gM (hi pins s1 σ H1 _ I1 q1) fun iv s2 ⟨y,H2,I2,ry,a,v,ex,g,q2⟩=>?_);subst ex;obtain rfl:u=Value.ref a:=rx;exact ⟨Zbc I2 g,Ziv hu I2 g ry fun w' s3 I3 rw'=>⟨v,H2,I3,rw',q2⟩⟩
theorem Zh8 (hu:X.A.units + 1 < cLine) (hi:PE X i ty) (ho:PE X o td):PC X .NotIn i o (Vt ty td):=by
 intro pins s σ H Q I h;refine gM (hi pins s σ H _ I h) fun iv s1 ⟨y,H1,I1,ry,q1⟩=>gM (ho pins s1 σ H1 _ I1 q1) fun u s2 ⟨x,H2,I2,rx,a,ov,ex,g,q2⟩=>?_;subst ex;obtain rfl:u=Value.ref a:=rx;exact Zgg hu I2 g ry fun s3 I3=>⟨.bl (!ov.isSome),H2,I3,rfl,q2⟩
theorem Zfv (hu:X.A.units + 1 < cLine) (ho:PE X o td) (hi:PE X i ty) (hv:PE X value tv) (hs:swapsWith value (some (.Subscript o i pos')) pos.line X.env=pure false):
  PS X (.Assign [.Subscript o i pos'] value pos) (Zfq td ty tv):=by
 intro pins s σ H D I h;refine wpAny_Assign_Subscript (gM (hv pins s σ H _ I h) fun r s1 ⟨v,H1,I1,rv,q1⟩=>gM (ho pins s1 σ H1 _ I1 q1) fun u s2 ⟨x,H2,I2,rx,q2⟩=>gM (hi pins s2 σ H2 _ I2 q2) fun iv s3 ⟨y,H3,I3,ry,a,H4,ex,g,q3⟩=>?_) hs;subst ex;obtain rfl:u=Value.ref a:=rx;exact Ziu hu I3 g ry rv fun s4 I4=>⟨σ,H4,I4,q3⟩
end
theorem Zmv {P:Program}{w:World}{H:Hp} (h:Heap) (hb:sysModules < h.objs.size):jO P w H (h.push { cls:=.type "dict",data:=.dict #[] }) h.objs.size (.dK []):=
 ⟨Nat.zero_le _,beq_eq_false_iff_ne.mpr (Ne.symm (Nat.ne_of_lt hb)),[],.nil,Heap.DictOf.new h⟩
def Zc5:TE:=fun _ H Q=>∀ p,H p=none→Q (.ref p) (upd H p (.dK []))
section
variable {X:Cx}{pos:Pos}
theorem ZR:PE X (.Dict [] [] pos) Zc5:=fun pins s σ H Q I h=>
 wpAny_Dict_empty ⟨.ref s.heap.objs.size,_,I.laid (a:=s.heap.objs.size) (o:=.dK []) (t':=s.toks) (fun _ _ q=>Heap.get?_push_of_some _ q) (Nat.le_refl _) (Zmv s.heap I.big),rfl,h _ (I.hok.fresh (Nat.le_refl _))⟩
end
def Zjb:List (TE×TE)→St→Hp→(List (V×V)→Hp→Prop)→Prop
 | [],_,H,Q=>Q [] H
 | (tk,tv) :: r,σ,H,Q=>tk σ H fun x H1=>tv σ H1 fun y H2=>Zjb r σ H2 fun ps H3=>Q ((x,y) :: ps) H3
abbrev VV:List (V×V)→List (Value×Value)→Prop:=Paired fun p q=>RelV p.1 q.1∧RelV p.2 q.2
def PPs (X:Cx) (pos:Pos) (keys:List (Option Expr)) (values:List Expr) (trs:List (TE×TE)):Prop:=
 ∀ (pins:List (Addr×Obj)) (s:Shared) (σ:St) (H:Hp) (Q:List (V×V)→Hp→Prop),Inv X pins σ H s→Zjb trs σ H Q→
  wpAny (model X.prog X.w) X.A (evalPairs (pairTrees keys values X.env pos)) (fun vs s'=>∃ ps H',Inv X pins σ H' s'∧VV ps vs∧Q ps H') X.xe s
structure M1 (X:Cx) (o:Expr) (m:Str) (apos:Pos) (e:Expr) (cpos:Pos):Prop where
 base:attributeBase o m X.env (eval o X.env)=eval o X.env
 few:((backTo cpos (starEach [e] X.env)).all (fun x=>!x.1) && (backToKw cpos (keywordEach [] X.env)).all (fun x=>x.1.isSome)
  && decide (([e]:List Expr).length + ([]:List Keyword).length + (if ([]:List Keyword).isEmpty then 0 else 1) < 30))=true
 line:(apos.endLine == cpos.line)=true
 trees:backTo cpos (starEach [e] X.env)=[(false,eval e X.env)]
structure M2 (X:Cx) (o:Expr) (m:Str) (apos:Pos) (e f:Expr) (cpos:Pos):Prop where
 base:attributeBase o m X.env (eval o X.env)=eval o X.env
 few:((backTo cpos (starEach [e,f] X.env)).all (fun x=>!x.1) && (backToKw cpos (keywordEach [] X.env)).all (fun x=>x.1.isSome)
  && decide (([e,f]:List Expr).length + ([]:List Keyword).length + (if ([]:List Keyword).isEmpty then 0 else 1) < 30))=true
 line:(apos.endLine == cpos.line)=true
 trees:backTo cpos (starEach [e,f] X.env)=[(false,eval e X.env),(false,eval f X.env)]
def IsD (H:Hp) (a:Addr):Prop:=(∃ kvs,Rd H a (.dK kvs))∨∃ kvs,Rd H a (.dT kvs)
theorem Zec {X:Cx}{pins:List (Addr×Obj)}{σ:St}{H:Hp}{s:Shared}{a:Addr} (I:Inv X pins σ H s) (d:IsD H a):
  s.TypeIs (.ref a) "dict"∧(∀ b,Value.ref a=.ref b→∃ ob,s.heap.get? b=some ob∧ob.dict=none)∧(a == sysModules)=false:=by
 rcases d with ⟨kvs,e⟩ | ⟨kvs,e⟩
 ·obtain ⟨_,hd,vs,_,dd⟩:=Dy I.hok e;refine ⟨dd.typeIs,fun b q=>?_,hd⟩;cases q;obtain ⟨ob,_,_,h1,h2,_⟩:=dd;exact ⟨ob,h1,h2.2.1⟩
 ·obtain ⟨_,hd,xs,_,dd⟩:=Zb6 I.hok e;refine ⟨dd.typeIs,fun b q=>?_,hd⟩;cases q;obtain ⟨ob,_,_,h1,h2,_⟩:=dd;exact ⟨ob,h1,h2.2.1⟩
section
variable {X:Cx}{pins:List (Addr×Obj)}{σ:St}{H:Hp}{s:Shared}{a:Addr}{y d:V}{u r:Value}{o:Option V}{A:Around}{E:Value→Shared→Prop}
end
section
variable {X:Cx}{o e f:Expr}{apos cpos:Pos}{td ty tx:TE}
end
section
variable {X:Cx}{pins:List (Addr×Obj)}{σ:St}{H:Hp}{s:Shared}{a:Addr}{kvs:List (Key×V)}{A:Around}{E:Value→Shared→Prop}
end
section
variable {X:Cx}{pins:List (Addr×Obj)}{σ:St}{H:Hp}{s:Shared}{a:Addr}{y:V}{u:Value}{A:Around}{E:Value→Shared→Prop}
end
end L2
namespace Att
open PySem PySem.W PySem.Calls PyProof.Rows
section
variable {prog:Program}{w:World}{A:Around}{E:Value→Shared→Prop}{s:Shared}{K:Frag}
end
end Att
namespace L2
open PySem PySem.Spec PyProof.Rows
end L2
namespace L2
open PySem PySem.Spec PyProof.Rows
end L2
namespace L2
open PySem PySem.Spec PyProof.Rows
section
variable {X:Cx}
end
section
variable {κ:Type} [DecidableEq κ]
end
end L2
set_option maxHeartbeats 40000000
namespace G
open PySem L2
section
variable {D:Ends}{σ:St}{H H1:Hp}{Q:VK}{t u:TS}{ta tb tc te:TE}{n:St→Hp→Prop}{r:VK}{b c:St→Hp→Prop}
theorem Hg (h:t ⟨u ⟨n,r,b,c⟩,r,b,c⟩ σ H):aL t u ⟨n,r,b,c⟩ σ H:=h
theorem sO (h:n σ H):cL ⟨n,r,b,c⟩ σ H:=h
theorem Zsz (h:te σ H fun _ H1=>n σ H1):uO te ⟨n,r,b,c⟩ σ H:=h
theorem Zg8 (h:te σ H r):bI te ⟨n,r,b,c⟩ σ H:=h
theorem Zsw {c':TT} (h:c' σ H fun k H1=>if k=true then t ⟨n,r,b,c⟩ σ H1 else u ⟨n,r,b,c⟩ σ H1):fB c' t u ⟨n,r,b,c⟩ σ H:=h
theorem Qm {g:TG} (h:te σ H fun x H1=>g x σ H1 n):bD te g ⟨n,r,b,c⟩ σ H:=h
theorem i_C {v:V} (h:Q v H):tC v σ H Q:=h
theorem Zee {f:R2} (h:ta σ H fun x H1=>tb σ H1 fun y H2=>f x y H2 Q):bA f ta tb σ H Q:=h
theorem Zwc {f:V→Hp→VK→Prop} (h:ta σ H fun x H1=>f x H1 Q):tUn f ta σ H Q:=h
def kB (q:Bool→Hp→Prop):VK:=fun x H'=>∃ k,x=.bl k∧q k H'
theorem i_B {k:Bool}{q:Bool→Hp→Prop} (h:q k H):kB q (.bl k) H:=⟨k,rfl,h⟩
theorem Zsm {q:Bool→Hp→Prop} (h:te σ H (kB q)):cC te σ H q:=h
theorem Zus {q:Bool→Hp→Prop} (h:te σ H (kB q)):tB te σ H q:=h
theorem Zv3 {t u:TT}{q:Bool→Hp→Prop} (h:t σ H fun k H1=>if k=true then u σ H1 q else q false H1):Zgr t u σ H q:=h
theorem Zut {t u:TT}{q:Bool→Hp→Prop} (h:t σ H fun k H1=>if k=true then q true H1 else u σ H1 q):tOr t u σ H q:=h
theorem Zqy {t:TT}{q:Bool→Hp→Prop} (h:t σ H fun k H1=>q (!k) H1):DQ t σ H q:=h
theorem Zt5 (h:ta σ H (kB fun k H1=>if k=true then tb σ H1 Q else Q (.bl false) H1)):Zo ta tb σ H Q:=h
theorem Zsp (h:ta σ H (kB fun k H1=>Q (.bl (!k)) H1)):Zfo ta σ H Q:=h
theorem Zv4 {g:Int→Int→V}{i j:Int} (h:Q (g i j) H):nO g (.int i) (.int j) H Q:=⟨i,j,rfl,rfl,h⟩
theorem i_I {C:Int→Int→Prop}{g:Int→Int→V}{i j:Int} (hc:C i j) (h:Q (g i j) H):rI C g (.int i) (.int j) H Q:=⟨i,j,rfl,rfl,hc,h⟩
theorem i_U {g:Int→V}{i:Int} (h:Q (g i) H):rU g (.int i) H Q:=⟨i,rfl,h⟩
theorem Zv2 {i j:Int} (h:Q (.bl (decide (i=j))) H):Cv (.int i) (.int j) H Q:=⟨rfl,by rw [show decide (V.int i=V.int j)=decide (i=j) from decide_eq_decide.mpr ⟨fun e=>V.int.inj e,fun e=>by rw [e]⟩];exact h⟩
theorem Zv1 {i j:Str} (h:Q (.bl (decide (i=j))) H):Cv (.str i) (.str j) H Q:=⟨rfl,by rw [show decide (V.str i=V.str j)=decide (i=j) from decide_eq_decide.mpr ⟨fun e=>V.str.inj e,fun e=>by rw [e]⟩];exact h⟩
theorem Zuw {i j:Int} (h:Q (.bl (!decide (i=j))) H):rNe (.int i) (.int j) H Q:=⟨rfl,by rw [show decide (V.int i=V.int j)=decide (i=j) from decide_eq_decide.mpr ⟨fun e=>V.int.inj e,fun e=>by rw [e]⟩];exact h⟩
theorem Zuv {i j:Str} (h:Q (.bl (!decide (i=j))) H):rNe (.str i) (.str j) H Q:=⟨rfl,by rw [show decide (V.str i=V.str j)=decide (i=j) from decide_eq_decide.mpr ⟨fun e=>V.str.inj e,fun e=>by rw [e]⟩];exact h⟩
def Mq:R2:=fun x y H Q=>y=.non∧Q (.bl (decide (x=.non))) H
def Dl:R2:=fun x y H Q=>y=.non∧Q (.bl (!decide (x=.non))) H
theorem Zsv (h:Q (.bl true) H):Mq .non .non H Q:=⟨rfl,h⟩
theorem Zsu {i:Int} (h:Q (.bl false) H):Mq (.int i) .non H Q:=⟨rfl,h⟩
theorem Zst {i:Addr} (h:Q (.bl false) H):Mq (.ref i) .non H Q:=⟨rfl,h⟩
theorem Zpe (h:Q (.bl false) H):Dl .non .non H Q:=⟨rfl,h⟩
theorem Zpd {i:Int} (h:Q (.bl true) H):Dl (.int i) .non H Q:=⟨rfl,h⟩
theorem Zpc {i:Addr} (h:Q (.bl true) H):Dl (.ref i) .non H Q:=⟨rfl,h⟩
theorem Zeg {A B:Prop} (h:A):if true=true then A else B:=Zea h
theorem X4 {A B:Prop} (h:B):if false=true then A else B:=Zpa h
theorem Zpk {A B:Prop} (h:B):if (!true)=true then A else B:=Zpa h
theorem Zpl {A B:Prop} (h:A):if (!false)=true then A else B:=Zea h
theorem wJ {p A B:Prop} [Decidable p] (h1:p→A) (h2:¬ p→B):if decide p=true then A else B:=Zsh (fun e=>h1 (of_decide_eq_true e)) (fun e=>h2 (fun q=>e (decide_eq_true q)))
theorem SN {p A B:Prop} [Decidable p] (h1:¬ p→A) (h2:p→B):if (!decide p)=true then A else B:=Zsh (fun e=>h1 (by simpa using e)) (fun e=>h2 (by simpa using e))
theorem Zuu {q:List V→Hp→Prop} (h:q [] H):aG σ H q:=h
theorem Zt3 {q:List V→Hp→Prop}{t:TA} (h:ta σ H fun x H1=>t σ H1 fun xs H2=>q (x :: xs) H2):aj ta t σ H q:=h
theorem Zux {t:TA} (h:t σ H fun xs H1=>xs.length≤sizeLine∧∀ p,H1 p=none→Q (.ref p) (upd H1 p (.lst xs))):iw t σ H Q:=h
theorem Zup {t:TA} (h:t σ H fun xs H1=>xs.length≤sizeLine∧∀ p,H1 p=none→Q (.ref p) (upd H1 p (.tup xs))):fP t σ H Q:=h
theorem Zt4 {t:TA}{sp:Sp}{uM:List V}{E:XK} (h:t σ H fun vs H1=>sp (vs ++ uM) H1 Q E):aR sp uM E t σ H Q:=h
theorem Zwq {t:TA}{f:List V→Hp→VK→Prop} (h:t σ H fun vs H1=>f vs H1 Q):zE f t σ H Q:=h
theorem Zsr {t:TA}{sp:Sp}{uM:List V}{E:XK}{C:Addr} (h:t σ H fun vs H1=>∀ x dx,H1 x=none→H1 dx=none→dx≠x→sp (.ref x :: (vs ++ uM)) (upd (upd H1 dx (.own x)) x (.ins C dx [])) (fun v H2=>v=.non∧Q (.ref x) H2) E):zB C sp uM E t σ H Q:=h
def Zuo (K:aC) (f:Str) (Q:VK):VK:=fun x H1=>∃ a C dx fs v,x=.ref a∧H1 a=some (.ins C dx fs)∧DN K C∧bH K C f∧fs.lookup f=some v∧Q v H1
theorem Zv0 {K:aC}{f:Str} (h:ta σ H (Zuo K f Q)):bx K ta f σ H Q:=h
theorem aH {K:aC}{f:Str}{a C dx:Addr}{fs:List (Str×V)}{v:V} (h:H a=some (.ins C dx fs)) (hc:DN K C) (hn:bH K C f) (hl:fs.lookup f=some v) (q:Q v H):Zuo K f Q (.ref a) H:=⟨a,C,dx,fs,v,rfl,h,hc,hn,hl,q⟩
theorem Zsn {K:aC}{f:Str}{tv:TE} (h:tv σ H fun y H1=>ta σ H1 fun x H2=>∃ a C dx fs,x=.ref a∧H2 a=some (.ins C dx fs)∧DN K C∧bH K C f∧fs.length < 1000∧n σ (upd H2 a (.ins C dx (bZ f y fs)))):gO K ta tv f ⟨n,r,b,c⟩ σ H:=h
theorem Zsq {C:Addr}{m:Str}{sp:Sp}{uM:List V}{E:XK}{t:TA} (h:ta σ H fun x H1=>∃ a dx fs,x=.ref a∧H1 a=some (.ins C dx fs)∧fs.lookup m=none∧t σ H1 fun vs H2=>sp (x :: (vs ++ uM)) H2 Q E):lC C m sp uM E ta t σ H Q:=h
def kI (q:Int→Hp→Prop):VK:=fun x H1=>∃ i,x=.int i∧q i H1
theorem Zso {q:Option Int→Hp→Prop} (h:te σ H (kI fun i=>q (some i))):Zfn te σ H q:=h
theorem Zwe {i:Int}{q:Int→Hp→Prop} (h:q i H):kI q (.int i) H:=⟨i,rfl,h⟩
theorem Zwd {f:V→Option Int→Option Int→Hp→VK→Prop}{tl th:TO} (h:te σ H fun x H1=>tl σ H1 fun l H2=>th σ H2 fun u H3=>f x l u H3 Q):tSl f te tl th σ H Q:=h
theorem Zwp {K:aC}{T:String}{f:V→List V→Hp→VK→Prop}{to:TE}{t:TA} (h:to σ H fun x H1=>tyV K T x H1∧t σ H1 fun xs H2=>f x xs H2 Q):tBM K T f to t σ H Q:=h
theorem Zuz {wi:TI}{g:TG}{tb:TS} (h:wi σ H fun J H1=>∃ W:Nat→Nat→St→Hp→Prop,(∃ m,W 0 m σ H1)∧∀ i m σ H,W i m σ H→
 (J.stop i H∧n σ H)∨(J.go i H∧∃ N:St→Hp→Prop,(∀ σ' H',N σ' H'→∃ m',m' < m∧W (i + 1) m' σ' H')∧∀ x H',J.yld i H x H'→g x σ H' fun σ2 H2=>tb ⟨N,r,n,N⟩ σ2 H2)):Fq wi g tb ⟨n,r,b,c⟩ σ H:=h
theorem Zwh {K:aC}{R:It→Hp→Prop} (h:te σ H fun x H1=>∃ a,x=.ref a∧(∃ xs,cU K H1 a xs)∧R (Itl K a) H1):vp K te σ H R:=h
theorem Zwg {ta:TA}{R:It→Hp→Prop} (h:ta σ H fun vs H1=>∃ j:Int,vs=[.int j]∧-(2 ^ 62)≤j∧j < 2 ^ 62∧R (Itr 0 j.toNat) H1):Lr ta σ H R:=h
end
theorem Zwb {v:V}{l:St}{H:Hp}{Q:VK} (h:Q v H):ak 0 (some v :: l) H Q:=⟨v,rfl,h⟩
theorem Zwa {x0:Option V}{v:V}{l:St}{H:Hp}{Q:VK} (h:Q v H):ak 1 (x0 :: some v :: l) H Q:=⟨v,rfl,h⟩
theorem Zwo {x0:Option V}{y:Option V}{v:V}{l:St}{H:Hp}{Q:St→Hp→Prop} (h:Q (x0 :: some v :: l) H):aN 1 v (x0 :: y :: l) H Q:=h
theorem Zw9 {x0 x1:Option V}{v:V}{l:St}{H:Hp}{Q:VK} (h:Q v H):ak 2 (x0 :: x1 :: some v :: l) H Q:=⟨v,rfl,h⟩
theorem Zsy {x0 x1:Option V}{y:Option V}{v:V}{l:St}{H:Hp}{Q:St→Hp→Prop} (h:Q (x0 :: x1 :: some v :: l) H):aN 2 v (x0 :: x1 :: y :: l) H Q:=h
theorem Zed {x0 x1 x2:Option V}{v:V}{l:St}{H:Hp}{Q:VK} (h:Q v H):ak 3 (x0 :: x1 :: x2 :: some v :: l) H Q:=⟨v,rfl,h⟩
theorem Zaw {x0 x1 x2:Option V}{y:Option V}{v:V}{l:St}{H:Hp}{Q:St→Hp→Prop} (h:Q (x0 :: x1 :: x2 :: some v :: l) H):aN 3 v (x0 :: x1 :: x2 :: y :: l) H Q:=h
theorem Zw8 {x0 x1 x2 x3:Option V}{v:V}{l:St}{H:Hp}{Q:VK} (h:Q v H):ak 4 (x0 :: x1 :: x2 :: x3 :: some v :: l) H Q:=⟨v,rfl,h⟩
theorem Zpm {x0 x1 x2 x3:Option V}{y:Option V}{v:V}{l:St}{H:Hp}{Q:St→Hp→Prop} (h:Q (x0 :: x1 :: x2 :: x3 :: some v :: l) H):aN 4 v (x0 :: x1 :: x2 :: x3 :: y :: l) H Q:=h
theorem Zw7 {x0 x1 x2 x3 x4:Option V}{v:V}{l:St}{H:Hp}{Q:VK} (h:Q v H):ak 5 (x0 :: x1 :: x2 :: x3 :: x4 :: some v :: l) H Q:=⟨v,rfl,h⟩
theorem Zwn {x0 x1 x2 x3 x4:Option V}{y:Option V}{v:V}{l:St}{H:Hp}{Q:St→Hp→Prop} (h:Q (x0 :: x1 :: x2 :: x3 :: x4 :: some v :: l) H):aN 5 v (x0 :: x1 :: x2 :: x3 :: x4 :: y :: l) H Q:=h
theorem Zw6 {x0 x1 x2 x3 x4 x5:Option V}{v:V}{l:St}{H:Hp}{Q:VK} (h:Q v H):ak 6 (x0 :: x1 :: x2 :: x3 :: x4 :: x5 :: some v :: l) H Q:=⟨v,rfl,h⟩
theorem Zwm {x0 x1 x2 x3 x4 x5:Option V}{y:Option V}{v:V}{l:St}{H:Hp}{Q:St→Hp→Prop} (h:Q (x0 :: x1 :: x2 :: x3 :: x4 :: x5 :: some v :: l) H):aN 6 v (x0 :: x1 :: x2 :: x3 :: x4 :: x5 :: y :: l) H Q:=h
theorem Zw5 {x0 x1 x2 x3 x4 x5 x6:Option V}{v:V}{l:St}{H:Hp}{Q:VK} (h:Q v H):ak 7 (x0 :: x1 :: x2 :: x3 :: x4 :: x5 :: x6 :: some v :: l) H Q:=⟨v,rfl,h⟩
theorem Zwl {x0 x1 x2 x3 x4 x5 x6:Option V}{y:Option V}{v:V}{l:St}{H:Hp}{Q:St→Hp→Prop} (h:Q (x0 :: x1 :: x2 :: x3 :: x4 :: x5 :: x6 :: some v :: l) H):aN 7 v (x0 :: x1 :: x2 :: x3 :: x4 :: x5 :: x6 :: y :: l) H Q:=h
theorem Zw4 {x0 x1 x2 x3 x4 x5 x6 x7:Option V}{v:V}{l:St}{H:Hp}{Q:VK} (h:Q v H):ak 8 (x0 :: x1 :: x2 :: x3 :: x4 :: x5 :: x6 :: x7 :: some v :: l) H Q:=⟨v,rfl,h⟩
theorem Zwk {x0 x1 x2 x3 x4 x5 x6 x7:Option V}{y:Option V}{v:V}{l:St}{H:Hp}{Q:St→Hp→Prop} (h:Q (x0 :: x1 :: x2 :: x3 :: x4 :: x5 :: x6 :: x7 :: some v :: l) H):aN 8 v (x0 :: x1 :: x2 :: x3 :: x4 :: x5 :: x6 :: x7 :: y :: l) H Q:=h
theorem Zw3 {x0 x1 x2 x3 x4 x5 x6 x7 x8:Option V}{v:V}{l:St}{H:Hp}{Q:VK} (h:Q v H):ak 9 (x0 :: x1 :: x2 :: x3 :: x4 :: x5 :: x6 :: x7 :: x8 :: some v :: l) H Q:=⟨v,rfl,h⟩
theorem Zwj {x0 x1 x2 x3 x4 x5 x6 x7 x8:Option V}{y:Option V}{v:V}{l:St}{H:Hp}{Q:St→Hp→Prop} (h:Q (x0 :: x1 :: x2 :: x3 :: x4 :: x5 :: x6 :: x7 :: x8 :: some v :: l) H):aN 9 v (x0 :: x1 :: x2 :: x3 :: x4 :: x5 :: x6 :: x7 :: x8 :: y :: l) H Q:=h
end G
namespace G
open PySem L2
theorem aO {H:Hp}{p:Addr} (h:H p=none) (o:HO):aY H (upd H p o):=fun b u q=>by rw [aB (aD q h)];exact q
def tyN (H:Hp):V→Option String
 | .non=>some "NoneType"
 | .bl _=>some "bool"
 | .int _=>some "int"
 | .str _=>some "str"
 | .ref a=>match H a with
  | some (.lst _)=>some "list"
  | some (.xO _ (.lst _))=>some "list"
  | some (.tup _)=>some "tuple"
  | some (.dK _)=>some "dict"
  | some (.dT _)=>some "dict"
  | _=>none
 | _=>none
def uL (t n:String):Option Bool:=if ["int","bool","str","list","tuple","dict"].contains n then some (t == n || (t == "bool" && n == "int")) else none
def QF:List V→Hp→VK→Prop:=fun xs H Q=>∃ x n t k,xs=[x,.ty n]∧tyN H x=some t∧uL t n=some k∧Q (.bl k) H
theorem Lq:uL "int" "int"=some true:=by decide +kernel
theorem GQ:uL "int" "bool"=some false:=by decide +kernel
theorem Zat:uL "int" "str"=some false:=by decide +kernel
theorem XM:uL "int" "list"=some false:=by decide +kernel
theorem Sq:uL "int" "tuple"=some false:=by decide +kernel
theorem XN:uL "int" "dict"=some false:=by decide +kernel
theorem X3:uL "bool" "int"=some true:=by decide +kernel
theorem SJ:uL "bool" "bool"=some true:=by decide +kernel
theorem XX:uL "bool" "str"=some false:=by decide +kernel
theorem Sx:uL "bool" "list"=some false:=by decide +kernel
theorem Qh:uL "bool" "tuple"=some false:=by decide +kernel
theorem Sy:uL "bool" "dict"=some false:=by decide +kernel
theorem Zas:uL "str" "int"=some false:=by decide +kernel
theorem XF:uL "str" "bool"=some false:=by decide +kernel
theorem Lp:uL "str" "str"=some true:=by decide +kernel
theorem XC:uL "str" "list"=some false:=by decide +kernel
theorem Sd:uL "str" "tuple"=some false:=by decide +kernel
theorem XD:uL "str" "dict"=some false:=by decide +kernel
theorem J2:uL "NoneType" "int"=some false:=by decide +kernel
theorem GZ:uL "NoneType" "bool"=some false:=by decide +kernel
theorem J1:uL "NoneType" "str"=some false:=by decide +kernel
theorem GR:uL "NoneType" "list"=some false:=by decide +kernel
theorem Et:uL "NoneType" "tuple"=some false:=by decide +kernel
theorem GX:uL "NoneType" "dict"=some false:=by decide +kernel
theorem XJ:uL "list" "int"=some false:=by decide +kernel
theorem Sh:uL "list" "bool"=some false:=by decide +kernel
theorem XH:uL "list" "str"=some false:=by decide +kernel
theorem Ds:uL "list" "list"=some true:=by decide +kernel
theorem Qf:uL "list" "tuple"=some false:=by decide +kernel
theorem Sg:uL "list" "dict"=some false:=by decide +kernel
theorem R9:uL "tuple" "int"=some false:=by decide +kernel
theorem Qe:uL "tuple" "bool"=some false:=by decide +kernel
theorem R8:uL "tuple" "str"=some false:=by decide +kernel
theorem Qc:uL "tuple" "list"=some false:=by decide +kernel
theorem zH:uL "tuple" "tuple"=some true:=by decide +kernel
theorem Qd:uL "tuple" "dict"=some false:=by decide +kernel
theorem XS:uL "dict" "int"=some false:=by decide +kernel
theorem Sv:uL "dict" "bool"=some false:=by decide +kernel
theorem XR:uL "dict" "str"=some false:=by decide +kernel
theorem Ss:uL "dict" "list"=some false:=by decide +kernel
theorem Qg:uL "dict" "tuple"=some false:=by decide +kernel
theorem Su:uL "dict" "dict"=some true:=by decide +kernel
theorem Zei {i:Int}{H:Hp}{Q:VK} (h:Q (.bl true) H):QF [.int i,.ty "int"] H Q:=⟨_,_,_,_,rfl,rfl,Lq,h⟩
theorem Zav {i:Int}{H:Hp}{Q:VK} (h:Q (.bl false) H):QF [.int i,.ty "bool"] H Q:=⟨_,_,_,_,rfl,rfl,GQ,h⟩
theorem Zeh {i:Str}{H:Hp}{Q:VK} (h:Q (.bl true) H):QF [.str i,.ty "str"] H Q:=⟨_,_,_,_,rfl,rfl,Lp,h⟩
theorem Zau {a:Addr}{H:Hp}{Q:VK}{xs:List V} (hp:H a=some (.lst xs)) (h:Q (.bl true) H):QF [.ref a,.ty "list"] H Q:=⟨_,_,_,_,rfl,(by show (match H a with | some (.lst _)=>some "list" | some (.xO _ (.lst _))=>some "list" | some (.tup _)=>some "tuple" | some (.dK _)=>some "dict" | some (.dT _)=>some "dict" | _=>none)=some "list";rw [hp]),Ds,h⟩
theorem X5 {a:Addr}{H:Hp}{Q:VK}{xs:List V} (hp:H a=some (.tup xs)) (h:Q (.bl true) H):QF [.ref a,.ty "tuple"] H Q:=⟨_,_,_,_,rfl,(by show (match H a with | some (.lst _)=>some "list" | some (.xO _ (.lst _))=>some "list" | some (.tup _)=>some "tuple" | some (.dK _)=>some "dict" | some (.dT _)=>some "dict" | _=>none)=some "tuple";rw [hp]),zH,h⟩
def mD (K:aC):List V→Hp→VK→Prop:=fun xs H Q=>∃ p ys,xs=[.ref p]∧(cU K H p ys∨gU K H p ys)∧Q (.int ys.length) H
theorem jV {K:aC}{a:Addr}{H:Hp}{Q:VK}{xs:List V} (hp:cU K H a xs) (h:Q (.int xs.length) H):mD K [.ref a] H Q:=⟨a,xs,rfl,.inl hp,h⟩
theorem j9 {K:aC}{a:Addr}{H:Hp}{Q:VK}{xs:List V}{i:Int}{v:V} (hp:cU K H a xs) (hi:atI xs i=some v) (h:Q v H):nH K (.ref a) (.int i) H Q:=⟨a,xs,i,v,rfl,rfl,hp,hi,h⟩
section
variable {K:aC}{a:Addr}{xs:List V}{g:TG}{tb:TS}{σ:St}{H:Hp}{n:St→Hp→Prop}{r:VK}
theorem forL (xs:List V) (Pv:Nat→St→Hp→Prop) (h0:Pv 0 σ H) (hl:∀ i σ H,i≤xs.length→Pv i σ H→cU K H a xs)
  (hs:∀ i x σ H,xs[i]? =some x→Pv i σ H→g x σ H fun σ2 H2=>tb ⟨Pv (i + 1),r,n,Pv (i + 1)⟩ σ2 H2) (hd:∀ σ H,Pv xs.length σ H→n σ H):
  ∃ W:Nat→Nat→St→Hp→Prop,(∃ m,W 0 m σ H)∧∀ i m σ H,W i m σ H→
   ((Itl K a).stop i H∧n σ H)∨((Itl K a).go i H∧∃ N:St→Hp→Prop,(∀ σ' H',N σ' H'→∃ m',m' < m∧W (i + 1) m' σ' H')∧∀ x H',(Itl K a).yld i H x H'→g x σ H' fun σ2 H2=>tb ⟨N,r,n,N⟩ σ2 H2):=
 Zmh (D:=⟨n,r,fun _ _=>False,fun _ _=>False⟩) Pv h0 hl hs hd
theorem forR {lo:Int}{k:Nat} (Pv:Nat→St→Hp→Prop) (h0:Pv 0 σ H)
  (hs:∀ i σ H,i < k→Pv i σ H→g (.int (lo + i)) σ H fun σ2 H2=>tb ⟨Pv (i + 1),r,n,Pv (i + 1)⟩ σ2 H2) (hd:∀ σ H,Pv k σ H→n σ H):
  ∃ W:Nat→Nat→St→Hp→Prop,(∃ m,W 0 m σ H)∧∀ i m σ H,W i m σ H→
   ((Itr lo k).stop i H∧n σ H)∨((Itr lo k).go i H∧∃ N:St→Hp→Prop,(∀ σ' H',N σ' H'→∃ m',m' < m∧W (i + 1) m' σ' H')∧∀ x H',(Itr lo k).yld i H x H'→g x σ H' fun σ2 H2=>tb ⟨N,r,n,N⟩ σ2 H2):=
 Zii (D:=⟨n,r,fun _ _=>False,fun _ _=>False⟩) Pv h0 hs hd
end
theorem aV {n:Nat} (h:n≤1000000):n≤sizeLine:=Nat.le_trans h (by decide)
end G
namespace G
open PySem L2
def Zjw:R2:=fun x y H Q=>∃ i j,x=.str i∧y=.str j∧i.length + j.length≤sizeLine∧Q (.str (i ++ j)) H
theorem Zlx {i j:Str}{H:Hp}{Q:VK} (hz:i.length + j.length≤sizeLine) (h:Q (.str (i ++ j)) H):Zjw (.str i) (.str j) H Q:=⟨i,j,rfl,rfl,hz,h⟩
theorem Zuy {z:Str}{i:Int}{c:Nat}{H:Hp}{Q:VK} (hz:z.length≤sizeLine) (hi:atI z.cps.toList i=some c) (h:Q (.str ⟨#[c]⟩) H):Zju (.str z) (.int i) H Q:=⟨z,i,c,rfl,rfl,hz,hi,h⟩
theorem Zlu {z:Str}{i:Int}{H:Hp}{Q:VK} (hz:z.length≤sizeLine) (h0:0≤i) (h1:i < z.length) (h:∀ c:Nat,Q (.str ⟨#[c]⟩) H):Zju (.str z) (.int i) H Q:=by
 have hk:i.toNat < z.cps.toList.length:=by rw [Array.length_toList];exact (Int.toNat_lt h0).mpr h1
 have ek:i=((i.toNat:Nat):Int):=by omega
 have q:atI z.cps.toList ((i.toNat:Nat):Int)=some z.cps.toList[i.toNat]:=ie (cj hk);rw [← ek] at q;exact Zuy hz q (h _)
theorem str_len (z:Str):z.cps.toList.length=z.length:=Array.length_toList
def pick (σ:St) (j:Nat):Option V:=match σ[j]? with
 | some v=>v
 | none=>none
def tLC (wi:TI) (caps:List Nat) (tc:TT) (te:TE):TE:=fun σ H Q=>wi σ H fun J H1=>∃ W:Nat→Nat→List V→Hp→Prop,(∃ m,W 0 m [] H1)∧∀ i m ys H,W i m ys H→
 (J.stop i H∧∀ p,H p=none→Q (.ref p) (upd H p (.lst ys)))∨
 (J.go i H∧ys.length < sizeLine∧∀ x H',J.yld i H x H'→tc (some x :: caps.map (pick σ)) H' fun k H2=>if k=true then te (some x :: caps.map (pick σ)) H2 (fun y H3=>∃ m',m' < m∧W (i + 1) m' (ys ++ [y]) H3) else ∃ m',m' < m∧W (i + 1) m' ys H2)
def w6:TT:=fun _ H Q=>Q true H
theorem BJ {σ:St}{H:Hp}{Q:Bool→Hp→Prop} (h:Q true H):w6 σ H Q:=h
theorem Zpn {r r':R2}{ta tb tc:TE}{σ:St}{H:Hp}{Q:VK} (h:ta σ H fun x H1=>tb σ H1 fun y H2=>r x y H2 (kB fun k H3=>if k=true then tc σ H3 (fun w H4=>r' y w H4 Q) else Q (.bl false) H3)):NZ r r' ta tb tc σ H Q:=h
end G
namespace G
open PySem L2
def Zh2 (z:Str) (n:Int):Str:=⟨(List.replicate n.toNat z.cps.toList).flatten.toArray⟩
def Zfs:R2:=fun x y H Q=>∃ z k,x=.str z∧y=.int k∧0≤k∧k≤1000∧z.length≤1000∧∀ t:Str,t.length≤1000000→t=Zh2 z k→Q (.str t) H
theorem Zls {z:Str}{k:Int}{H:Hp}{Q:VK} (h0:0≤k) (h1:k≤1000) (h2:z.length≤1000) (h:∀ t:Str,t.length≤1000000→t=Zh2 z k→Q (.str t) H):Zfs (.str z) (.int k) H Q:=⟨z,k,rfl,rfl,h0,h1,h2,h⟩
end G
namespace G
open PySem L2
structure EqD (K:aC) (C:Addr):Prop where
 eq:PySem.W.findIn K (.ref C) "__eq__"=some (some (.builtin "object.__eq__"))
 ob:PySem.W.mroIn K C (.type "object")=some true
end G
namespace G
open PySem L2
def HY (C:Addr) (E:XK) (ta:TA):TS:=fun _ σ H=>ta σ H fun vs H1=>vs.length≤100∧E (.ref C) none H1
def Zc6 (sp:Sp) (uM:List V) (E:St→XK) (t:TA):TE:=fun σ H Q=>t σ H fun vs H1=>sp (vs ++ uM) H1 Q (E σ)
def Zrb (Mt:Value→Prop) (tb:(St→XK)→TS) (th:TS):TS:=fun D σ H=>tb (fun σ' cls _ H'=>Mt cls∧th D σ' H') D σ H
section
variable {σ:St}{H:Hp}{Q:VK}{n:St→Hp→Prop}{r:VK}{b c:St→Hp→Prop}{te:TE}{t:TA}
theorem Zpb {C:Addr}{E:XK} (h:t σ H fun vs H1=>vs.length≤100∧E (.ref C) none H1):HY C E t ⟨n,r,b,c⟩ σ H:=h
theorem Zpo {sp:Sp}{uM:List V}{E:St→XK} (h:t σ H fun vs H1=>sp (vs ++ uM) H1 Q (E σ)):Zc6 sp uM E t σ H Q:=h
theorem Zuq {Mt:Value→Prop}{tb:(St→XK)→TS}{th:TS} (h:tb (fun σ' cls _ H'=>Mt cls∧th ⟨n,r,b,c⟩ σ' H') ⟨n,r,b,c⟩ σ H):Zrb Mt tb th ⟨n,r,b,c⟩ σ H:=h
end
theorem Zsx {to ti:TE}{ts:Zqg}{x:V}{σ:St}{H:Hp}{Q:St→Hp→Prop} (h:to σ H fun o H1=>ti σ H1 fun i H2=>ts o i x H2 fun H3=>Q σ H3):Mz to ti ts x σ H Q:=h
def Kl (K:aC):List V→Hp→VK→Prop:=fun xs H Q=>∃ (p:Addr) (ys:List V),xs=[.ref p]∧cU K H p ys∧∀ l,H l=none→Q (.ref l) (upd H l (.lst ys))
theorem Ni {K:aC}{H:Hp}{Q:VK}{p:Addr}{ys:List V} (h1:cU K H p ys) (h:∀ l,H l=none→Q (.ref l) (upd H l (.lst ys))):Kl K [.ref p] H Q:=⟨p,ys,rfl,h1,h⟩
def OkN (K:aC) (H:Hp) (xs:List V):Prop:=∀ y∈xs,y=.non∨∃ a C dx fs,y=.ref a∧H a=some (.ins C dx fs)∧DN K C∧EqD K C
def Zrn (K:aC) (neg:Bool):R2:=fun x y H Q=>∃ p xs,x=.non∧y=.ref p∧cU K H p xs∧OkN K H xs∧Q (.bl (if neg then !decide (V.non∈xs) else decide (V.non∈xs))) H
theorem Zlt {K:aC}{H:Hp}{Q:VK}{p:Addr}{xs:List V} (h1:cU K H p xs) (h2:OkN K H xs) (h:Q (.bl (!decide (V.non∈xs))) H):Zrn K true .non (.ref p) H Q:=⟨p,xs,rfl,rfl,h1,h2,h⟩
def Zft (K:aC):V→List V→Hp→VK→Prop:=fun x vs H Q=>∃ p xs,x=.ref p∧vs=[.non]∧cU K H p xs∧OkN K H xs∧V.non∈xs∧Q (.int (xs.idxOf V.non)) H
theorem Zij (ns:List Int):(ns.map V.int).all oZ=true:=by
 rw [List.all_eq_true];intro x hx;obtain ⟨i,_,rfl⟩:=List.mem_map.mp hx;rfl
def Fm (S:List Addr) (H H':Hp):Prop:=∀ b o,H b=some o→b∉S→H' b=some o
theorem Fm.same {H H':Hp} (a:Fm [] H H'):aY H H':=fun c o h=>a c o h (fun z=>nomatch z)
def fz (S:List Addr) (H:Hp):Hp:=fun b=>if b∈S then none else H b
theorem Zef {x:V}{H:Hp}{Q:VK} (h:Q (.bl (!decide (x=.non))) H):Dl x .non H Q:=⟨rfl,h⟩
def LCg (J:It) (caps:List Nat) (tc:TT) (te:TE) (σ:St) (H:Hp) (Q:VK):Prop:=∃ W:Nat→Nat→List V→Hp→Prop,(∃ m,W 0 m [] H)∧∀ i m ys H,W i m ys H→
 (J.stop i H∧∀ p,H p=none→Q (.ref p) (upd H p (.lst ys)))∨
 (J.go i H∧ys.length < sizeLine∧∀ x H',J.yld i H x H'→tc (some x :: caps.map (pick σ)) H' fun k H2=>if k=true then te (some x :: caps.map (pick σ)) H2 (fun y H3=>∃ m',m' < m∧W (i + 1) m' (ys ++ [y]) H3) else ∃ m',m' < m∧W (i + 1) m' ys H2)
theorem Ql {wi:TI}{caps:List Nat}{tc:TT}{te:TE}{σ:St}{H:Hp}{Q:VK} (h:wi σ H fun J H1=>LCg J caps tc te σ H1 Q):tLC wi caps tc te σ H Q:=h
theorem Zlj {J:It}{caps:List Nat}{tc:TT}{te:TE}{σ:St}{H:Hp}{Q:VK} (k:Nat) (hz:k≤1000000) (g:Nat→Option V)
  (hstop:J.stop k H) (hgo:∀ i,i < k→J.go i H) (hy:∀ i x H',i < k→J.yld i H x H'→H'=H∧(∀ q:Bool→Hp→Prop,q (g i).isSome H→tc (some x :: caps.map (pick σ)) H q)∧∀ (y:V) (q:VK),g i=some y→q y H→te (some x :: caps.map (pick σ)) H q)
  (q:∀ p,H p=none→Q (.ref p) (upd H p (.lst ((List.range k).filterMap g)))):
  LCg J caps tc te σ H Q:=by
 refine ⟨fun i m ys H'=>H'=H∧i≤k∧m=k - i∧ys=(List.range i).filterMap g,⟨k,rfl,Nat.zero_le _,rfl,rfl⟩,?_⟩;rintro i m ys _ ⟨rfl,hi,rfl,rfl⟩
 by_cases hk:i=k
 ·subst hk;exact .inl ⟨hstop,q⟩
 ·have hlt:i < k:=by omega
  refine .inr ⟨hgo i hlt,?_,fun x H' y=>?_⟩
  ·refine Nat.lt_of_le_of_lt (Nat.le_trans (List.length_filterMap_le _ _) ?_) (show 1000000 < sizeLine by decide);rw [List.length_range];omega
  ·obtain ⟨rfl,h1,h2⟩:=hy i x H' hlt y;refine h1 _ ?_;have er:List.filterMap g (List.range (i + 1))=List.filterMap g (List.range i) ++ (match g i with | some y=>[y] | none=>[]):=by
    rw [List.range_succ,List.filterMap_append];cases e:g i with
    | none=>rw [List.filterMap_cons_none e];rfl
    | some y=>rw [List.filterMap_cons_some e];rfl
   cases e:g i with
   | none=>
    rw [e] at er;dsimp only [Option.isSome];refine Zpa ⟨k - (i + 1),by omega,rfl,by omega,rfl,?_⟩;rw [er,List.append_nil]
   | some y=>
    rw [e] at er;dsimp only [Option.isSome];refine Zea (h2 y _ e ⟨k - (i + 1),by omega,rfl,by omega,rfl,?_⟩);rw [er]
theorem Yc (l:List Nat) (p:Nat→Bool) (f:Nat→V):l.filterMap (fun i=>if p i=true then some (f i) else none)=(l.filter p).map f:=by
 induction l with
 | nil=>rfl
 | cons a l ih=>
  by_cases h:p a=true
  ·rw [List.filterMap_cons_some (by rw [if_pos h]),List.filter_cons_of_pos h,List.map_cons,ih]
  ·rw [List.filterMap_cons_none (by rw [if_neg h]),List.filter_cons_of_neg h,ih]
theorem Zlk {caps:List Nat}{tc:TT}{te:TE}{σ:St}{H:Hp}{Q:VK}{n:Nat}{z:Int} (ez:z.toNat=n) (p:Nat→Bool) (f:Nat→V) (hz:n≤1000000)
  (htc:∀ i,i < n→∀ q:Bool→Hp→Prop,q (p i) H→tc (some (.int i) :: caps.map (pick σ)) H q)
  (hte:∀ i,i < n→p i=true→∀ q:VK,q (f i) H→te (some (.int i) :: caps.map (pick σ)) H q)
  (q:∀ l,H l=none→Q (.ref l) (upd H l (.lst (((List.range n).filter p).map f)))):
  LCg (Itr 0 z.toNat) caps tc te σ H Q:=by
 subst ez;refine Zlj z.toNat hz (fun i=>if p i=true then some (f i) else none) (Nat.le_refl _) (fun i hi=>hi) (fun i x H' hi y=>?_) ?_
 ·obtain ⟨e1,e2⟩:=y;have ex:x=.int i:=by rw [e2];simp
  refine ⟨e1,fun q hq=>?_,fun y q hy hq=>?_⟩
  ·rw [ex];refine htc i hi q ?_;cases e:p i with
   | true=>rw [e] at hq;exact hq
   | false=>rw [e] at hq;exact hq
  ·rw [ex];cases e:p i with
   | true=>
    rw [e] at hy;have ey:f i=y:=by simpa using hy
    exact hte i hi e q (by rw [ey];exact hq)
   | false=>rw [e] at hy;simp at hy
 ·rw [Yc];exact q
theorem Xj {K:aC}{a:Addr}{xs:List V}{caps:List Nat}{tc:TT}{te:TE}{σ:St}{H:Hp}{Q:VK} (hs:cU K H a xs) (g:Nat→Option V) (hz:xs.length≤1000000)
  (hy:∀ i x,xs[i]? =some x→(∀ q:Bool→Hp→Prop,q (g i).isSome H→tc (some x :: caps.map (pick σ)) H q)∧∀ (y:V) (q:VK),g i=some y→q y H→te (some x :: caps.map (pick σ)) H q)
  (q:∀ p,H p=none→Q (.ref p) (upd H p (.lst ((List.range xs.length).filterMap g)))):
  LCg (Itl K a) caps tc te σ H Q:=by
 refine Zlj xs.length hz g ⟨xs,hs,Nat.le_refl _⟩ (fun i hi=>⟨xs,xs[i],hs,cj hi⟩) (fun i x H' hi y=>?_) q;obtain ⟨e1,e2⟩:=y;exact ⟨e1,hy i x (e2 xs hs)⟩
theorem qX {n i:Nat} (h:i < n):ixN n (i:Int)=some i:=by
 unfold ixN;rw [if_pos (by omega),if_pos (by omega)];simp
theorem Zp9 {n:Nat}{i:Int} (h0:0≤i) (h:i.toNat < n):ixN n i=some i.toNat:=by
 have e:i=((i.toNat:Nat):Int):=by omega
 have:=qX h;rw [← e] at this;exact this
theorem tL {α:Type}{xs:List α}{i:Int}{v:α} (h0:0≤i) (h:xs[i.toNat]? =some v):atI xs i=some v:=by
 have e:i=((i.toNat:Nat):Int):=by omega
 have:=ie h;rw [← e] at this;exact this
end G
namespace G
open PySem L2
inductive Al {α β:Type} (P:α→β→Prop):List α→List β→Prop
 | nil:Al P [] []
 | cons {x:α}{y:β}{xs:List α}{ys:List β}:P x y→Al P xs ys→Al P (x :: xs) (y :: ys)
section
variable {α β:Type}{P P':α→β→Prop}{xs:List α}{ys:List β}
theorem Al.length (h:Al P xs ys):xs.length=ys.length:=by
 induction h with
 | nil=>rfl
 | cons _ _ ih=>rw [List.length_cons,List.length_cons,ih]
theorem Al.mono (h:Al P xs ys) (f:∀ x y,P x y→P' x y):Al P' xs ys:=by
 induction h with
 | nil=>exact .nil
 | cons p _ ih=>exact .cons (f _ _ p) ih
theorem Al.get (h:Al P xs ys):∀ {i:Nat}{y:β},ys[i]? =some y→∃ x,xs[i]? =some x∧P x y:=by
 induction h with
 | nil=>intro i y e;simp at e
 | cons p _ ih=>
  intro i y e;cases i with
  | zero=>simp at e;subst e;exact ⟨_,rfl,p⟩
  | succ i=>
   obtain ⟨x,e1,e2⟩:=ih (i:=i) (y:=y) (by simpa using e);exact ⟨x,by simpa using e1,e2⟩
end
end G
namespace G
open PySem L2
abbrev Tg:=Addr→Nat×Nat
def WT (H:Hp) (T:Tg):Prop:=∀ b,H b=none→T b=(0,0)
structure iU (s:Nat) (H H':Hp) (T T':Tg):Prop where
 kp:∀ b o,H b=some o→(T b).1≠s→H' b=some o
 al:∀ b o,H b=some o→∃ o',H' b=some o'
 tg:∀ b o,H b=some o→T' b=T b
 wt:WT H' T'
def fM (T:Tg) (a:Addr) (v:Nat×Nat):Tg:=fun x=>if x=a then v else T x
theorem fD {T:Tg}{a:Addr}{v:Nat×Nat}:fM T a v a=v:=by unfold fM;rw [if_pos rfl]
theorem gZ {T:Tg}{a b:Addr}{v:Nat×Nat} (h:b≠a):fM T a v b=T b:=by unfold fM;rw [if_neg h]
theorem WT.same {H H':Hp}{T:Tg} (w:WT H T) (s:aY H H'):WT H' T:=fun b h=>w b (s.free h)
theorem iU.refl {s:Nat}{H:Hp}{T:Tg} (w:WT H T):iU s H H T T:=⟨fun _ _ h _=>h,fun _ o h=>⟨o,h⟩,fun _ _ _=>rfl,w⟩
theorem iU.same {s:Nat}{H H':Hp}{T:Tg} (w:WT H T) (e:aY H H'):iU s H H' T T:=⟨fun b o h _=>e b o h,fun b o h=>⟨o,e b o h⟩,fun _ _ _=>rfl,w.same e⟩
theorem iU.trans {s:Nat}{H H1 H2:Hp}{T T1 T2:Tg} (a:iU s H H1 T T1) (b:iU s H1 H2 T1 T2):iU s H H2 T T2 where
 kp:=fun x o h n=>b.kp x o (a.kp x o h n) (by rw [a.tg x o h];exact n)
 al:=fun x o h=>by
  obtain ⟨o1,h1⟩:=a.al x o h;exact b.al x o1 h1
 tg:=fun x o h=>by
  obtain ⟨o1,h1⟩:=a.al x o h;rw [b.tg x o1 h1,a.tg x o h]
 wt:=b.wt
theorem iU.upd {s:Nat}{H:Hp}{T:Tg}{a:Addr}{o o':HO} (w:WT H T) (ha:H a=some o) (ht:(T a).1=s):iU s H (L2.upd H a o') T T where
 kp:=fun x u h n=>by
  have:x≠a:=fun e=>n (by rw [e];exact ht);rw [aB this];exact h
 al:=fun x u h=>by
  by_cases e:x=a
  ·exact ⟨o',by rw [e,aq]⟩
  ·exact ⟨u,by rw [aB e];exact h⟩
 tg:=fun _ _ _=>rfl
 wt:=fun b h=>w b (by
  by_cases e:b=a
  ·rw [e,aq] at h;cases h
  ·rw [aB e] at h;exact h)
theorem Pq {T:Tg}{a b:Addr}{x y:Nat×Nat} (ha:T a=x) (hb:T b=y) (h:x≠y):a≠b:=fun e=>h (by rw [← ha,← hb,e])
end G
namespace G
open PySem L2
theorem Zll {J:It}{caps:List Nat}{tc:TT}{te:TE}{σ:St}{H:Hp}{Q:VK} (k:Nat) (hz:k≤1000000) (R:Nat→V→Hp→Prop) (mono:∀ i y H1 H2,R i y H1→aY H1 H2→R i y H2)
  (hstop:∀ H',aY H H'→J.stop k H') (hgo:∀ i H',i < k→aY H H'→J.go i H')
  (hy:∀ i x H1 H',i < k→aY H H1→J.yld i H1 x H'→H'=H1∧(∀ q:Bool→Hp→Prop,q true H1→tc (some x :: caps.map (pick σ)) H1 q)∧∀ q:VK,(∀ y H2,aY H1 H2→R i y H2→q y H2)→te (some x :: caps.map (pick σ)) H1 q)
  (q:∀ ys H',aY H H'→ys.length=k→(∀ (i:Nat) y,ys[i]? =some y→R i y H')→∀ p,H' p=none→Q (.ref p) (upd H' p (.lst ys))):
  LCg J caps tc te σ H Q:=by
 refine ⟨fun i m ys H'=>aY H H'∧i≤k∧m=k - i∧ys.length=i∧∀ (j:Nat) y,ys[j]? =some y→R j y H',⟨k,aY.refl _,Nat.zero_le _,rfl,rfl,fun j y e=>by simp at e⟩,?_⟩;rintro i m ys H1 ⟨s1,hi,rfl,hl,hr⟩
 by_cases hk:i=k
 ·subst hk;exact .inl ⟨hstop H1 s1,q ys H1 s1 hl hr⟩
 ·have hlt:i < k:=by omega
  refine .inr ⟨hgo i H1 hlt s1,Nat.lt_of_le_of_lt (show ys.length≤1000000 by omega) (show 1000000 < sizeLine by decide),fun x H' y=>?_⟩;obtain ⟨rfl,h1,h2⟩:=hy i x H1 H' hlt s1 y;refine h1 _ (Zea (h2 _ fun y H2 s2 r=>⟨k - (i + 1),by omega,s1.trans s2,by omega,rfl,by rw [List.length_append,hl];rfl,fun j z e=>?_⟩))
  by_cases hj:j < ys.length
  ·rw [List.getElem?_append_left hj] at e;exact mono j z _ _ (hr j z e) s2
  ·have hj':=(fG e).1;rw [List.length_append,List.length_singleton] at hj';have ej:j=ys.length:=by omega
   subst ej;rw [List.getElem?_append_right (Nat.le_refl _),Nat.sub_self] at e;cases e;rw [hl];exact r
theorem Zp0 {caps:List Nat}{tc:TT}{te:TE}{σ:St}{H:Hp}{Q:VK}{n:Nat}{z:Int} (ez:z.toNat=n) (hz:n≤1000000) (R:Nat→V→Hp→Prop) (mono:∀ i y H1 H2,R i y H1→aY H1 H2→R i y H2)
  (htc:∀ i H1,∀ q:Bool→Hp→Prop,q true H1→tc (some (.int i) :: caps.map (pick σ)) H1 q)
  (hte:∀ (i:Nat) H1,i < n→aY H H1→∀ q:VK,(∀ y H2,aY H1 H2→R i y H2→q y H2)→te (some (.int i) :: caps.map (pick σ)) H1 q)
  (q:∀ ys H',aY H H'→ys.length=n→(∀ (i:Nat) y,ys[i]? =some y→R i y H')→∀ p,H' p=none→Q (.ref p) (upd H' p (.lst ys))):LCg (Itr 0 z.toNat) caps tc te σ H Q:=by
 subst ez;refine Zll z.toNat hz R mono (fun _ _=>Nat.le_refl _) (fun i _ hi _=>hi) (fun i x H1 H' hi s1 y=>?_) q;obtain ⟨e1,e2⟩:=y;have ex:x=.int i:=by rw [e2];simp
 subst ex;exact ⟨e1,htc i H1,fun q hq=>hte i H1 hi s1 q hq⟩
theorem Zp1 {J:It}{caps:List Nat}{tc:TT}{te:TE}{σ:St}{H:Hp}{Q:VK} (k:Nat) (hz:k≤1000000) (R:Nat→Addr→Hp→Prop) (mono:∀ i y H1 H2,R i y H1→aY H1 H2→R i y H2) (al:∀ i y H1,R i y H1→∃ o,H1 y=some o)
  (hstop:∀ H',aY H H'→J.stop k H') (hgo:∀ i H',i < k→aY H H'→J.go i H')
  (hy:∀ i x H1 H',i < k→aY H H1→J.yld i H1 x H'→H'=H1∧(∀ q:Bool→Hp→Prop,q true H1→tc (some x :: caps.map (pick σ)) H1 q)∧∀ q:VK,(∀ r H2,aY H1 H2→H1 r=none→R i r H2→q (.ref r) H2)→te (some x :: caps.map (pick σ)) H1 q)
  (q:∀ (rs:List Addr) H',aY H H'→rs.length=k→rs.Nodup→(∀ r∈rs,H r=none)→(∀ (i:Nat) r,rs[i]? =some r→R i r H')→∀ p,H' p=none→Q (.ref p) (upd H' p (.lst (rs.map V.ref)))):
  LCg J caps tc te σ H Q:=by
 refine ⟨fun i m ys H'=>∃ rs:List Addr,ys=rs.map V.ref∧aY H H'∧i≤k∧m=k - i∧rs.length=i∧rs.Nodup∧(∀ r∈rs,H r=none)∧∀ (j:Nat) r,rs[j]? =some r→R j r H',⟨k,[],rfl,aY.refl _,Nat.zero_le _,rfl,rfl,List.nodup_nil,fun r hr=>(nomatch hr),fun j y e=>by simp at e⟩,?_⟩;rintro i m _ H1 ⟨rs,rfl,s1,hi,rfl,hl,nd,nn,hr⟩
 by_cases hk:i=k
 ·subst hk;exact .inl ⟨hstop H1 s1,q rs H1 s1 hl nd nn hr⟩
 ·have hlt:i < k:=by omega
  refine .inr ⟨hgo i H1 hlt s1,Nat.lt_of_le_of_lt (show (rs.map V.ref).length≤1000000 by rw [bu];omega) (show 1000000 < sizeLine by decide),fun x H' y=>?_⟩;obtain ⟨rfl,h1,h2⟩:=hy i x H1 H' hlt s1 y;refine h1 _ (Zea (h2 _ fun r H2 s2 nr rr=>⟨k - (i + 1),by omega,rs ++ [r],by rw [List.map_append];rfl,s1.trans s2,by omega,rfl,by rw [List.length_append,hl];rfl,?_,fun z hz=>?_,fun j z e=>?_⟩))
  ·rw [List.nodup_append];refine ⟨nd,by simp,fun a ha b hb e=>?_⟩;rw [List.mem_singleton.mp hb] at e;subst e;obtain ⟨j,hj,ej⟩:=List.getElem_of_mem ha;obtain ⟨o,ho⟩:=al j a _ (hr j a (by rw [cj hj,ej]));rw [nr] at ho;cases ho
  ·rcases List.mem_append.mp hz with hz | hz
   ·exact nn z hz
   ·rw [List.mem_singleton.mp hz];exact s1.free nr
  ·by_cases hj:j < rs.length
   ·rw [List.getElem?_append_left hj] at e;exact mono j z _ _ (hr j z e) s2
   ·have hj':=(fG e).1;rw [List.length_append,List.length_singleton] at hj';have ej:j=rs.length:=by omega
    subst ej;rw [List.getElem?_append_right (Nat.le_refl _),Nat.sub_self] at e;cases e;rw [hl];exact rr
theorem Zaf {K:aC}{a:Addr}{xs:List V}{caps:List Nat}{tc:TT}{te:TE}{σ:St}{H:Hp}{Q:VK} (hs:cU K H a xs) (hz:xs.length≤1000000) (R:Nat→Addr→Hp→Prop) (mono:∀ i y H1 H2,R i y H1→aY H1 H2→R i y H2) (al:∀ i y H1,R i y H1→∃ o,H1 y=some o)
  (htc:∀ x H1,∀ q:Bool→Hp→Prop,q true H1→tc (some x :: caps.map (pick σ)) H1 q)
  (hte:∀ (i:Nat) x H1,xs[i]? =some x→aY H H1→∀ q:VK,(∀ r H2,aY H1 H2→H1 r=none→R i r H2→q (.ref r) H2)→te (some x :: caps.map (pick σ)) H1 q)
  (q:∀ (rs:List Addr) H',aY H H'→rs.length=xs.length→rs.Nodup→(∀ r∈rs,H r=none)→(∀ (i:Nat) r,rs[i]? =some r→R i r H')→∀ p,H' p=none→Q (.ref p) (upd H' p (.lst (rs.map V.ref)))):LCg (Itl K a) caps tc te σ H Q:=by
 refine Zp1 xs.length hz R mono al (fun H' s=>⟨xs,s.seq hs,Nat.le_refl _⟩) (fun i H' hi s=>⟨xs,xs[i],s.seq hs,cj hi⟩) (fun i x H1 H' hi s1 y=>?_) q;obtain ⟨e1,e2⟩:=y;exact ⟨e1,htc x H1,fun q hq=>hte i x H1 (e2 xs (s1.seq hs)) s1 q hq⟩
end G
namespace G
open PySem L2 PySem.Spec PyProof.Rows
theorem boot_isinstance:bootBuiltins "isinstance"=some (.builtin "isinstance"):=by decide +kernel
theorem boot_len:bootBuiltins "len"=some (.builtin "len"):=by decide +kernel
theorem boot_int:bootBuiltins "int"=some (.type "int"):=by decide +kernel
theorem boot_str:bootBuiltins "str"=some (.type "str"):=by decide +kernel
theorem boot_bool:bootBuiltins "bool"=some (.type "bool"):=by decide +kernel
theorem boot_list:bootBuiltins "list"=some (.type "list"):=by decide +kernel
theorem boot_tuple:bootBuiltins "tuple"=some (.type "tuple"):=by decide +kernel
structure Ztz (K:aC) (x qual:Str) (st:Stmt) (f:Addr) (fd:FuncData):Prop where
 ex:∃ (oc:Value) (od:Option Addr) (dV kV doc pm:Value) (an:Option Addr) (cdv ct:Value) (osl:Array (Option Value)),
  fd=PySem.W.fnOf x qual (mJ st) (jR st) (aF st) dV kV doc pm an cdv ct∧K.lookup f=some ⟨oc,od,.func fd,osl⟩∧PySem.W.codeIn K cdv qual=true
 kp:PySem.W.keepIn K (.ref f)=true
section
variable {P:Program}{w:World}{K:aC}{mg:Str→Option Value}{base:Heap}
theorem Zpz {x qual:Str}{st:Stmt}{f:Addr}{oc dV:Value}{od an:Option Addr}{osl:Array (Option Value)}{kV doc pm cdv ct:Value} (l:K.lookup f=some ⟨oc,od,.func (PySem.W.fnOf x qual (mJ st) (jR st) (aF st) dV kV doc pm an cdv ct),osl⟩)
  (c:PySem.W.codeIn K cdv qual=true) (k:PySem.W.keepIn K (.ref f)=true):Ztz K x qual st f (PySem.W.fnOf x qual (mJ st) (jR st) (aF st) dV kV doc pm an cdv ct):=⟨⟨oc,od,dV,kV,doc,pm,an,cdv,ct,osl,rfl,l,c⟩,k⟩
theorem Zfe {f td:Addr}{oc tc:Value}{od to_:Option Addr}{osl ts:Array (Option Value)}{fd:FuncData}{items:Array Value}{tn:Nat}{ps:List Str}{ds:List Value} (_:K.lookup f=some ⟨oc,od,.func fd,osl⟩) (t:K.lookup td=some ⟨tc,to_,.seq items tn,ts⟩)
  (h:∀ us:List Value,us.length + ds.length=ps.length→∃ k,bindArgs fd ⟨us,[]⟩=seqItems? (.ref td) >>= k∧k (some items)=pure (ps.zip (us ++ ds))) (hd:fd.defaults=.ref td:=by rfl):Binds K fd ps ds:=by
 intro s us KX hl;obtain ⟨k,h1,h2⟩:=h us (by rw [List.length_append] at hl;exact hl);exact BindsTo.of_defaults hd (KX _ _ t) rfl (by rw [h1,hd]) h2
end
section
variable {X:Cx}
theorem u5:zy X (compareOp .Is) Mq:=Zrt
theorem Bo:zy X (compareOp .IsNot) Dl:=Zoi
theorem dH:HX X (.builtin "len") (mD X.K):=Yy
def kk (t n:String):Option Bool:=if (Value.type t == Value.type n)=true then some true else if PySem.W.kitMeta n=true then (fastBuiltinMro t).map (·.contains (.type n)) else none
theorem Zsa (K:aC) (t n:String):PySem.W.kitOne K (.type t) (.type n)=kk t n:=rfl
theorem Ze8:kk "int" "int"=some true:=by decide +kernel
theorem Zan:kk "int" "bool"=some false:=by decide +kernel
theorem Ze7:kk "int" "str"=some false:=by decide +kernel
theorem Zal:kk "int" "list"=some false:=by decide +kernel
theorem Xq:kk "int" "tuple"=some false:=by decide +kernel
theorem Zam:kk "int" "dict"=some false:=by decide +kernel
theorem Zar:kk "bool" "int"=some true:=by decide +kernel
theorem Xy:kk "bool" "bool"=some true:=by decide +kernel
theorem Zaq:kk "bool" "str"=some false:=by decide +kernel
theorem Xw:kk "bool" "list"=some false:=by decide +kernel
theorem R6:kk "bool" "tuple"=some false:=by decide +kernel
theorem Xx:kk "bool" "dict"=some false:=by decide +kernel
theorem Ze6:kk "str" "int"=some false:=by decide +kernel
theorem Zai:kk "str" "bool"=some false:=by decide +kernel
theorem Ze5:kk "str" "str"=some true:=by decide +kernel
theorem Zag:kk "str" "list"=some false:=by decide +kernel
theorem Xm:kk "str" "tuple"=some false:=by decide +kernel
theorem Zah:kk "str" "dict"=some false:=by decide +kernel
theorem Mx:kk "NoneType" "int"=some false:=by decide +kernel
theorem JS:kk "NoneType" "bool"=some false:=by decide +kernel
theorem Mw:kk "NoneType" "str"=some false:=by decide +kernel
theorem JQ:kk "NoneType" "list"=some false:=by decide +kernel
theorem GK:kk "NoneType" "tuple"=some false:=by decide +kernel
theorem JR:kk "NoneType" "dict"=some false:=by decide +kernel
theorem Zak:kk "list" "int"=some false:=by decide +kernel
theorem Xp:kk "list" "bool"=some false:=by decide +kernel
theorem Zaj:kk "list" "str"=some false:=by decide +kernel
theorem Xn:kk "list" "list"=some true:=by decide +kernel
theorem R4:kk "list" "tuple"=some false:=by decide +kernel
theorem Xo:kk "list" "dict"=some false:=by decide +kernel
theorem Xl:kk "tuple" "int"=some false:=by decide +kernel
theorem R3:kk "tuple" "bool"=some false:=by decide +kernel
theorem Xk:kk "tuple" "str"=some false:=by decide +kernel
theorem R0:kk "tuple" "list"=some false:=by decide +kernel
theorem PN:kk "tuple" "tuple"=some true:=by decide +kernel
theorem R1:kk "tuple" "dict"=some false:=by decide +kernel
theorem Zap:kk "dict" "int"=some false:=by decide +kernel
theorem Xv:kk "dict" "bool"=some false:=by decide +kernel
theorem Zao:kk "dict" "str"=some false:=by decide +kernel
theorem Xr:kk "dict" "list"=some false:=by decide +kernel
theorem R5:kk "dict" "tuple"=some false:=by decide +kernel
theorem Xu:kk "dict" "dict"=some true:=by decide +kernel
theorem Zr7 {H:Hp}{x:V}{t:String} (e:tyN H x=some t):t="int"∨t="bool"∨t="str"∨t="NoneType"∨t="list"∨t="tuple"∨t="dict":=by
 unfold tyN at e;split at e<;>(first | (cases e;simp) | (split at e<;>(first | (cases e;simp) | cases e)) | cases e)
theorem Zsi {t n:String}{k:Bool} (e:uL t n=some k):n="int"∨n="bool"∨n="str"∨n="list"∨n="tuple"∨n="dict":=by
 unfold uL at e
 by_cases h:(["int","bool","str","list","tuple","dict"].contains n)=true
 ·simpa using h
 ·rw [if_neg h] at e;cases e
theorem Zuk {H:Hp}{x:V}{t n:String}{k:Bool} (ht:tyN H x=some t) (e:uL t n=some k):kk t n=some k:=by
 rcases Zr7 ht with rfl | rfl | rfl | rfl | rfl | rfl | rfl<;>rcases Zsi e with rfl | rfl | rfl | rfl | rfl | rfl
 ·rw [Lq] at e;rw [Ze8];exact e
 ·rw [GQ] at e;rw [Zan];exact e
 ·rw [Zat] at e;rw [Ze7];exact e
 ·rw [XM] at e;rw [Zal];exact e
 ·rw [Sq] at e;rw [Xq];exact e
 ·rw [XN] at e;rw [Zam];exact e
 ·rw [X3] at e;rw [Zar];exact e
 ·rw [SJ] at e;rw [Xy];exact e
 ·rw [XX] at e;rw [Zaq];exact e
 ·rw [Sx] at e;rw [Xw];exact e
 ·rw [Qh] at e;rw [R6];exact e
 ·rw [Sy] at e;rw [Xx];exact e
 ·rw [Zas] at e;rw [Ze6];exact e
 ·rw [XF] at e;rw [Zai];exact e
 ·rw [Lp] at e;rw [Ze5];exact e
 ·rw [XC] at e;rw [Zag];exact e
 ·rw [Sd] at e;rw [Xm];exact e
 ·rw [XD] at e;rw [Zah];exact e
 ·rw [J2] at e;rw [Mx];exact e
 ·rw [GZ] at e;rw [JS];exact e
 ·rw [J1] at e;rw [Mw];exact e
 ·rw [GR] at e;rw [JQ];exact e
 ·rw [Et] at e;rw [GK];exact e
 ·rw [GX] at e;rw [JR];exact e
 ·rw [XJ] at e;rw [Zak];exact e
 ·rw [Sh] at e;rw [Xp];exact e
 ·rw [XH] at e;rw [Zaj];exact e
 ·rw [Ds] at e;rw [Xn];exact e
 ·rw [Qf] at e;rw [R4];exact e
 ·rw [Sg] at e;rw [Xo];exact e
 ·rw [R9] at e;rw [Xl];exact e
 ·rw [Qe] at e;rw [R3];exact e
 ·rw [R8] at e;rw [Xk];exact e
 ·rw [Qc] at e;rw [R0];exact e
 ·rw [zH] at e;rw [PN];exact e
 ·rw [Qd] at e;rw [R1];exact e
 ·rw [XS] at e;rw [Zap];exact e
 ·rw [Sv] at e;rw [Xv];exact e
 ·rw [XR] at e;rw [Zao];exact e
 ·rw [Ss] at e;rw [Xr];exact e
 ·rw [Qg] at e;rw [R5];exact e
 ·rw [Su] at e;rw [Xu];exact e
theorem tyOf {K:aC}{H:Hp}{x:V}{t:String} (e:tyN H x=some t):Km K H x (.type t):=by
 cases x with
 | non=>cases e;exact .non
 | bl y=>cases e;exact .bl y
 | int y=>cases e;exact .int y
 | str y=>cases e;exact .str y
 | byt y=>cases e
 | flt y=>cases e
 | ty y=>cases e
 | ref a=>
  have e':(match H a with | some (.lst _)=>some "list" | some (.xO _ (.lst _))=>some "list" | some (.tup _)=>some "tuple" | some (.dK _)=>some "dict" | some (.dT _)=>some "dict" | _=>none)=some t:=e;split at e'
  ·rename_i h;cases e';exact .lst h
  ·rename_i h;cases e';exact .xO h
  ·rename_i h;cases e';exact .tup h
  ·rename_i h;cases e';exact .dK h
  ·rename_i h;cases e';exact .dT h
  ·cases e'
theorem Ca:HX X (.builtin "isinstance") QF:=by
 intro pins s σ H xs us Q I r h;obtain ⟨x,n,t,k,rfl,ht,hk,q⟩:=h;obtain ⟨u,w',rfl,rx,rn⟩:=vals2 r;have rn':w'=Value.type n:=rn;subst rn';exact Zhv (t:=.type t) (b:=k) I rx (tyOf ht) ((Zsa _ _ _).trans (Zuk ht hk)) fun tk=>⟨.bl k,H,I.tok _,rfl,q⟩
end
end G
namespace G
open PySem L2 PySem.Spec PyProof.Rows
section
variable {X:Cx}
def GC (mg:Str→Option Value) (x:Str) (v:V):Prop:=∃ u,mg x=some u∧RelV v u
theorem GC.pe {x:Str}{v:V}{pos:Pos} (h:GC X.mg x v) (hg:Gl X x) (hd:(x == ("__debug__":Str))=false:=by decide):PE X (.Name x pos) (tC v):=by
 obtain ⟨u,hm,r⟩:=h;exact Zof hg hm r hd
end
end G
namespace G
open PySem L2 PySem.Spec PyProof.Rows
section
variable {X:Cx}
theorem Zox (z:Str) (k:Int):Txt.mul z k=Zh2 z k:=by
 unfold Txt.mul Zh2;have fl:∀ (n:Nat) (acc:List Nat),List.foldl (fun x1 x2=>x1 ++ x2) acc.toArray (List.replicate n z.cps)=(acc ++ (List.replicate n z.cps.toList).flatten).toArray:=by
  intro n
  induction n with
  | zero=>intro acc;simp
  | succ n ih=>
   intro acc;rw [List.replicate_succ,List.replicate_succ,List.foldl_cons,List.flatten_cons];have e:acc.toArray ++ z.cps=(acc ++ z.cps.toList).toArray:=by simp
   rw [e,ih,List.append_assoc]
 split
 ·rename_i h
  have e:k.toNat=0:=by omega
  rw [e];rfl
 ·rename_i h
  split
  ·rename_i h2
   rw [Bool.or_eq_true] at h2;rcases h2 with h2 | h2
   ·have e:k.toNat=1:=by have:=beq_iff_eq.mp h2;omega
    rw [e];simp
   ·have e:z.cps=#[]:=Array.eq_empty_of_size_eq_zero (beq_iff_eq.mp h2);obtain ⟨zc⟩:=z;dsimp only at e;subst e;have:∀ n:Nat,(List.replicate n ([]:List Nat)).flatten=[]:=fun n=>by
     induction n with
     | zero=>rfl
     | succ n ih=>rw [List.replicate_succ,List.flatten_cons,ih];rfl
    simp [this]
  ·have:=fl k.toNat [];simp only [List.nil_append] at this;show (⟨List.foldl (fun x1 x2=>x1 ++ x2) #[] (List.replicate k.toNat z.cps)⟩:Str)=_;rw [this]
theorem Ou (z:Str) (k:Int):(Zh2 z k).length=k.toNat * z.length:=by
 show (List.toArray _).size=_;rw [List.size_toArray];have:∀ n:Nat,(List.replicate n z.cps.toList).flatten.length=n * z.length:=fun n=>by
  induction n with
  | zero=>simp
  | succ n ih=>rw [List.replicate_succ,List.flatten_cons,List.length_append,ih,str_len,Nat.succ_mul,Nat.add_comm]
 exact this _
theorem Zfx:zy X (binaryOp .Mult) Zfs:=by
 intro pins s σ H x y v u Q I rx ry h;obtain ⟨z,k,rfl,rfl,h0,h1,h2,q⟩:=h;obtain ⟨t,rfl⟩:=rx;obtain ⟨t',rfl⟩:=ry;have hb:k.toNat * z.length≤1000000:=Nat.le_trans (Nat.mul_le_mul (show k.toNat≤1000 by omega) h2) (by decide);refine SB.mul ⟨?_,fun h3 _=>?_,fun h3 _=>?_⟩ fun t'' kk=>?_
 ·simp;omega
 ·intro z1;have:(z.length:Int)≤1000:=by omega
  have e:(1000:Int) < (2 ^ 63 - 1) / k:=by
   have hk:0 < k:=by omega
   rw [Int.lt_iff_add_one_le,Int.le_ediv_iff_mul_le hk];omega
  omega
 ·unfold Builtin.Str.tooLong;have:z.length * k.toNat≤1000000:=by rw [Nat.mul_comm];exact hb
  simp;exact Nat.le_trans this (by decide)
 ·rw [Zox];exact ⟨.str (Zh2 z k),H,I.tok _,⟨_,rfl⟩,q _ (by rw [Ou];exact hb) rfl⟩
end
end G
namespace G
open PySem L2
end G
namespace G
open PySem L2 PySem.Spec PyProof.Rows
section
variable {X:Cx}{pins:List (Addr×Obj)}{σ:L2.St}{H:Hp}{s:Shared}{acc:Addr}{ys:List V}{its:List Value}{n:Nat}
theorem adopt (I:Inv X pins σ H s) (hf:nM X pins H acc) (ho:s.heap.get? acc=some { cls:=.type "list",data:=.seq its.toArray n }) (hv:Vals ys its) (hz:ys.length≤sizeLine):Inv X pins σ (upd H acc (.lst ys)) s:=by
 obtain ⟨f0,f1,f2,f3,f4,f5⟩:=hf;have ne:∀ b u,H b=some u→b≠acc:=fun b u e=>aD e f0;refine I.step (h':=s.heap) (g':=s.gens) (t':=s.toks) (d':=s.drawn) (ch:=[acc]) (fun b hb=>?_) (fun _ _ _ _ _ e _=>e) (fun b o _ _ _ e _=>⟨o.slots,e⟩) (fun b o hb e h0=>?_) (fun b o _ e=>⟨o,e⟩)
  (fun b xs e=>by rw [aB (ne b _ e)];exact e) (fun b o u e=>by rw [aB (ne b _ e)];exact e) (fun b ps e=>⟨#[],by rw [aB (ne b _ e),e];simp⟩) (fun m hm=>hm) (fun b u e=>?_) I.bare
 ·have e:b=acc:=by simpa using hb
  subst e;exact ⟨f3,f1,f4,f5⟩
 ·have e:b≠acc:=by simpa using hb
  rw [aB e];exact h0
 ·by_cases hb:b=acc
  ·subst hb;rw [aq] at e;cases e;exact ⟨hz,its,n,hv,ho⟩
  ·rw [aB hb] at e;exact (I.hok b u e).stay (fun _ _ _ q=>q) (fun c q=>by rw [aB (ne c _ q)];exact q) fun c xs q=>by rw [aB (ne c _ q)];exact q
theorem disown (I:Inv X pins σ (upd H acc (.lst ys)) s) (hf:nM X pins H acc):Inv X pins σ H s:=by
 obtain ⟨f0,f1,f2,f3,f4,f5⟩:=hf;have back:∀ b u,upd H acc (.lst ys) b=some u→u≠.lst ys→H b=some u:=fun b u e hne=>by
  by_cases hb:b=acc
  ·subst hb;rw [aq] at e;cases e;exact absurd rfl hne
  ·rw [aB hb] at e;exact e
 refine I.step (h':=s.heap) (g':=s.gens) (t':=s.toks) (d':=s.drawn) (ch:=[acc]) (fun b hb=>?_) (fun _ _ _ _ _ e _=>e) (fun b o _ _ _ e _=>⟨o.slots,e⟩) (fun b o hb e h0=>?_) (fun b o _ e=>⟨o,e⟩)
  (fun b xs e=>back b _ e (fun z=>nomatch z)) (fun b o u e=>back b _ e (fun z=>nomatch z)) (fun b ps e=>⟨#[],by rw [back b _ e (fun z=>nomatch z)];simp⟩) (fun m hm=>hm) (fun b u e=>?_) I.bare
 ·have e:b=acc:=by simpa using hb
  subst e;exact ⟨f3,f1,f4,f5⟩
 ·have e:b≠acc:=by simpa using hb
  rw [aB e] at h0;exact h0
 ·have hb:b≠acc:=aD e f0;have e':upd H acc (.lst ys) b=some u:=by rw [aB hb];exact e
  exact (I.hok b u e').stay (fun _ _ _ q=>q) (fun c q=>back c _ q (fun z=>nomatch z)) fun c xs q=>back c _ q (fun z=>nomatch z)
end
def PF (X:Cx) (ifs:List Expr) (t:TT):Prop:=
 ∀ (pins:List (Addr×Obj)) (s:Shared) (σ:L2.St) (H:Hp) (Q:Bool→Hp→Prop),Inv X pins σ H s→t σ H Q→
  wpAny (model X.prog X.w) X.A (forIn ifs true fun c r=>if r=true then do let ok ← isTrue c X.env (eval c X.env);pure (ForInStep.yield ok) else pure (ForInStep.yield r)) (TP X pins σ Q) X.xe s
theorem En {X:Cx}:PF X [] w6:=fun _ _ _ H _ I h=>wpAny_tests_nil ⟨H,I,h⟩
theorem Zd9 {X:Cx}{c:Expr}{t:TT} (h:PT X c t):PF X [c] t:=fun pins s σ H Q I q=>wpAny_tests_one (h pins s σ H Q I q)
def Yx (X:Cx) (scope:Scope) (cl:List (Str×Addr)) (N:List Str) (C:Addr) (s:Shared) (H:Hp) (ex:List Addr) (pn:List (Addr×Obj)):Cx:=
 { X with N:=N,s₀:=s,H₀:=H,env:=compEnvC scope cl C X.env,outer:=X.stack,ex:=ex,fn:=fun _=>false,pn:=pn,xe:=fun _ _=>False }
def AllIn (cells:List (Str×Addr)):List (Str×Addr)→Prop
 | []=>True
 | p :: r=>cells.lookup p.1=some p.2∧AllIn cells r
theorem AllIn.get {cells:List (Str×Addr)}:∀ {cl:List (Str×Addr)},AllIn cells cl→∀ {x:Str}{c:Addr},cl.lookup x=some c→cells.lookup x=some c
 | [],_,x,c,h=>by cases h
 | (y,d) :: r,a,x,c,h=>by
  cases e:(x == y) with
  | true=>
   rw [List.lookup_cons,e] at h;have e':x=y:=beq_iff_eq.mp e;subst e';cases h;exact a.1
  | false=>
   rw [List.lookup_cons,e] at h;exact AllIn.get a.2 h
def DP (X:Cx):List Str→List Nat→Prop
 | [],[]=>True
 | y :: r,j :: js=>X.N[j]? =some y∧X.env.kindOf y=some .cell∧DP X r js
 | _,_=>False
theorem DP.len {X:Cx}:∀ {ns:List Str}{js:List Nat},DP X ns js→ns.length=js.length
 | [],[],_=>rfl
 | [],_ :: _,h=>h.elim
 | _ :: _,[],h=>h.elim
 | _ :: r,_ :: js,h=>by rw [List.length_cons,List.length_cons,DP.len h.2.2]
theorem DP.get {X:Cx}{σ:L2.St}:∀ {ns:List Str}{js:List Nat},DP X ns js→∀ {i:Nat}{x:Str}{v:V},ns[i]? =some x→(js.map (pick σ))[i]? =some (some v)→∃ j:Nat,X.N[j]? =some x∧X.env.kindOf x=some .cell∧σ[j]? =some (some v)
 | [],_,_,i,x,v,h,_=>by simp at h
 | _ :: _,[],h,_,_,_,_,_=>h.elim
 | y :: r,j :: js,h,0,x,v,h1,h2=>by
  simp at h1 h2;subst h1;refine ⟨j,h.1,h.2.1,?_⟩;unfold pick at h2;split at h2
  ·rename_i e;rw [e,h2]
  ·cases h2
 | y :: r,j :: js,h,i + 1,x,v,h1,h2=>DP.get (i:=i) h.2.2 (by simpa using h1) (by simpa using h2)
theorem Zle {x n:Str}{k:NameKind}{r:List (Str×NameKind)} (h:(x == n)=false):List.lookup x ((n,k) :: r)=List.lookup x r:=by rw [List.lookup_cons,h]
theorem Zlf {x n:Str}{k:NameKind}{r:List (Str×NameKind)} (h:(x == n)=true):List.lookup x ((n,k) :: r)=some k:=by rw [List.lookup_cons,h]
def uh (env:Env) (x:Str) (k:NameKind):NameKind:=if (k == NameKind.free && env.scope.kind == .function && env.kindOf x == some .cell)=true then .cell else k
theorem jL {env:Env}{x:Str}:∀ {names:List (Str×NameKind)},
  (names.map fun (n,k)=>if (k == NameKind.free && env.scope.kind == .function && env.kindOf n == some .cell) then (n,NameKind.cell) else (n,k)).lookup x=(names.lookup x).map (uh env x)
 | []=>rfl
 | (n,k') :: r=>by
  have ih:=@jL env x r;show List.lookup x ((if (k' == NameKind.free && env.scope.kind == .function && env.kindOf n == some .cell)=true then (n,NameKind.cell) else (n,k')) :: r.map fun (n,k)=>if (k == NameKind.free && env.scope.kind == .function && env.kindOf n == some .cell) then (n,NameKind.cell) else (n,k))=_;cases hx:x == n with
  | true=>
   have e:=beq_iff_eq.mp hx;subst e;rw [Zlf (k:=k') hx]
   by_cases hc:(k' == NameKind.free && env.scope.kind == .function && env.kindOf x == some .cell)=true
   ·rw [if_pos hc,Zlf hx];show some NameKind.cell=some (uh env x k');unfold uh;rw [if_pos hc]
   ·rw [if_neg hc,Zlf hx];show some k'=some (uh env x k');unfold uh;rw [if_neg hc]
  | false=>
   rw [Zle (k:=k') (r:=r) hx]
   by_cases hc:(k' == NameKind.free && env.scope.kind == .function && env.kindOf n == some .cell)=true
   ·rw [if_pos hc,Zle hx];exact ih
   ·rw [if_neg hc,Zle hx];exact ih
theorem lookup_all {names:List (Str×NameKind)}{p:Str×NameKind→Bool}:∀ {x:Str}{k:NameKind},names.all p=true→names.lookup x=some k→p (x,k)=true:=by
 induction names with
 | nil=>intro x k _ h;simp at h
 | cons y r ih=>
  intro x k ha h;obtain ⟨n,k'⟩:=y;rw [List.all_cons,Bool.and_eq_true] at ha;cases hx:x == n with
  | true=>
   rw [List.lookup_cons,hx] at h;have e1:x=n:=beq_iff_eq.mp hx;have e2:k'=k:=Option.some.inj h;rw [e1,← e2];exact ha.1
  | false=>
   rw [List.lookup_cons,hx] at h;exact ih ha.2 h
theorem BW {prog:Program}{w:World}{A:Around}{R:Result→Shared→Prop}{s:Shared}{elt target iter:Expr}{ifs:List Expr}{scope:Scope}{pos:Pos}{it acc:Value}{env:Env} (I:Nat→Shared→Prop)
  (turn:∀ n s,I n s→wpAny (model prog w) A (pyNext it) (fun r s₁=>match r with
   | none=>R (.ok .next) s₁
   | some v=>wpAny (model prog w) A (letOwnedTupleGo target it v) (fun _ s₁'=>wpAny (model prog w) A (assign target env v) (fun _ s₂=>
     wpAny (model prog w) A (forIn ifs true fun c r=>if r=true then do let ok ← isTrue c env (eval c env);pure (ForInStep.yield ok) else pure (ForInStep.yield r)) (fun ok s₃=>
      if ok=true then wpAny (model prog w) A (eval elt env) (fun x s₄=>
       wpAny (model prog w) A (call (.builtin "list.append") [acc,x]) (fun _ s₅=>∃ m,m < n∧I m s₅) (fun _ _=>False) s₄) (fun _ _=>False) s₃
      else ∃ m,m < n∧I m s₃) (fun _ _=>False) s₂) (fun _ _=>False) s₁') (fun _ _=>False) s₁) (fun _ _=>False) s)
  (n:Nat) (h:I n s):
  codeAny (model prog w) A (.compLoop (.ListComp elt [⟨target,iter,ifs,0⟩] scope pos) 0 it acc env) R s:=by
 refine codeAny_loop rfl I (fun n s hI=>?_) n h;show wpAny _ A ((compTurn (.ListComp elt [⟨target,iter,ifs,0⟩] scope pos) 0 it acc env).onRaise (fun x=>do noteFrame x env;theTreesLotGoes x)) _ _ s;refine wpAny_noted ?_;rw [compTurn_list];refine wpAny_bind (wpAny_standAt (wpAny_bind (wpAny_mono (turn n s hI) (fun r s₁ h₁=>?_) fun _ _ h'=>h'.elim)));cases r with
 | none=>exact wpAny_pure h₁
 | some v=>
  refine wpAny_bind (wpAny_mono h₁ (fun _ s₁' h₁'=>?_) fun _ _ h'=>h'.elim);refine wpAny_bind (wpAny_mono h₁' (fun _ s₂ h₂=>wpAny_bind (wpAny_mono h₂ (fun ok s₃ h₃=>?_) fun _ _ h'=>h'.elim)) fun _ _ h'=>h'.elim);cases ok with
  | false=>exact wpAny_pure ⟨rfl,h₃⟩
  | true=>
   exact wpAny_bind (wpAny_bind (wpAny_mono h₃ (fun x s₄ h₄=>wpAny_bind (wpAny_mono h₄ (fun _ s₅ h₅=>wpAny_pure (wpAny_pure ⟨rfl,h₅⟩)) fun _ _ h'=>h'.elim)) fun _ _ h'=>h'.elim))
theorem ZQ {X:Cx}{elt iter:Expr}{x:Str}{px pos:Pos}{ifs:List Expr}{scope:Scope}{cl:List (Str×Addr)}{wi:TI}{tc:TT}{te:TE}{cns:List Str} (caps:List Nat)
  (hi:PI X (.Name x px) iter wi)
  (hf:∀ C s H ex pn,PF (Yx X scope cl (x :: cns) C s H ex pn) ifs tc) (he:∀ C s H ex pn,PE (Yx X scope cl (x :: cns) C s H ex pn) elt te) (hc:X.calm=true)
  (hclos:closureFor scope X.env=pure cl) (hcl:AllIn X.env.cells cl) (hcap:DP X cns caps)
  (hkind:scope.kind=.function) (hcell:(scope.names.all fun p=>p.2 != .cell)=true) (hfree:(scope.names.all fun p=>p.2 != .free || (cl.lookup p.1).isSome)=true)
  (hcf:(cns.all fun y=>scope.names.lookup y == some .free)=true) (hnames:∀ y∈scope.names,y.2=.local→scope.names.lookup y.1=some .local) (hx:scope.names.lookup x=some .local) (hnd:(x :: cns).Nodup)
  (hs:∀ v,foldedSetIterable iter X.env v=pure v:=by intro _;rfl):
  PE X (.ListComp elt [⟨.Name x px,iter,ifs,0⟩] scope pos) (tLC wi caps tc te):=by
 intro pins s σ H Q I h;rw [eval_ListComp];refine wpAny_comprehension_free (use:=none) rfl hs hclos hkind hnames (gM (hi pins s σ H _ I h) fun xv s1 h1=>gM h1 fun itv s2 h2=>?_);obtain ⟨it,fp,tn,J,H2,rfl,I2,T,st2,f2,W,⟨m0,w0⟩,turn⟩:=h2;have hne:∀ y∈scope.names,y.2≠.cell:=fun y hy e=>by
  have:=List.all_eq_true.mp hcell y hy;rw [e] at this;simp at this
 refine wpAny_newObj_type (wpAny_newFunctionEnv hne (by intro y hy;simp at hy) (fun h₁ hns₁ hsb₁=>?_) hkind);dsimp only at hns₁ hsb₁ ⊢;generalize hacc:s2.heap.objs.size=acc;generalize hH3:s2.heap.push { cls:=.type "list",dict:=none,data:=.seq ([]:List Value).toArray }=h3 at hns₁ hsb₁ ⊢;have hC:h3.objs.size=acc + 1:=by rw [← hH3,Heap.size_push,hacc]
 have tK:∀ b o,s2.heap.get? b=some o→h3.get? b=some o:=fun b o e=>hH3 ▸ Heap.get?_push_of_some _ e;have Es:∀ b o,h3.get? b=some o→h₁.get? b=some o:=fun b o e=>hsb₁.extBut b o (Nat.ne_of_lt (Heap.lt_size e)) (Heap.get?_push_of_some _ e);have Zkm:h3.get? acc=some { cls:=.type "list",dict:=none,data:=.seq ([]:List Value).toArray }:=by
  rw [← hH3,← hacc];exact Heap.get?_push_size _ rfl
 have I3:Inv X pins σ H2 { s2 with heap:=h3 }:=I2.kept (t':=s2.toks) tK;have Qw:nM X pins H2 acc:=I2.Yb (Nat.le_of_eq hacc) (I2.hok.fresh (Nat.le_of_eq hacc));have fpl:∀ b∈fp,b < acc:=fun b hb=>by
  obtain ⟨o,e,_⟩:=T.obj _ _ st2 b hb;rw [← hacc];exact Heap.lt_size e
 have xF:∀ b∈acc :: fp,nM X pins H2 b:=fun b hb=>(List.mem_cons.mp hb).elim (fun e=>e ▸ Qw) (f2 b);have exC:∀ b∈acc :: fp,b≠h3.objs.size:=fun b hb=>by
  rcases List.mem_cons.mp hb with e | hb
  ·rw [hC,e];exact Nat.ne_of_lt (Nat.lt_succ_self _)
  ·rw [hC];exact Nat.ne_of_lt (Nat.lt_succ_of_lt (fpl b hb))
 have t7:∀ b∈acc :: fp,b∉frs X.stack:=fun b hb hm=>by
  obtain ⟨_,g1,g2,_⟩:=xF b hb;exact (List.mem_cons.mp (I2.vI b hm)).elim g1 g2
 let Y:Cx:=Yx X scope cl (x :: cns) h3.objs.size { s2 with heap:=h3 } H2 (acc :: fp) (X.pn ++ pins)
 have cellsOf:∀ y c,cl.lookup y=some c→X.env.cells.lookup y=some c:=fun y c e=>hcl.get e;have vo:∀ y k,Y.env.kindOf y=some k→(k=.cell∨k=.free)→∃ c,cl.lookup y=some c:=fun y k e hk=>by
  have e0:(scope.names.lookup y).map (uh X.env y)=some k:=jL.symm.trans e;obtain ⟨k0,e1,e2⟩:=Option.map_eq_some_iff.mp e0;have e3:=lookup_all hfree e1;have e4:=lookup_all hcell e1
  by_cases hf:k0=.free
  ·subst hf;rw [Bool.or_eq_true] at e3;rcases e3 with e3 | e3
   ·exact absurd rfl (bne_iff_ne.mp e3)
   ·exact Option.isSome_iff_exists.mp e3
  ·exfalso
   have e5:uh X.env y k0=k0:=by
    unfold uh;rw [if_neg];intro z;rw [Bool.and_eq_true,Bool.and_eq_true] at z;exact hf (beq_iff_eq.mp z.1.1)
   rw [e5] at e2;subst e2;rcases hk with rfl | rfl
   ·simp at e4
   ·exact hf rfl
 have okY:Y.Ok:={
  mod:=I2.ok.mod
  kind:=hkind
  glob:=I2.ok.glob
  blt:=I2.ok.blt
  above:=Nat.le_refl _
  inj:=fun a b c e1 e2=>I2.ok.inj a b c (cellsOf _ _ e1) (cellsOf _ _ e2)
  has:=fun y hy=>hy.elim (fun e=>vo y _ e (.inl rfl)) (fun e=>vo y _ e (.inr rfl))
  cab:=fun y c e=>nomatch e
  hd:=I2.ok.hd
  frames:=I2.ok.frames
  stk:=.inl rfl
  exf:=fun b hb=>⟨exC b hb,fun y c e=>(xF b hb).2.2.2.2.1 y c (cellsOf _ _ e)⟩
  bs:=fun b o e=>⟨tK b o (I2.bs b o e).1,(I2.bs b o e).2⟩
  Zj:=by
   show X.base.objs.size≤h3.objs.size;rw [hC,← hacc];exact Nat.le_succ_of_le (Nat.le_trans I2.ok.Zj I2.sz)
  Mv:=fun b o e hb=>by
   rcases (xF b hb).2.2.2.1 with z | z
   ·exact I2.ok.Mv b o e z
   ·exact absurd (Nat.lt_of_lt_of_le (Heap.lt_size e) (Nat.le_trans I2.ok.Zj z)) (Nat.lt_irrefl _)
  Yw:=t7
  wL:=I3.stack
  frf:=I3.Fw }
 have Zli:(none :: caps.map (pick σ):L2.St).length=(x :: cns).length:=by rw [List.length_cons,List.length_cons,bu,hcap.len]
 have I4:Inv Y [] (none :: caps.map (pick σ)) H2 { s2 with heap:=h₁,toks:=s2.toks + ([]:List (Str×Value)).length }:={
  ok:=okY
  os:=rfl
  bare:=I2.bare
  base:=Un.kept Es
  loc:=by
   refine ⟨_,hns₁,fun i y v e1 e2 e3=>?_⟩;cases i with
   | zero=>simp at e2
   | succ i=>
    obtain ⟨j,j1,j2,j3⟩:=hcap.get (σ:=σ) (i:=i) (x:=y) (v:=v) (by have e1':(x :: cns)[i + 1]? =some y:=e1;simpa using e1') (by simpa using e2);obtain ⟨m,hn,hl⟩:=I2.loc;obtain ⟨u,r,l⟩:=hl j y v j1 j3 (.inr (.inl j2));rcases l with ⟨l,_⟩ | ⟨_,c,l1,l2⟩
    ·rw [j2] at l;cases l
    ·refine ⟨u,r,.inr ?_⟩;rcases e3 with e3 | e3 | e3
     ·exfalso
      have hm:y∈cns:=List.mem_of_getElem? (show cns[i]? =some y by have e1':(x :: cns)[i + 1]? =some y:=e1;simpa using e1');have hl:scope.names.lookup y=some .free:=beq_iff_eq.mp (List.all_eq_true.mp hcf y hm);have e0:(scope.names.lookup y).map (uh X.env y)=some .local:=jL.symm.trans e3;rw [hl] at e0;have e5:uh X.env y .free=.local:=Option.some.inj e0;unfold uh at e5;split at e5<;>cases e5
     ·obtain ⟨c',hc'⟩:=vo y _ e3 (.inl rfl);have:=cellsOf _ _ hc';rw [l1] at this;cases this;exact ⟨.inl e3,c,hc',l2.keeps fun b o e=>Es _ _ (tK _ _ e)⟩
     ·obtain ⟨c',hc'⟩:=vo y _ e3 (.inr rfl);have:=cellsOf _ _ hc';rw [l1] at this;cases this;exact ⟨.inr e3,c,hc',l2.keeps fun b o e=>Es _ _ (tK _ _ e)⟩
  cell:=fun y c e=>by
   obtain ⟨v,z⟩:=I2.cell y c (cellsOf _ _ e);exact ⟨v,z.keeps fun b o e=>Es _ _ (tK _ _ e)⟩
  free:=I2.hok.fresh (by rw [hacc];show acc≤h3.objs.size;rw [hC];exact Nat.le_succ _)
  pO:=fun y c e=>I2.pO y c (cellsOf _ _ e)
  pin:=fun p hp=>by
   have hp2:p∈(X.pn ++ pins) ++ []:=hp;have hp':p∈X.pn ++ pins:=by rw [List.append_nil] at hp2;exact hp2
   obtain ⟨p1,p2,p3,p4,p5⟩:=I2.pin p hp';refine ⟨Es _ _ (tK _ _ p1),p2,?_,fun hm=>(List.mem_cons.mp (I2.vI _ hm)).elim p3 p4,p5⟩;exact Nat.ne_of_lt (by show p.1 < h3.objs.size;exact Heap.lt_size (tK _ _ p1))
  hok:=I2.hok.kept fun b u e=>Es _ _ (tK _ _ e)
  len:=Zli }
 have fpY:∀ {H':Hp}{pl:List (Addr×Obj)}{b:Addr},b∈acc :: fp→H' b=none→(∀ p∈pl,p.1≠b)→nM Y pl H' b:=fun {H' pl b} hb hn hp=>
  ⟨hn,exC b hb,t7 b hb,.inl hb,fun y c e=>(xF b hb).2.2.2.2.1 y c (cellsOf _ _ e),fun p hm=>(List.mem_append.mp hm).elim (fun z=>(xF b hb).2.2.2.2.2 p z) (hp p)⟩
 have fin:∀ {σ':L2.St}{H':Hp}{s':Shared}{ys:List V}{its:List Value}{kk:Nat}{pl:List (Addr×Obj)},Inv Y pl σ' H' s'→H' acc=none→Vals ys its→ys.length≤sizeLine→
   s'.heap.get? acc=some { cls:=.type "list",data:=.seq its.toArray kk }→(∀ p,H' p=none→Q (.ref p) (upd H' p (.lst ys)))→
   ∀ h',Heap.SameBut h3.objs.size s'.heap h'→EP X pins σ Q (.ref acc) { s' with heap:=h' }:=fun {σ' H' s' ys its kk pl} J ha hv hz ho hq h' hs'=>by
  have Zig:acc≠h3.objs.size:=exC acc (List.mem_cons_self);have rD:∀ b o,b≠h3.objs.size→s'.heap.get? b=some o→h'.get? b=some o:=fun b o hb e=>hs'.extBut b o hb e;have ltC:∀ b o,s2.heap.get? b=some o→b≠h3.objs.size:=fun b o e=>Nat.ne_of_lt (Heap.lt_size (tK b o e));have yZ:H' h3.objs.size=none:=J.free;have un:Un (frs X.stack) (acc :: fp) H2 H' s2.heap h':={
   keep:=fun b o e n hb hx=>rD b o (ltC b o e) (J.base.keep b o (tK b o e) n hb hx)
   slot:=fun b o e n hb hx=>by
    obtain ⟨sl,q⟩:=J.base.slot b o (tK b o e) n hb hx;exact ⟨sl,rD b _ (ltC b o e) q⟩
   free:=fun b o e n hx=>J.base.free b o (tK b o e) n hx
   there:=fun b o e hx=>by
    obtain ⟨o',q⟩:=J.base.there b o (tK b o e) hx;exact ⟨o',rD b o' (ltC b o e) q⟩
   tups:=J.base.tups
   BL:=J.base.BL
   CQ:=J.base.CQ }
  have hok:zM X.prog X.w H' h':=fun b u e=>by
   refine (J.hok b u e).stay (fun c v hc q=>rD c v ?_ q) (fun _ q=>q) fun _ _ q=>q;rintro rfl;rcases hc with rfl | hc
   ·rw [yZ] at e;cases e
   ·rw [yZ] at hc;cases hc
  have I5:Inv X pins σ H' { s' with heap:=h' }:=I2.call' (ch:=acc :: fp) J.os un hok J.bare fun b hb=>by
   obtain ⟨g0,g1,g2,g3,g4,g5⟩:=xF b hb;exact ⟨g3,g1,g4,g5⟩
  refine ⟨.ref acc,_,adopt (acc:=acc) I5 ?_ (rD _ _ Zig ho) hv hz,rfl,hq acc ha⟩;obtain ⟨g0,g1,g2,g3,g4,g5⟩:=Qw;exact ⟨ha,g1,g2,g3,g4,g5⟩
 have loop:codeAny (model X.prog X.w) X.A (.compLoop (.ListComp elt [⟨.Name x px,iter,ifs,0⟩] scope pos) 0 (.ref it) (.ref acc) Y.env) (compPost (model X.prog X.w) X.A X.xe none (EP X pins σ Q) (.ref acc) h3.objs.size)
   { s2 with heap:=h₁,toks:=s2.toks + ([]:List (Str×Value)).length }:=by
  refine BW (fun n s'=>∃ (i:Nat) (v:Option V) (ys:List V) (its:List Value) (kk:Nat) (H':Hp),Inv Y [] (v :: caps.map (pick σ)) H' s'∧tn i s'.heap∧(∀ b∈fp,H' b=none)∧H' acc=none∧Vals ys its∧ys.length≤sizeLine∧
   s'.heap.get? acc=some { cls:=.type "list",data:=.seq its.toArray kk }∧W i n ys H') ?_ m0 ⟨0,none,[],[],0,H2,I4,T.keep _ _ _ st2 (fun b _ o e=>Es _ _ (tK _ _ e)),fun b hb=>(f2 b hb).1,Qw.1,.nil,Nat.zero_le _,Es _ _ Zkm,w0⟩
  rintro n s5 ⟨i,v,ys,its,kk,H5,I5,st5,fr5,ha5,hv5,hz5,ho5,w5⟩;have ZP:Inv Y [(acc,{ cls:=.type "list",data:=.seq its.toArray kk })] (v :: caps.map (pick σ)) H5 s5:=I5.nT fun p hp=>by
   have e:p=(acc,{ cls:=.type "list",data:=.seq its.toArray kk }):=by simpa using hp
   subst e;exact ⟨ho5,ha5,exC acc List.mem_cons_self,t7 acc List.mem_cons_self,fun v=>by intro z;cases z⟩
  have fpA:∀ {H':Hp},(∀ b∈fp,H' b=none)→∀ b∈fp,nM Y [(acc,{ cls:=.type "list",data:=.seq its.toArray kk })] H' b:=fun hn b hb=>fpY (List.mem_cons_of_mem _ hb) (hn b hb) fun p hp=>by
   have e:p=(acc,{ cls:=.type "list",data:=.seq its.toArray kk }):=by simpa using hp
   subst e;exact (Nat.ne_of_lt (fpl b hb)).symm
  rcases turn i n ys H5 w5 with ⟨stop,qn⟩ | ⟨go,hlt,step⟩
  ·refine gM (T.done Y rfl rfl rfl hc i _ s5 _ H5 (fun _ _=>False) ZP (fpA fr5) st5 stop) fun r s6 ⟨hr,I6⟩=>?_;subst hr;obtain ⟨m,hm,_⟩:=I6.loc;have ho6:=(I6.pin (acc,{ cls:=.type "list",data:=.seq its.toArray kk }) (List.mem_append_right _ List.mem_cons_self)).1;exact ⟨m,hm,fin I6 ha5 hv5 hz5 ho6 qn⟩
  ·refine gM (T.item Y rfl rfl rfl hc i _ s5 _ H5 (fun _ _=>False) ZP (fpA fr5) st5 go) fun r s6 ⟨u,hr,h6⟩=>?_;subst hr;refine gM h6 fun _ s7 ⟨z,H7,I7,r7,y7,st7,fr7⟩=>?_;have I7':=I7.pinned (fpA fr7) (T.obj _ _ st7);have pg:PG Y (.Name x px) (aN 0):=ji hnd rfl (.inl (lookup_relabel_local hx)) (.inr (lookup_relabel_local hx));refine gM (pg _ s7 _ H7 z u (fun σ2 H2'=>σ2=some z :: caps.map (pick σ)∧H2'=H7) I7' r7 ⟨rfl,rfl⟩) fun _ s8 ⟨σ8,H8,I8,e8,e8'⟩=>?_;subst e8 e8';refine gM (hf _ _ _ _ _ _ s8 _ H8 _ I8 (step z H8 y7)) fun ok s9 ⟨H9,I9,q9⟩=>?_;have stat:∀ {H':Hp}{s':Shared}{σ':L2.St},Inv Y ([(acc,{ cls:=.type "list",data:=.seq its.toArray kk })] ++ qw fp s7.heap) σ' H' s'→tn (i + 1) s'.heap∧(∀ b∈fp,H' b=none)∧H' acc=none∧s'.heap.get? acc=some { cls:=.type "list",data:=.seq its.toArray kk }:=fun {H' s' σ'} J=>by
    have pa:=J.pin (acc,{ cls:=.type "list",data:=.seq its.toArray kk }) (List.mem_append_right _ (List.mem_append_left _ List.mem_cons_self));refine ⟨T.keep _ _ _ st7 fun b hb o e=>(J.pin (b,o) (List.mem_append_right _ (List.mem_append_right _ (jJ hb e)))).1,fun b hb=>?_,pa.2.1,pa.1⟩;obtain ⟨o,e,d⟩:=T.obj _ _ st7 b hb;exact (J.pin (b,o) (List.mem_append_right _ (List.mem_append_right _ (jJ hb e)))).2.1
   have KZ:∀ {H':Hp}{s':Shared}{σ':L2.St}{pl:List (Addr×Obj)},Inv Y pl σ' H' s'→Inv Y [] σ' H' s':=fun J=>J.nT fun p hp=>nomatch hp;cases ok with
   | false=>
    obtain ⟨m',hm,w9⟩:=q9;obtain ⟨t1,t2,t3,t4⟩:=stat I9;exact ⟨m',hm,i + 1,some z,ys,its,kk,H9,KZ I9,t1,t2,t3,hv5,hz5,t4,w9⟩
   | true=>
    show wpAny _ _ (eval elt Y.env) _ _ s9;refine gM (he _ _ _ _ _ _ s9 _ H9 _ I9 q9) fun y s10 ⟨yv,H10,I10,r10,m',hm,w10⟩=>?_;obtain ⟨t1,t2,t3,t4⟩:=stat I10;have Zn3:Inv Y (qw fp s7.heap) (some z :: caps.map (pick σ)) H10 s10:=I10.nT fun p hp=>I10.pin p (List.mem_append_right _ (List.mem_append_right _ hp));have fA:nM Y (qw fp s7.heap) H10 acc:=fpY List.mem_cons_self t3 fun p hp=>Nat.ne_of_lt (fpl _ (Cw hp).1);have Ja:=adopt Zn3 fA t4 hv5 hz5;refine gM (m5 (X:=Y) _ s10 _ _ (.ref acc) [yv] (.ref acc) [y] (fun _ H'=>H'=upd (upd H10 acc (.lst ys)) acc (.lst (ys ++ [yv]))) Ja rfl (.cons r10 .nil) ⟨acc,ys,yv,rfl,rfl,aq,hlt,rfl⟩) fun _ s11 ⟨_,H11,I11,_,e11⟩=>?_;rw [dY] at e11;subst e11;obtain ⟨Zm0,its',kk',Zm1,Zm2⟩:=I11.hok acc _ aq;have Jd:=disown I11 fA;have Zjg:tn (i + 1) s11.heap:=T.keep _ _ _ st7 fun b hb o e=>(Jd.pin (b,o) (List.mem_append_right _ (jJ hb e))).1;exact ⟨m',hm,i + 1,some z,ys ++ [yv],its',kk',H10,KZ Jd,Zjg,t2,t3,Zm1,Zm0,Zm2,w10⟩
 exact codeAny_compStart_list loop (T.self X.A 0 _ _ _ (T.keep _ _ _ st2 (fun b _ o e=>Es _ _ (tK _ _ e))) loop)
end G
namespace G
open PySem L2 PySem.Spec PyProof.Rows
theorem JB {P:Program}{w:World}{H:Hp}{h:Heap}{a:Addr}{o:HO} (x:jO P w H h a o):∃ ob,h.get? a=some ob:=by
 induction o with
 | lst xs=>obtain ⟨_,_,_,_,e⟩:=x;exact ⟨_,e⟩
 | tup xs=>obtain ⟨_,_,_,ob,e,_⟩:=x;exact ⟨ob,e⟩
 | dK kvs=>obtain ⟨_,_,_,_,ob,_,_,e,_⟩:=x;exact ⟨ob,e⟩
 | dT kvs=>obtain ⟨_,_,_,_,ob,_,_,e,_⟩:=x;exact ⟨ob,e⟩
 | set S n=>obtain ⟨ob,_,_,_,e,_⟩:=x;exact ⟨ob,e⟩
 | ins C dx fs=>obtain ⟨_,_,_,e,_⟩:=x;exact ⟨_,e⟩
 | own y=>exact x
 | xd fs=>obtain ⟨_,⟨ob,_,_,e,_⟩,_⟩:=x;exact ⟨ob,e⟩
 | rng lo hi=>obtain ⟨_,_,_,e⟩:=x;exact ⟨_,e⟩
 | xO ob u ih=>exact ⟨_,x.1⟩
 | NT ps=>exact ⟨_,x⟩
 | met f y=>exact ⟨_,x⟩
 | ext φ=>obtain ⟨_,e,_⟩:=x;exact e
theorem Vr {P:Program}{w:World}{fs:List Addr}{H0 H1:Hp}{h0 h1 h2:Heap} (u:Un fs [] H0 H1 h0 h1) (ok:zM P w H1 h1) (fr:∀ b∈fs,H1 b=none)
  (kp:∀ b o,h1.get? b=some o→((∃ v,h0.get? b=some v)∨∃ v,H1 b=some v)→b∉fs→h2.get? b=some o) (sl:∀ b o,h1.get? b=some o→b∈fs→∃ z,h2.get? b=some { o with slots:=z }):
  Un fs [] H0 H1 h0 h2∧zM P w H1 h2:=by
 refine ⟨⟨fun b o e n hb hx=>kp b o (u.keep b o e n hb hx) (.inl ⟨o,e⟩) hb,fun b o e n hb hx=>?_,u.free,fun b o e hx=>?_,u.tups,u.BL,u.CQ⟩,fun a o e=>?_⟩
 ·obtain ⟨z,e1⟩:=u.slot b o e n hb hx;obtain ⟨z2,e2⟩:=sl b _ e1 hb;exact ⟨z2,e2⟩
 ·obtain ⟨o',e1⟩:=u.there b o e hx
  by_cases hb:b∈fs
  ·obtain ⟨z,e2⟩:=sl b _ e1 hb;exact ⟨_,e2⟩
  ·exact ⟨o',kp b o' e1 (.inl ⟨o,e⟩) hb⟩
 ·refine (ok a o e).stay (fun b v hb q=>?_) (fun _ q=>q) fun _ _ q=>q;have hs:∃ v,H1 b=some v:=by
   rcases hb with z | z
   ·exact ⟨o,by rw [z];exact e⟩
   ·exact ⟨_,z⟩
  refine kp b v q (.inr hs) fun z=>?_;obtain ⟨v',e'⟩:=hs;rw [fr b z] at e';cases e'
def QT (P:Program) (w:World):Zn:=fun outer H s E e s'=>
 ∃ (ea:Addr) (cls a0:Value) (B:Heap) (H':Hp),e=.ref ea∧s'.os=s.os∧AllBare s'.gens∧Un (frs outer) [] H H' s.heap s'.heap∧zM P w H' s'.heap∧Heap.FlyingW B outer ea cls a0 s'.heap∧
  (∀ b o,s'.heap.get? b=some o→((∃ v,s.heap.get? b=some v)∨∃ v,H' b=some v)→b∉frs outer→B.get? b=some o)∧E cls none H'
theorem fV {P:Program}{w:World}{X:Cx}:Passes (QT P w) X E0:=fun _ _ _ _ _ _ _ h=>by
 obtain ⟨_,_,_,_,_,_,_,_,_,_,_,_,z⟩:=h;exact z.elim
section
variable {P:Program}{w:World}{K:aC}{mg:Str→Option Value}{base:Heap}{N:List Str}{qual:Str}{scope:Scope}{f:Addr}{cd:Value}{A:Around}{outer:List Env}{s:Shared}{H:Hp}{E:XK}
theorem Gg:Passes (QT P w) (Kh (QT P w) P w K mg base N qual scope f cd A outer s H E) E:=by
 intro pins σ H1 s1 e s2 I h;obtain ⟨ea,cls,a0,B,H2,rfl,os,bare,un,ok,fl,hB,hE⟩:=h;have J:Inv (Kh (QT P w) P w K mg base N qual scope f cd A outer s H E) pins σ H2 s2:=I.call' os un ok bare (fun b z=>nomatch z);have L0:∀ b o,s.heap.get? b=some o→b≠(envOfC qual scope s.heap.objs.size f cd).locals:=fun b o e=>Nat.ne_of_lt (Nat.lt_of_lt_of_le (Heap.lt_size e) I.ok.above);have nin:∀ b,((∃ v,s.heap.get? b=some v)∨∃ v,H2 b=some v)→b∉frs outer→b∉frs (envOfC qual scope s.heap.objs.size f cd :: outer):=fun b hb hn hm=>by
  rcases List.mem_cons.mp (J.vI b hm) with z | z
  ·rcases hb with ⟨v,e⟩ | ⟨v,e⟩
   ·exact L0 b v e z
   ·rw [z] at e;have:=J.free;rw [e] at this;cases this
  ·exact hn z
 have was:∀ b,((∃ v,s.heap.get? b=some v)∨∃ v,H2 b=some v)→(∃ v,s1.heap.get? b=some v)∨∃ v,H2 b=some v:=fun b hb=>by
  rcases hb with ⟨v,e⟩ | hb
  ·exact .inl (I.base.there b v e (fun z=>nomatch z))
  ·exact .inr hb
 refine wpAny_leaves_onW I.ok.frames rfl fl fun h' fl' sm=>?_;have dat:∀ b o,s2.heap.get? b=some o→b∈frs outer→∀ vs,o.data≠.fields vs:=fun b o e hb=>by
  obtain ⟨_,o',ho',hd⟩:=J.wL.mem hb;rw [e] at ho';cases ho';exact hd
 have inB:∀ b o,s2.heap.get? b=some o→((∃ v,s.heap.get? b=some v)∨∃ v,H2 b=some v)→b∉frs outer→B.get? b=some o:=fun b o e hb hn=>hB b o e (was b hb) (nin b hb hn);have U:=Vr (P:=P) (w:=w) (h2:=h') J.base J.hok (fun b hb=>by
   obtain ⟨_,o,ho,_⟩:=J.ok.wL.mem hb;exact J.base.free b o ho (J.ok.frf b hb) (fun z=>nomatch z)) (fun b o e hb hn=>fl'.1 _ _ (inB b o e hb hn)) fun b o e hb=>sm b o e (dat b o e hb)
 refine ⟨ea,cls,a0,B,H2,rfl,J.os,J.bare,U.1,U.2,fl',fun b o e hb hn=>?_,hE⟩;have there:∃ v,s2.heap.get? b=some v:=by
  rcases hb with ⟨v,z⟩ | ⟨v,z⟩
  ·exact J.base.there b v z (fun z=>nomatch z)
  ·exact JB (J.hok b v z)
 obtain ⟨v,z⟩:=there;have q:=inB b v z hb hn;have:=fl'.1 _ _ q;rw [e] at this;cases this;exact q
theorem Wu {pins:List (Addr×Obj)}{σ:L2.St}{H1:Hp}{s1:Shared}{C e:Addr}{vs:List Value}{h1:Heap} (I:Inv (Kh (QT P w) P w K mg base N qual scope f cd A outer s H E) pins σ H1 s1)
  (hx:Heap.MadeExcOf s1.heap h1 e (.ref C) vs) (hE:E (.ref C) none H1):(Kh (QT P w) P w K mg base N qual scope f cd A outer s H E).xe (.ref e) { s1 with heap:=h1 }:=by
 have L0:∀ b o,s.heap.get? b=some o→b≠(envOfC qual scope s.heap.objs.size f cd).locals:=fun b o e=>Nat.ne_of_lt (Nat.lt_of_lt_of_le (Heap.lt_size e) I.ok.above);have nin:∀ b,((∃ v,s.heap.get? b=some v)∨∃ v,H1 b=some v)→b∉frs outer→b∉frs (envOfC qual scope s.heap.objs.size f cd :: outer):=fun b hb hn hm=>by
  rcases List.mem_cons.mp (I.vI b hm) with z | z
  ·rcases hb with ⟨v,e⟩ | ⟨v,e⟩
   ·exact L0 b v e z
   ·rw [z] at e;have:=I.free;rw [e] at this;cases this
  ·exact hn z
 have fh:s1.heap.FunFrames (PySem.W.hideAll s1.heap (frs (envOfC qual scope s.heap.objs.size f cd :: outer))) (envOfC qual scope s.heap.objs.size f cd :: outer):=
  PySem.W.funFrames_hide I.stack fun env he b hb=>List.mem_filterMap.mpr ⟨env,he,hb⟩
 refine wpAny_leaves_madeW (s:={ s1 with heap:=h1 }) I.ok.frames rfl (fun b o q=>PySem.W.of_hideAll _ q) fh hx fun h' t fl _ _ sm=>?_;have inB:∀ b o,s1.heap.get? b=some o→((∃ v,s.heap.get? b=some v)∨∃ v,H1 b=some v)→b∉frs outer→(PySem.W.hideAll s1.heap (frs (envOfC qual scope s.heap.objs.size f cd :: outer))).get? b=some o:=
  fun b o e hb hn=>PySem.W.hideAll_get _ e (nin b hb hn)
 have dat:∀ b o,s1.heap.get? b=some o→b∈frs outer→∀ vs,o.data≠.fields vs:=fun b o e hb=>by
  obtain ⟨_,o',ho',hd⟩:=I.wL.mem hb;rw [e] at ho';cases ho';exact hd
 have U:=Vr (P:=P) (w:=w) (h2:=h') I.base I.hok (fun b hb=>by
   obtain ⟨_,o,ho,_⟩:=I.ok.wL.mem hb;exact I.base.free b o ho (I.ok.frf b hb) (fun z=>nomatch z)) (fun b o e hb hn=>fl.1 _ _ (inB b o e hb hn)) fun b o e hb=>sm b o (hx.keeps b o e) (dat b o e hb)
 refine ⟨e,.ref C,.ref t,_,H1,rfl,I.os,I.bare,U.1,U.2,fl,fun b o q hb hn=>?_,hE⟩;have there:∃ v,s1.heap.get? b=some v:=by
  rcases hb with ⟨v,z⟩ | ⟨v,z⟩
  ·exact I.base.there b v z (fun z=>nomatch z)
  ·exact JB (I.hok b v z)
 obtain ⟨v,z⟩:=there;have q2:=inB b v z hb hn;have:=fl.1 _ _ q2;rw [q] at this;cases this;exact q2
end
abbrev Zn4 (K:aC) (C:Addr):Prop:=PySem.W.excIn K C [.type "ValueError",.type "Exception",.type "BaseException",.type "object"] "ValueError.__new__"=true
theorem Zq6 {K:aC}{h:Heap}{C:Addr}{ms:List Value}{ni:String} (X:K.In h) (q:PySem.W.excIn K C ms ni=true):
  ∃ tl N nm ql bs hd sn sub ab col dd j0 j1 j2 j3 j5 mN,h.get? C=some (excClassObj nm ql C N bs tl hd sn sub ab col dd j0 j1 j2 j3 j5 ni)∧h.Ns N mN∧mN "__init__"=none∧OwnTail h ms tl:=by
 unfold PySem.W.excIn at q;split at q
 ·rename_i dd ZDq slots hob
  split at q
  ·rename_i C2 tl j0 j1 j2 j3 n2 j5 em es
   simp only [Bool.and_eq_true,beq_iff_eq,Bool.not_eq_true'] at q;obtain ⟨⟨⟨⟨⟨e1,e2⟩,e3⟩,e4⟩,e5⟩,e6⟩:=q;subst e1 e2;obtain ⟨c1,c2,c3,c4,c5,c6,c7,c8,c9,c10,c11⟩:=ZDq;dsimp only at em e3 e5 e6;subst em e3;have Ztd:slots=#[j0,j1,j2,j3,some (.builtin n2),j5]:=by
    obtain ⟨ls⟩:=slots;simp only at es;rw [es]
   subst Ztd;refine ⟨tl,c4,c1,c5,c2,c6,c7,c8,c9,c10,dd,j0,j1,j2,j3,j5,h.nsMap c4,X _ _ hob,?_,PySem.W.nsMap_none_of_in X e5 e6,PySem.W.tail_of_in X e4⟩;exact .of_isNs (PySem.W.isNs_of_in X e5)
  ·cases q
 ·cases q
section
variable {X:Cx}{x:Str}{C:Addr}{np cpos pos:Pos}{e:Expr}{es:List Expr}{ta:TA}{E:XK}
theorem Ge (hc:X.calm=true) (hg:Gl X x) (hm:X.mg x=some (.ref C)) (hx:Zn4 X.K C) (ha:PA X (e :: es) ta)
  (hE:∀ (pins:List (Addr×Obj)) (σ:L2.St) (H:Hp) (s:Shared) (ea:Addr) (vs:List Value) (h1:Heap),Inv X pins σ H s→Heap.MadeExcOf s.heap h1 ea (.ref C) vs→E (.ref C) none H→X.xe (.ref ea) { s with heap:=h1 })
  (hs:starEach (e :: es) X.env=(false,eval e X.env) :: starEach es X.env:=by rfl) (hpl:(backTo cpos (starEach es X.env)).any (·.1)=false:=by rfl) (hd:(x == ("__debug__":Str))=false:=by decide):
  PS X (.Raise (some (.Call (.Name x np) (e :: es) [] cpos)) none pos) (HY C E ta):=by
 intro pins s σ H D I h;obtain ⟨tl,N,nm,ql,bs,hdd,sn,sub,ab,col,dd,j0,j1,j2,j3,j5,mN,hC,hN,hni,T⟩:=Zq6 I.ok.mod.kin hx;refine wpAny_Raise_call_subT (C:=C) (nm:=nm) (q:=ql) (N:=N) (bs:=bs) (bm:=tl) (hdct:=hdd) (sn:=sn) (sub:=sub) (ab:=ab) (col:=col) (dd:=dd) (k0:=j0) (k1:=j1) (k2:=j2) (k3:=j3) (k5:=j5) PySem.F.excBase_ValueError (mN:=mN)
  (T.hasType PySem.F.excBase_ValueError.hasBase) (I.ok.hd hc) ?_ hni (tH I hg hm ⟨rfl,?_⟩ hd)
 ·rw [hs];show (false || (backTo cpos (starEach es X.env)).any (·.1))=false;rw [hpl];rfl
 ·have q:=ha cpos pins s σ H _ I h;rw [hs] at q ⊢;refine Calls.evalArgs_plain (gM q fun us s1 ⟨vs,H1,I1,r,l1,hE1⟩=>⟨rfl,?_,I1.bk _ _ hC,hN.keeps I1.bk,T.keeps I1.bk,fun h1 ea hmade=>hE pins σ H1 s1 ea _ h1 I1 hmade hE1⟩);rw [← r.length];exact Nat.le_trans l1 (by decide)
end
end G
namespace G
open PySem L2 PySem.Spec PyProof.Rows
def Zgl (CX:Zn) (X:Cx) (E:L2.St→XK):Prop:=∀ (pins:List (Addr×Obj)) (σ:L2.St) (H:Hp) (s:Shared) (e:Value) (s':Shared),Inv X pins σ H s→CX X.stack H s (E σ) e s'→X.xe e s'
section
variable {X:Cx}{CX:Zn}{k:Nat}{f C:Addr}{fd:FuncData}{ps:List Str}{sp:Sp}{uM:List V}{ds:List Value}{E:L2.St→XK}{x m:Str}{p pos apos:Pos}{e o:Expr}{es:List Expr}{ta:TE}{t:TA}
theorem Znr {pins:List (Addr×Obj)}{σ:L2.St}{H:Hp}{s:Shared}{Q:VK}{us:List Value}{vs:List V} (F:uK X.prog X.w X.K X.mg X.base CX k f fd ps sp) (hr:Room k X.A) (hb:Binds X.K fd ps ds) (hd:Vals uM ds) (hx:Zgl CX X E)
  (I:Inv X pins σ H s) (r:Vals vs us) (h:sp (vs ++ uM) H Q (E σ)):wpAny (model X.prog X.w) X.A (call (.ref f) us) (EP X pins σ Q) X.xe s:=by
 have r2:Vals (vs ++ uM) (us ++ ds):=r.append hd;have hl:(us ++ ds).length=ps.length:=by rw [← r2.length];exact F.len _ _ _ _ h
 refine wpAny_call (codeAny_mono (F.run X.A X.stack s H ⟨us,[]⟩ (us ++ ds) (vs ++ uM) Q (E σ) hr I.env0 (hb s us I.By hl) r2 h) fun r s' hq=>?_);cases r with
 | error e=>exact hx pins σ H s e s' I hq
 | ok fl=>
  cases fl with
  | ret u=>exact I.after hq
  | next=>exact False.elim hq
  | brk=>exact False.elim hq
  | cont=>exact False.elim hq
theorem Zke (F:uK X.prog X.w X.K X.mg X.base CX k f fd ps sp) (hr:Room k X.A) (hg:Gl X x) (hm:X.mg x=some (.ref f)) (hk:PySem.W.keepIn X.K (.ref f)=true) (hb:Binds X.K fd ps ds) (hd:Vals uM ds) (hx:Zgl CX X E)
  (ha:PA X (e :: es) t) (hdb:(x == ("__debug__":Str))=false:=by decide) (he:starEach (e :: es) X.env=(false,eval e X.env) :: starEach es X.env:=by rfl) (hpl:(backTo pos (starEach es X.env)).any (·.1)=false:=by rfl):
  PE X (.Call (.Name x p) (e :: es) [] pos) (Zc6 sp uM E t):=by
 intro pins s σ H Q I h;refine wpAny_Call_Name_kw (tH I hg hm ?_ hdb);refine PySem.W.callWith_K (h₀:=X.base) I.ok.mod.kin hk (gM (ha pos pins s σ H _ I h) fun us s1 ⟨vs,H1,I1,r,q⟩=>⟨I1.By,?_⟩) he hpl;exact Znr F hr hb hd hx I1 r q
end
abbrev cxB (X:Cx) (pn:List (Addr×Obj)) (xe:Value→Shared→Prop):Cx:={ X with pn:=pn,xe:=xe }
abbrev cxH (X:Cx) (ea:Value) (pn:List (Addr×Obj)):Cx:={ X with A:=X.A.mark (some ea),calm:=false,pn:=pn,xe:=fun _ _=>False }
section
variable {X:Cx}{pins:List (Addr×Obj)}{σ:L2.St}{H:Hp}{s:Shared}
theorem Zrx (ok:X.Ok) (pn:List (Addr×Obj)) (xe:Value→Shared→Prop):(cxB X pn xe).Ok:=
 ⟨ok.mod,ok.kind,ok.glob,ok.blt,ok.above,ok.inj,ok.has,ok.cab,ok.hd,ok.frames,ok.stk,ok.exf,ok.bs,ok.Zj,ok.Mv,ok.Yw,ok.wL,ok.frf⟩
theorem Zrw (ok:X.Ok) (ea:Value) (pn:List (Addr×Obj)):(cxH X ea pn).Ok:=
 ⟨ok.mod,ok.kind,ok.glob,ok.blt,ok.above,ok.inj,ok.has,ok.cab,fun z=>(nomatch z),ok.frames,ok.stk,ok.exf,ok.bs,ok.Zj,ok.Mv,ok.Yw,ok.wL,ok.frf⟩
theorem Zra (I:Inv X pins σ H s) (xe:Value→Shared→Prop):Inv (cxB X (X.pn ++ pins) xe) [] σ H s:=
 ⟨Zrx I.ok _ _,I.os,I.bare,I.base,I.loc,I.cell,I.free,I.pO,fun p hp=>I.pin p (by simpa using hp),I.hok,I.len⟩
theorem Pg {xe:Value→Shared→Prop}{pl:List (Addr×Obj)} (ok:X.Ok) (I:Inv (cxB X (X.pn ++ pins) xe) pl σ H s):Inv X pins σ H s:=
 ⟨ok,I.os,I.bare,I.base,I.loc,I.cell,I.free,I.pO,fun p hp=>I.pin p (List.mem_append_left _ hp),I.hok,I.len⟩
theorem Zj6 (I:Inv X pins σ H s) (ea:Value):Inv (cxH X ea (X.pn ++ pins)) [] σ H s:=
 ⟨Zrw I.ok _ _,I.os,I.bare,I.base,I.loc,I.cell,I.free,I.pO,fun p hp=>I.pin p (by simpa using hp),I.hok,I.len⟩
theorem Xe {ea:Value}{pl:List (Addr×Obj)} (ok:X.Ok) (I:Inv (cxH X ea (X.pn ++ pins)) pl σ H s):Inv X pins σ H s:=
 ⟨ok,I.os,I.bare,I.base,I.loc,I.cell,I.free,I.pO,fun p hp=>I.pin p (List.mem_append_left _ hp),I.hok,I.len⟩
theorem Zrg {xe:Value→Shared→Prop}{D:Ends}{f:Flow} (ok:X.Ok) (h:SP (cxB X (X.pn ++ pins) xe) [] D f s):SP X pins D f s:=by
 cases f with
 | next=>obtain ⟨σ',H',I,q⟩:=h;exact ⟨σ',H',Pg ok I,q⟩
 | brk=>obtain ⟨σ',H',I,q⟩:=h;exact ⟨σ',H',Pg ok I,q⟩
 | cont=>obtain ⟨σ',H',I,q⟩:=h;exact ⟨σ',H',Pg ok I,q⟩
 | ret u=>obtain ⟨v,σ',H',I,r,q⟩:=h;exact ⟨v,σ',H',Pg ok I,r,q⟩
theorem Zrf {ea:Value}{D:Ends}{f:Flow} (ok:X.Ok) (h:SP (cxH X ea (X.pn ++ pins)) [] D f s):SP X pins D f s:=by
 cases f with
 | next=>obtain ⟨σ',H',I,q⟩:=h;exact ⟨σ',H',Xe ok I,q⟩
 | brk=>obtain ⟨σ',H',I,q⟩:=h;exact ⟨σ',H',Xe ok I,q⟩
 | cont=>obtain ⟨σ',H',I,q⟩:=h;exact ⟨σ',H',Xe ok I,q⟩
 | ret u=>obtain ⟨v,σ',H',I,r,q⟩:=h;exact ⟨v,σ',H',Xe ok I,r,q⟩
theorem flown {ea:Addr}{cls a0:Value}{B:Heap}{H2:Hp}{s2:Shared}{h3:Heap} (I:Inv X pins σ H s) (os:s2.os=s.os) (bare:AllBare s2.gens) (un:Un (frs X.stack) [] H H2 s.heap s2.heap) (ok:zM X.prog X.w H2 s2.heap)
  (fl:Heap.FlyingW B X.stack ea cls a0 s2.heap) (hB:∀ b o,s2.heap.get? b=some o→((∃ v,s.heap.get? b=some v)∨∃ v,H2 b=some v)→b∉frs X.stack→B.get? b=some o)
  (st:B.StaysIn h3) (sm:s2.heap.UpToSlots h3):Inv X pins σ H2 { s2 with heap:=h3 }:=by
 have fr:∀ b∈frs X.stack,H2 b=none:=fun b hb=>by
  obtain ⟨_,o,ho,_⟩:=I.stack.mem hb;exact un.free b o ho (I.Fw b hb) (fun z=>nomatch z)
 have U:=Vr (P:=X.prog) (w:=X.w) (h2:=h3) un ok fr (fun b o e hb hn=>st _ _ (hB b o e hb hn)) fun b o e hb=>by
  obtain ⟨_,o',ho',hd⟩:=fl.2.2.1.mem hb;rw [e] at ho';cases ho';exact sm b o e hd
 exact I.call' (s':={ s2 with heap:=h3 }) (ch:=[]) os U.1 U.2 bare (fun b z=>nomatch z)
end
section
variable {X:Cx}{x:Str}{C:Addr}{np pos hpos:Pos}{body suite:List Stmt}{b₀:Stmt}{Mt:Value→Prop}{tb:(L2.St→XK)→TS}{th:TS}
theorem Zrp (hst:X.stack=X.env :: X.outer∧X.env.frame=some X.env.locals) (hg:Gl X x) (hm:X.mg x=some (.ref C)) (hMt:∀ c,Mt c→PySem.W.exmOne X.K c (.ref C)=some true)
  (hb:∀ (E:L2.St→XK) (pn:List (Addr×Obj)) (xe:Value→Shared→Prop),Zgl (QT X.prog X.w) (cxB X pn xe) E→Zk (cxB X pn xe) body (tb E))
  (hs:∀ (ea:Value) (pn:List (Addr×Obj)),Zk (cxH X ea pn) (b₀ :: suite) th) (hd:(x == ("__debug__":Str))=false:=by decide):
  PS X (.Try body [.ExceptHandler (some (.Name x np)) none (b₀ :: suite) hpos] [] [] pos) (Zrb Mt tb th):=by
 intro pins s σ H D I h;refine wpAny_Try_except ?_;have hx:Zgl (QT X.prog X.w) (cxB X (X.pn ++ pins) fun e s'=>∃ σ H s,Inv X pins σ H s∧QT X.prog X.w X.stack H s (fun cls _ H'=>Mt cls∧th D σ H') e s') (fun σ' cls _ H'=>Mt cls∧th D σ' H'):=
  fun pl σ H s e s' J z=>⟨σ,H,s,Pg I.ok J,z⟩
 refine wpAny_mono (hb _ _ _ hx [] s σ H D (Zra I _) h) (fun f s1 q=>?_) fun e s1 q=>?_
 ·have q:=Zrg I.ok q;cases f with
  | next=>exact wpAny_execs_nil q
  | ret v=>exact q
  | brk=>exact q
  | cont=>exact q
 ·obtain ⟨σ1,H1,s0,J,ea,cls,a0,B,H2,rfl,os,bare,un,ok,fl,hB,hM,hth⟩:=q;have fl0:=fl;rw [hst.1] at fl0;refine wpAny_looks_onW (hst.1 ▸ J.ok.frames) hst.2 fl0 fun h4 Zv9 sm4=>?_;refine wpAny_landsW Zv9 fun h5 fl5 sm5=>?_;have Zu5:s1.heap.UpToSlots h5:=sm4.trans sm5;have J5:=flown J os bare un ok fl hB fl5.1 Zu5;refine wpAny_handleBy_cons (codeAny_handlers_test (tH (X:=cxH X (.ref ea) (X.pn ++ pins)) (Zj6 J5 (.ref ea)) hg hm ?_ hd)) (by intro z;cases z);obtain ⟨ob,hob,hoc⟩:=fl5.there;have LT:PySem.W.Looks (model X.prog X.w) h5 (typeOf (.ref ea)) cls:=hoc ▸ (PySem.W.Looks.ld hob).andThen .now;refine (PySem.W.exm_one J5.By LT (hMt cls hM)).here ?_;refine codeAny_handlers_suite ?_;refine lands_againW fl5 fun h6 fl6 sm6=>?_;have J6:=flown J os bare un ok fl hB fl6.1 (Zu5.trans sm6);refine wpAny_mono (hs (.ref ea) (X.pn ++ pins) [] _ σ1 H2 D (Zj6 J6 (.ref ea)) hth) (fun f s2 q=>Zrf I.ok q) fun _ _ z=>z.elim
end
end G
namespace G
open PySem L2 PySem.Spec PyProof.Rows
section
variable {P:Program}{w:World}{K:aC}{mg:Str→Option Value}{base:Heap}{x qual:Str}{st:Stmt}{f:Addr}{fd:FuncData}{N ps:List Str}{k:Nat}{sp:Sp}
theorem fok (F:jF K x qual st f fd) (S:aP N ps (aF st)) (len:∀ vs H Q E,sp vs H Q E→vs.length=ps.length)
  (hbody:∀ (cdv:Value) (A:Around) (outer:List Env) (s:Shared) (H:Hp) (vs:List V) (Q:VK) (E:XK),Room k (A.deeper (envOfC qual (aF st) s.heap.objs.size f cdv))→sp vs H Q E→
   ∃ t,Zk (Kh (QT P w) P w K mg base N qual (aF st) f cdv A outer s H E).nox (jR st) t∧t { nx:=fun _ H'=>Q .non H',rt:=Q } (start N vs) H):uK P w K mg base (QT P w) (k + 1) f fd ps sp:=by
 obtain ⟨oc,od,kV,doc,pm,an,cdv,ct,osl,rfl,lk,hcd⟩:=F.ex;refine Zmi lk hcd S len fun A outer s H vs Q E hr hsp=>?_;obtain ⟨t,h,q⟩:=hbody cdv A outer s H vs Q E hr hsp;exact ⟨t,h.nox,q⟩
theorem ZDp (F:jF K x qual st f fd) (S:aP N ps (aF st)) (len:∀ vs H Q E,sp vs H Q E→vs.length=ps.length)
  (hbody:∀ (cdv:Value) (A:Around) (outer:List Env) (s:Shared) (H:Hp) (vs:List V) (Q:VK) (E:XK),Room k (A.deeper (envOfC qual (aF st) s.heap.objs.size f cdv))→sp vs H Q E→
   ∃ t,Zk (Kh (QT P w) P w K mg base N qual (aF st) f cdv A outer s H E) (jR st) t∧t { nx:=fun _ H'=>Q .non H',rt:=Q } (start N vs) H):uK P w K mg base (QT P w) (k + 1) f fd ps sp:=by
 obtain ⟨oc,od,kV,doc,pm,an,cdv,ct,osl,rfl,lk,hcd⟩:=F.ex;exact Zmi lk hcd S len fun A outer s H vs Q E hr hsp=>hbody cdv A outer s H vs Q E hr hsp
theorem Zvb (F:Ztz K x qual st f fd) (S:aP N ps (aF st)) (len:∀ vs H Q E,sp vs H Q E→vs.length=ps.length)
  (hbody:∀ (cdv:Value) (A:Around) (outer:List Env) (s:Shared) (H:Hp) (vs:List V) (Q:VK) (E:XK),Room k (A.deeper (envOfC qual (aF st) s.heap.objs.size f cdv))→sp vs H Q E→
   ∃ t,Zk (Kh (QT P w) P w K mg base N qual (aF st) f cdv A outer s H E) (jR st) t∧t { nx:=fun _ H'=>Q .non H',rt:=Q } (start N vs) H):uK P w K mg base (QT P w) (k + 1) f fd ps sp:=by
 obtain ⟨oc,od,dV,kV,doc,pm,an,cdv,ct,osl,rfl,lk,hcd⟩:=F.ex;exact Zmi lk hcd S len fun A outer s H vs Q E hr hsp=>hbody cdv A outer s H vs Q E hr hsp
end
end G
namespace G
open PySem L2 PySem.Spec PyProof.Rows
structure ZE7 (K:aC) (C:Addr):Prop where
 ga:PySem.W.findIn K (.ref C) "__getattribute__"=some (some (.builtin "BaseException.__getattribute__"))
 no:PySem.W.findIn K (.ref C) "__getattr__"=some none
 cl:PySem.W.findIn K (.ref C) "__class__"=some (some (.builtin "object.__class__"))
 so:PySem.W.mroIn K C (.type "object")=some true
 sb:PySem.W.mroIn K C (.type "BaseException")=some true
 is:PySem.W.hasDictIn K C=true
section
variable {prog:Program}{w:World}{A:Around}{E:Value→Shared→Prop}{h:Heap}{g:Array GenState}{d:Drawn}{t:Nat}{os:OsState}{a:Addr}{o:Obj}{C:Addr}{K:aC}
end
section
variable {X:Cx}
theorem zj:HX X (.type "list") (Kl X.K):=by
 intro pins s σ H xs us Q I r h;obtain ⟨p,ys,rfl,hs,q⟩:=h;exact Hz pins s σ H [.ref p] us Q I r ⟨p,ys,rfl,.inl hs,q⟩
end
end G
namespace G
open PySem L2 PySem.Spec PyProof.Rows
theorem Zko:fastBuiltinMro "NoneType"=some [.type "NoneType",.type "object"]:=by decide +kernel
section
variable {K:aC}{A:Around}{a C:Addr}{o:Obj}
theorem Zte {M:Model}{E:Value→Shared→Prop}{s:Shared}{Q:Unit→Shared→Prop} (LI:PySem.W.Looks M s.heap (isInstance (.ref a) (.type "object")) true) (hq:Q () s):wpAny M A (checkBuiltinCall "object.__eq__" ⟨[.ref a,.none],[]⟩) Q E s:=by
 have ha:=PySem.F.cmpArgs_eq (.ref a) .none;simp only [checkBuiltinCall,PySem.F.cmpKind_eq,PySem.F.cmpSplit_eq];refine wpAny_bind (LI.here ?_);simp only [Bool.not_true,Bool.false_eq_true,if_false];cases hsig:Manifest.signature? "object.__eq__" with
 | none=>exact wpAny_pure hq
 | some sig=>
  simp only [argsOk,hsig] at ha;have h2:Bind.checkArgs "object.__eq__" sig ⟨[.ref a,.none],[]⟩=pure ():=ha;show wpAny M A (Bind.checkArgs "object.__eq__" sig ⟨[.ref a,.none],[]⟩) Q E _;rw [h2];exact wpAny_pure hq
theorem Zq8 {prog:Program}{w:World}{E:Value→Shared→Prop}{s:Shared}{Q:Value→Shared→Prop} (LI:PySem.W.Looks (model prog w) s.heap (isInstance (.ref a) (.type "object")) true) (hq:Q .notImplemented s):
  wpAny (model prog w) A (call (.builtin "object.__eq__") [.ref a,.none]) Q E s:=by
 refine wpAny_call (codeAny_call_builtin PySem.F.cmp_object.eq.plain PySem.F.cmpEntry_eq (Zte LI ?_));obtain ⟨h,g,d,t,os⟩:=s;unfold Builtin.«object.__eq__»
 repeat (first | with_reducible refine wpAny_bind (m:=isSame (.ref a) .none) (wpAny_pure ?_) | wp_step)
 exact hq
theorem Zr8 {prog:Program}{w:World}{E:Value→Shared→Prop}{s:Shared}{Q:Option Value→Shared→Prop} (X:K.In s.heap) (hx:s.heap.get? a=some o) (hc:o.cls=.ref C) (hE:EqD K C) (hq:Q none s):
  wpAny (model prog w) A (tryCompare (.ref a) "__eq__" .none) Q E s:=by
 have LT:PySem.W.Looks (model prog w) s.heap (typeOf (.ref a)) (.ref C):=hc ▸ (PySem.W.Looks.ld hx).andThen .now;have LI:PySem.W.Looks (model prog w) s.heap (isInstance (.ref a) (.type "object")) true:=LT.andThen (PySem.W.looks_mroIn X hE.ob);have LS:PySem.W.Looks (model prog w) s.heap (specialOf (.ref a) "__eq__") (some (.builtin "object.__eq__")):=LT.andThen (PySem.W.looks_findIn X hE.eq);simp only [tryCompare];refine wpAny_bind ?_;simp only [callSpecialIfBound?,bindSpecialIfBound?];refine wpAny_holding (wpAny_bind (wpAny_bind (LS.here ?_)));simp only [PySem.F.cmp_object.eq.bind];have fin:wpAny (model prog w) A (call (.builtin "object.__eq__") ([.ref a] ++ [.none]) >>= fun v=>pure (some v)) (fun r s'=>wpAny (model prog w) A (match r with | some .notImplemented | none=>pure none | some v=>pure (some v)) Q E s') E s:=
  wpAny_bind (Zq8 LI (wpAny_pure (wpAny_pure hq)))
 refine wpAny_bind (wpAny_askSetting (wpAny_ite ?_));split
 ·exact wpAny_bind (wpAny_pure (wpAny_pure fin))
 ·exact wpAny_tryCatch (wpAny_bind (wpAny_pure (wpAny_pure fin)))
theorem Znu {s:Shared} (X:K.In s.heap) (hx:s.heap.get? a=some o) (hc:o.cls=.ref C) (hE:EqD K C) (hu:A.units < cLine):SeqAt.RcAt A s (.ref a) .none false:=fun prog w E Q h=>by
 have LT:PySem.W.Looks (model prog w) s.heap (typeOf (.ref a)) (.ref C):=hc ▸ (PySem.W.Looks.ld hx).andThen .now;have hi:cmpInfo CmpOp.Eq=("==",("__eq__":Str),("__eq__":Str)):=rfl;have ho:oneThing? .Eq (.ref a) .none=none:=rfl;simp only [richCompare,hi,ho]
 try with_reducible refine wpAny_holding ?_
 refine wpAny_bind (wpAny_cRoomFor_or (.inr hu) ?_);refine wpAny_bind (LT.here (wpAny_bind (m:=typeOf .none) (wpAny_pure ?_)));have hne:(Value.ref C != Value.type "NoneType")=true:=by simp
 simp only [hne,if_true];have hs:isSubtype (.type "NoneType") (.ref C)=pure false:=by
  rw [isSubtype_type,Zko];rfl
 refine wpAny_bind (wpAny_of_eq hs ?_);simp only [Bool.false_eq_true,if_false,Bool.not_false,if_true];refine wpAny_bind (m:=tryCompare (.ref a) _ .none) (Zr8 X hx hc hE ?_);refine wpAny_bind (m:=tryCompare .none _ (.ref a)) (wpAny_tryCompare_declines (T:="NoneType") rfl PySem.F.slot_NoneType_eq_refl (call_gives PySem.F.slot_NoneType_eq_refl rfl PySem.F.entry_NoneType_eq (PySem.F.args_NoneType_eq_2 _ _) (SeqAt.NoneType___eq___none_ref_0 a) ⟨rfl,?_⟩));exact wpAny_bind (wpAny_rule (wpAny_bind (wpAny_of_eq (rfl:isSame (.ref a) .none=pure false) (wpAny_pure h))))
theorem Zq7 {s:Shared} (X:K.In s.heap) (hx:s.heap.get? a=some o) (hc:o.cls=.ref C) (hE:EqD K C) (hu:A.units < cLine):SeqAt.EqAt A s (.ref a) .none false:=fun prog w E Q h=>by
 unfold eqBool;refine wpAny_holding ?_;refine wpAny_ite_split (fun hab=>absurd (eq_of_beq hab) nofun) (fun _=>?_);exact wpAny_bind (Znu X hx hc hE hu prog w E _ (wpAny_truthy_bool h))
end
section
variable {X:Cx}
def Bs (u:Value):Bool:=match u with
 | .none=>true
 | _=>false
theorem Za4 {H:Hp}{y:V}{u:Value} (r:RelV y u) (h:y=.non∨∃ a C dx fs,y=.ref a∧H a=some (.ins C dx fs)∧DN X.K C∧EqD X.K C):Bs u=decide (y=.non):=by
 rcases h with rfl | ⟨a,_,_,_,rfl,_⟩
 ·obtain rfl:u=Value.none:=r;rfl
 ·obtain rfl:u=Value.ref a:=r;rfl
theorem Zkq {pins:List (Addr×Obj)}{σ:L2.St}{H:Hp}{s:Shared}{A:Around}{y:V}{u:Value} (I:Inv X pins σ H s) (hu:A.units < cLine) (r:RelV y u) (h:y=.non∨∃ a C dx fs,y=.ref a∧H a=some (.ins C dx fs)∧DN X.K C∧EqD X.K C):SeqAt.EqAt A s u .none (Bs u):=by
 rcases h with rfl | ⟨a,C,dx,fs,rfl,ha,hc,he⟩
 ·obtain rfl:u=Value.none:=r;exact SeqAt.EqAt.same .none
 ·obtain rfl:u=Value.ref a:=r;obtain ⟨_,_,_,e,_⟩:=(show jO X.prog X.w H s.heap a (.ins C dx fs) from I.hok a _ ha);exact Zq7 I.By e rfl he hu
theorem Za3 {H:Hp}:∀ {xs:List V}{us:List Value},Vals xs us→OkN X.K H xs→us.any Bs=decide (V.non∈xs)
 | _,_,.nil,_=>rfl
 | y :: xs,u :: us,.cons r t,h=>by
  rw [List.any_cons,Za3 t fun z hz=>h z (List.mem_cons_of_mem _ hz),Za4 r (h y List.mem_cons_self),Bool.eq_iff_iff];simp only [Bool.or_eq_true,decide_eq_true_eq,List.mem_cons];constructor
  ·rintro (z | z)
   ·exact .inl z.symm
   ·exact .inr z
  ·rintro (z | z)
   ·exact .inl z.symm
   ·exact .inr z
theorem Za1 {H:Hp}{pins:List (Addr×Obj)}{σ:L2.St}{s:Shared}{A:Around}{xs:List V}{us:List Value} (I:Inv X pins σ H s) (hu:A.units < cLine) (r:Vals xs us) (h:OkN X.K H xs):∀ u∈us,SeqAt.EqAt A s u .none (Bs u):=by
 intro u hm;obtain ⟨i,hi,rfl⟩:=List.getElem_of_mem hm;have hl:=r.length;have hx:xs[i]? =some xs[i]:=cj (by omega);obtain ⟨u',e,ru⟩:=r.get hx;rw [cj hi] at e;cases e;exact Zkq I hu ru (h _ (List.getElem_mem (by omega)))
theorem Zh9 (hu:X.A.units + 1 < cLine):zy X (compareOp .NotIn) (Zrn X.K true):=by
 intro pins s σ H x y v u Q I rx ry h;obtain ⟨p,xs,rfl,rfl,hs,hk,q⟩:=h;obtain rfl:v=Value.none:=rx;cases ry;obtain ⟨us,r,pl,_⟩:=I.list hs;refine SeqAt.notIn_listAt Bs pl.isList (fun w hw=>Za1 I (by show X.A.units + 1 < cLine;exact hu) r hk w (by simpa using hw)) ⟨.bl _,H,I,rfl,?_⟩;rw [show us.toArray.any Bs=us.any Bs by simp,Za3 r hk];exact q
theorem Za2 {H:Hp}{xs:List V}{us:List Value} (r:Vals xs us) (h:OkN X.K H xs) (j:Nat) (hj:j < us.length) (hj':j < xs.length):Bs us[j]=decide (xs[j]=V.non):=by
 obtain ⟨u',e,ru⟩:=r.get (cj hj');rw [cj hj] at e;cases e;exact Za4 ru (h _ (List.getElem_mem hj'))
theorem Zhi (hu:X.A.units + 1 < cLine):MtR X "list.index" (Zft X.K):=by
 intro pins s σ H x xs v us Q I rx rs h;obtain ⟨p,ys,rfl,rfl,hs,hk,hn,q⟩:=h;obtain rfl:v=Value.ref p:=rx;obtain ⟨u,rfl,ru⟩:=Vals.one rs;obtain rfl:u=Value.none:=ru;obtain ⟨ws,r,pl,hz⟩:=I.list hs;obtain ⟨⟨cls,dd,data,sl⟩,ho,hc,n,hd⟩:=pl.isList;simp only at hc hd;subst hc hd;have hl:=r.length;have hj:ys.idxOf V.non < ys.length:=List.idxOf_lt_length_iff.mpr hn;have hz2:ys.length < 2 ^ 62:=Nat.lt_of_le_of_lt hz (by decide);refine call_meets PySem.F.slot_list_index ⟨_,ho,rfl⟩ PySem.F.entry_list_index (PySem.F.args_list_index_2 _ _)
  (SeqAt.list_indexAt p ws.toArray n dd sl .none Bs (ys.idxOf V.non) (by simpa [hl] using hj) (by omega) ?_ ?_) ⟨ho,fun y hy=>Za1 I (by show X.A.units + 1 < cLine;exact hu) r hk y (by simpa using hy),⟨.int _,H,I.tok _,⟨_,rfl⟩,q⟩⟩
 ·show Bs ws[ys.idxOf V.non]=true;rw [Za2 r hk _ (by omega) hj,decide_eq_true_eq];exact List.getElem_idxOf hj
 ·intro j hjs hlt;show Bs ws[j]=false;rw [Za2 r hk j (by simpa using hjs) (by omega),decide_eq_false_iff_not];intro e;have:=List.not_of_lt_findIdx (p:=(· == V.non)) (xs:=ys) hlt;simp [e] at this
end
end G
namespace G
open PySem L2
def Ib (C:Addr):TE:=fun _ H Q=>∀ x dx,H x=none→H dx=none→dx≠x→Q (.ref x) (upd (upd H dx (.own x)) x (.ins C dx []))
theorem Zpf {C:Addr}{σ:St}{H:Hp}{Q:VK} (h:∀ x dx,H x=none→H dx=none→dx≠x→Q (.ref x) (upd (upd H dx (.own x)) x (.ins C dx []))):Ib C σ H Q:=h
def Ia (t u:TE):TE:=fun σ H Q=>t σ H Q∨u σ H Q
theorem U0 {t u:TE}{σ:St}{H:Hp}{Q:VK} (h:t σ H Q):Ia t u σ H Q:=.inl h
theorem Hi {t u:TE}{σ:St}{H:Hp}{Q:VK} (h:u σ H Q):Ia t u σ H Q:=.inr h
end G
namespace G
open PySem L2 PySem.Spec PyProof.Rows
section
variable {X:Cx}
theorem uW {e:Expr}{t u:TE} (h1:PE X e t) (h2:PE X e u):PE X e (Ia t u):=by
 intro pins s σ H Q I h;rcases h with h | h
 ·exact h1 pins s σ H Q I h
 ·exact h2 pins s σ H Q I h
structure Mk0 (K:aC) (C:Addr):Prop where
 makes:PySem.W.makesIn K C=true
 init:PySem.W.findIn K (.ref C) "__init__"=some (some (.builtin "object.__init__"))
 kp:PySem.W.keepIn K (.ref C)=true
theorem Zcz {C:Addr}{pins:List (Addr×Obj)}{σ:L2.St}{H:Hp}{s:Shared}{Q:VK} (M:Mk0 X.K C) (I:Inv X pins σ H s)
  (h:∀ x dx,H x=none→H dx=none→dx≠x→Q (.ref x) (upd (upd H dx (.own x)) x (.ins C dx []))):wpAny (model X.prog X.w) X.A (call (.ref C) []) (EP X pins σ Q) X.xe s:=by
 have hq:=h (s.heap.objs.size + 1) s.heap.objs.size (I.hok.fresh (Nat.le_succ _)) (I.hok.fresh (Nat.le_refl _)) (Nat.ne_of_lt (Nat.lt_succ_self _));have I2:=Inv.made (C:=C) I;have Y:=PySem.W.makes_of (M:=model X.prog X.w) I.By M.makes;refine wpAny_call (Zhj I.By M.makes M.init (fun self=>PySem.W.Looks.of_pure (PySem.W.oi_bind self)) ?_);have e2:((s.heap.push PySem.W.emptyDict).push (PySem.W.instObj C s.heap.objs.size)).get? (s.heap.objs.size + 1)=some (PySem.W.instObj C s.heap.objs.size):=by
  have:=Heap.get?_push_size (s.heap.push PySem.W.emptyDict) (o:=PySem.W.instObj C s.heap.objs.size) rfl;rw [Heap.size_push] at this;exact this
 have t1:PySem.W.Looks (model X.prog X.w) ((s.heap.push PySem.W.emptyDict).push (PySem.W.instObj C s.heap.objs.size)) (typeOf (.ref (s.heap.objs.size + 1))) (.ref C):=(PySem.W.Looks.ld e2).andThen .now;have t2:PySem.W.Looks (model X.prog X.w) ((s.heap.push PySem.W.emptyDict).push (PySem.W.instObj C s.heap.objs.size)) (isInstance (.ref (s.heap.objs.size + 1)) (.type "object")) true:=t1.andThen (Y.top.keeps fun b o e=>Heap.get?_push_of_some _ (Heap.get?_push_of_some _ e));refine codeAny_call_builtin PySem.W.oi_plain PySem.W.entry_oi (@PySem.W.check_slot (model X.prog X.w) _ _ _ "object.__init__" "object" "__init__" (.ref (s.heap.objs.size + 1)) [] [] _ PySem.W.oi_kind PySem.W.oi_split t2 (PySem.W.oi_args (.ref (s.heap.objs.size + 1))) ?_);rw [PySem.W.oi_run];exact wpAny_pure (And.intro rfl ⟨V.ref (s.heap.objs.size + 1),_,I2,rfl,hq⟩)
theorem Jj {C:Addr}{x:Str}{p pos:Pos} (M:Mk0 X.K C) (hg:Gl X x) (hm:X.mg x=some (.ref C)) (hdb:(x == ("__debug__":Str))=false:=by decide):PE X (.Call (.Name x p) [] [] pos) (Ib C):=by
 intro pins s σ H Q I h;refine wpAny_Call_Name_kw (tH I hg hm ?_ hdb);exact PySem.W.callWith_K0 I.By M.kp (Zcz M I h)
structure ZE6 (K:aC) (C:Addr):Prop where
 pg:PySem.W.plainGet K C "__class__"=true
 hd:PySem.W.hasDictIn K C=true
 cl:PySem.W.findIn K (.ref C) "__class__"=some (some (.builtin "object.__class__"))
 sp:PySem.W.specialIn K (.builtin "object.__class__") "__get__"=some (some (.builtin "getset_descriptor.__get__"))
 tk:PySem.W.takesIn K (.builtin "object.__class__")=some true
 so:PySem.W.mroIn K C (.type "object")=some true
end
end G
namespace G
open PySem L2
end G
namespace G
open PySem L2 PySem.Spec PyProof.Rows
end G
namespace G
open PySem L2 PySem.Spec PyProof.Rows
def Zbl (w:World):List DictEntry→List (Str×Addr)→Prop
 | [],[]=>True
 | e :: es,p :: t=>e.hash=hashStr w p.1∧(∃ tk,e.key=.str p.1 tk)∧e.val=.ref p.2∧Zbl w es t
 | _,_=>False
def Tab (K:aC) (w:World) (mg:Str→Option Value) (nm:Str) (NT:List (Str×Addr)):Prop:=
 ∃ dd o es ep,mg nm=some (.ref dd)∧K.lookup dd=some o∧o.ExactDict∧o.data=.dict es ep∧Zbl w es.toList NT
theorem Zbl.keys {prog:Program}{w:World}:∀ {es:List DictEntry}{NT:List (Str×Addr)},Zbl w es NT→∀ e∈es,∃ k,(strKind prog w).is k e.key=true∧e.hash=(strKind prog w).hash k
 | [],_,_=>fun e he=>absurd he List.not_mem_nil
 | e :: es,[],h=>h.elim
 | e :: es,p :: t,h=>fun x hx=>by
  obtain ⟨h1,⟨tk,h2⟩,_,h4⟩:=h;rcases List.mem_cons.mp hx with rfl | hx
  ·refine ⟨p.1,?_,h1⟩;rw [h2];show Value.isStrOf p.1 (.str p.1 tk)=true;simp [Value.isStrOf]
  ·exact Zbl.keys h4 x hx
theorem Zbl.find {w:World}:∀ {es:List DictEntry}{NT:List (Str×Addr)}{k:Str}{f:Addr},Zbl w es NT→NT.lookup k=some f→(es.find? fun e=>Value.isStrOf k e.key).map (·.val)=some (.ref f)
 | [],[],_,_,_,h=>by cases h
 | [],_ :: _,_,_,h,_=>h.elim
 | _ :: _,[],_,_,h,_=>h.elim
 | e :: es,p :: t,k,f,h,hl=>by
  obtain ⟨_,⟨tk,h2⟩,h3,h4⟩:=h;rw [List.find?_cons,h2]
  by_cases hk:k=p.1
  ·subst hk;have e1:Value.isStrOf p.1 (.str p.1 tk)=true:=by simp [Value.isStrOf]
   rw [e1];have e2:List.lookup p.1 (p :: t)=some p.2:=by
    obtain ⟨a,b⟩:=p;simp [List.lookup]
   rw [e2] at hl;cases hl;show some e.val=_;rw [h3]
  ·have e1:Value.isStrOf k (.str p.1 tk)=false:=by
    simp only [Value.isStrOf,beq_eq_false_iff_ne,ne_eq];exact fun z=>hk z.symm
   rw [e1];have e2:List.lookup k (p :: t)=List.lookup k t:=by
    obtain ⟨a,b⟩:=p;simp only [List.lookup];rw [beq_eq_false_iff_ne.mpr hk]
   rw [e2] at hl;exact Zbl.find h4 hl
def Zn9 (NT:List (Str×Addr)) (ti:TE):TE:=fun σ H Q=>ti σ H fun y H1=>∃ k f,y=.str k∧NT.lookup k=some f∧Q (.ref f) H1
theorem Zur {NT:List (Str×Addr)}{ti:TE}{σ:L2.St}{H:Hp}{Q:VK} (h:ti σ H fun y H1=>∃ k f,y=.str k∧NT.lookup k=some f∧Q (.ref f) H1):Zn9 NT ti σ H Q:=h
theorem Zk8 {X:Cx}{nm:Str}{NT:List (Str×Addr)}{i:Expr}{ti:TE}{p pos:Pos} (T:Tab X.K X.w X.mg nm NT) (hg:Gl X nm) (hi:PE X i ti) (hs:Zqh i) (hd:(nm == ("__debug__":Str))=false:=by decide):
  PE X (.Subscript (.Name nm p) i pos) (Zn9 NT ti):=by
 intro pins s σ H Q I h;obtain ⟨dd,o,es,ep,hm,hk,ho,hda,te⟩:=T;refine Zfp PySem.F.slot_dict_getitem.lookup hs (tH I hg hm ?_ hd);refine gM (hi pins s σ H _ I h) fun iv s2 ⟨y,H2,I2,ry,k,f,ey,l,q2⟩=>?_;subst ey;have hh:=I2.By dd o hk;refine ⟨⟨o,hh,ho.1⟩,?_⟩;obtain ⟨tk,rfl⟩:∃ tk,iv=.str k tk:=ry;refine wpAny_getItem_of (knd:=strKind X.prog X.w) (k:=k) (f:=fun k=>findBy Value.isStrOf es k) (by show Value.isStrOf k (.str k tk)=true;simp [Value.isStrOf]) ⟨o,es,ep,hh,ho,hda,fun e he=>te.keys e (by simpa using he),fun _=>rfl⟩ (v:=.ref f) ?_ ⟨.ref f,H2,I2.tok _,rfl,q2⟩;show Option.map (fun x=>x.val) (Array.find? (fun e=>Value.isStrOf k e.key) es)=_;rw [← Array.find?_toList];exact te.find l
def QX (P:Program) (w:World) (K:aC) (mg:Str→Option Value) (base:Heap) (CX:Zn) (k:Nat) (ps:List Str) (L:List (Addr×Sp)):Prop:=
 ∀ f sp,(f,sp)∈L→∃ k' fd,k'≤k∧uK P w K mg base CX k' f fd ps sp∧PySem.W.keepIn K (.ref f)=true∧L2.Binds K fd ps []
theorem QX.nil {P:Program}{w:World}{K:aC}{mg:Str→Option Value}{base:Heap}{CX:Zn}{k:Nat}{ps:List Str}:QX P w K mg base CX k ps []:=fun _ _ h=>absurd h List.not_mem_nil
theorem QX.cons {P:Program}{w:World}{K:aC}{mg:Str→Option Value}{base:Heap}{CX:Zn}{k k':Nat}{ps:List Str}{L:List (Addr×Sp)}{f:Addr}{fd:FuncData}{sp:Sp} (hk:k'≤k) (F:uK P w K mg base CX k' f fd ps sp) (hb:L2.Binds K fd ps []) (hp:PySem.W.keepIn K (.ref f)=true) (t:QX P w K mg base CX k ps L):QX P w K mg base CX k ps ((f,sp) :: L):=fun g sp' h=>by
 rcases List.mem_cons.mp h with e | h
 ·cases e;exact ⟨k',fd,hk,F,hp,hb⟩
 ·exact t g sp' h
def Vu (i:Nat) (L:List (Addr×Sp)) (E:XK) (t:TA):TE:=fun σ H Q=>∃ f sp,σ[i]? =some (some (.ref f))∧(f,sp)∈L∧t σ H fun vs H1=>sp vs H1 Q E
theorem mH {i:Nat}{L:List (Addr×Sp)}{E:XK}{t:TA}{σ:L2.St}{H:Hp}{Q:VK}{f:Addr} (sp:Sp) (hf:σ[i]? =some (some (.ref f))) (hm:(f,sp)∈L) (h:t σ H fun vs H1=>sp vs H1 Q E):Vu i L E t σ H Q:=⟨f,sp,hf,hm,h⟩
theorem ZS {X:Cx}{CX:Zn}{k i:Nat}{ps:List Str}{L:List (Addr×Sp)}{x:Str}{E:XK}{e:Expr}{es:List Expr}{t:TA}{p pos:Pos} (F:QX X.prog X.w X.K X.mg X.base CX k ps L) (hr:Room k X.A) (hN:X.N[i]? =some x) (hv:Vis X.env.scope x) (hx:Passes CX X E)
  (ha:PA X (e :: es) t) (hd:(x == ("__debug__":Str))=false:=by decide) (hcd:(x == ("__classdict__":Str))=false:=by decide) (he:starEach (e :: es) X.env=(false,eval e X.env) :: starEach es X.env:=by rfl) (hpl:(backTo pos (starEach es X.env)).any (·.1)=false:=by rfl):
  PE X (.Call (.Name x p) (e :: es) [] pos) (Vu i L E t):=by
 intro pins s σ H Q I h;obtain ⟨f,sp,ef,hm,h⟩:=h;obtain ⟨k',fd,hk,FO,hp,hb⟩:=F f sp hm;refine wpAny_Call_Name_kw (gM (Zk7 hN hv hd hcd pins s σ H (fun v H'=>v=.ref f∧H'=H) I ⟨_,ef,rfl,rfl⟩) fun u s1 ⟨v,H1,I1,r,e1,e2⟩=>?_);subst e1 e2;obtain rfl:u=Value.ref f:=r;refine PySem.W.callWith_K (h₀:=X.base) I1.ok.mod.kin hp (gM (ha pos pins s1 σ H1 _ I1 h) fun us s2 ⟨vs,H2,I2,r2,q2⟩=>⟨I2.By,?_⟩) he hpl;refine Wn (uM:=[]) FO (hr.mono hk) hb .nil hx I2 r2 ?_;rw [List.append_nil];exact q2
section
variable {σ:L2.St}{H:Hp}{Q:VK}{td ty tv:TE}{n bk ct:L2.St→Hp→Prop}{r:VK}
theorem Zt2 (h:td σ H fun x H1=>ty σ H1 fun y H2=>∃ a v,x=.ref a∧QS H2 a y (some v)∧Q v H2):Uq td ty σ H Q:=h
theorem Zlw (h:ty σ H fun y H1=>td σ H1 fun x H2=>∃ a o,x=.ref a∧QS H2 a y o∧Q (.bl (!o.isSome)) H2):Vt ty td σ H Q:=h
theorem Zt0 (h:tv σ H fun v H1=>td σ H1 fun x H2=>ty σ H2 fun y H3=>∃ a H4,x=.ref a∧Zbz H3 a y v H4∧n σ H4):Zfq td ty tv ⟨n,r,bk,ct⟩ σ H:=h
theorem Zgb {a:Addr}{kvs:List (L2.Key×V)}{z:Str} (e:H a=some (.dK kvs)):QS H a (.str z) (rK kvs (Sum.inr z)):=QS.k (k:=Sum.inr z) e
theorem Zvg {a:Addr}{kvs:List (L2.Key×V)}{z:Str}{v:V} (e:H a=some (.dK kvs)) (hl:kvs.length < sizeLine):Zbz H a (.str z) v (upd H a (.dK (putK kvs (Sum.inr z) v))):=Zbz.k (k:=Sum.inr z) e hl
end
end G
namespace G
open PySem L2 PySem.Spec PyProof.Rows
def Zqi (K:aC) (J:It) (caps:List Nat) (tc:TT) (te:TE) (σ:L2.St) (H1:Hp) (Q:VK):Prop:=∃ W:Nat→Nat→List V→Hp→Prop,(∃ m,W 0 m [] H1)∧∀ i m ys H,W i m ys H→
 (J.stop i H∧∀ p,H p=none→Q (.ref p) (upd H p (.lst ys)))∨
 (J.go i H∧ys.length < sizeLine∧∀ x H',J.yld i H x H'→∃ a u v,x=.ref a∧gU K H' a [u,v]∧tc (some u :: some v :: caps.map (pick σ)) H' fun k H2=>if k=true then te (some u :: some v :: caps.map (pick σ)) H2 (fun y H3=>∃ m',m' < m∧W (i + 1) m' (ys ++ [y]) H3) else ∃ m',m' < m∧W (i + 1) m' ys H2)
def Zjc (K:aC) (wi:TI) (caps:List Nat) (tc:TT) (te:TE):TE:=fun σ H Q=>wi σ H fun J H1=>Zqi K J caps tc te σ H1 Q
theorem Zss {K:aC}{wi:TI}{caps:List Nat}{tc:TT}{te:TE}{σ:L2.St}{H:Hp}{Q:VK} (h:wi σ H fun J H1=>Zqi K J caps tc te σ H1 Q):Zjc K wi caps tc te σ H Q:=h
def Zvu (K:aC) (te:TE):TE:=fun σ H Q=>∃ a u v r,σ=some (.ref a) :: r∧gU K H a [u,v]∧te (some u :: some v :: r) H Q
theorem Zg5 {K:aC}{J:It}{caps:List Nat}{te:TE}{σ:L2.St}{H:Hp}{Q:VK} (h:LCg J caps w6 (Zvu K te) σ H Q):Zqi K J caps w6 te σ H Q:=by
 obtain ⟨W,w0,step⟩:=h;refine ⟨W,w0,fun i m ys H hw=>?_⟩;rcases step i m ys H hw with z | ⟨g,l,st⟩
 ·exact .inl z
 ·refine .inr ⟨g,l,fun x H' y=>?_⟩;have h1:=st x H' y;simp only [w6,↓reduceIte] at h1;obtain ⟨a,u,v,r,e,hs,q⟩:=h1;cases e;refine ⟨a,u,v,rfl,hs,?_⟩;simp only [w6,↓reduceIte];exact q
theorem Zdb {X:Cx}{elt iter:Expr}{x y:Str}{px py pt pos:Pos}{kt:Nat}{ifs:List Expr}{scope:Scope}{cl:List (Str×Addr)}{wi:TI}{tc:TT}{te:TE}{cns:List Str} (caps:List Nat)
  (hi:PI X (.Tuple [.Name x px,.Name y py] kt pt) iter wi)
  (hf:∀ C s H ex pn,PF (Yx X scope cl (x :: y :: cns) C s H ex pn) ifs tc) (he:∀ C s H ex pn,PE (Yx X scope cl (x :: y :: cns) C s H ex pn) elt te) (hc:X.calm=true)
  (hclos:closureFor scope X.env=pure cl) (hcl:AllIn X.env.cells cl) (hcap:DP X cns caps)
  (hkind:scope.kind=.function) (hcell:(scope.names.all fun p=>p.2 != .cell)=true) (hfree:(scope.names.all fun p=>p.2 != .free || (cl.lookup p.1).isSome)=true)
  (hcf:(cns.all fun y=>scope.names.lookup y == some .free)=true) (hnames:∀ y∈scope.names,y.2=.local→scope.names.lookup y.1=some .local) (hx:scope.names.lookup x=some .local) (hy:scope.names.lookup y=some .local) (hnd:(x :: y :: cns).Nodup)
  (hs:∀ v,foldedSetIterable iter X.env v=pure v:=by intro _;rfl):
  PE X (.ListComp elt [⟨.Tuple [.Name x px,.Name y py] kt pt,iter,ifs,0⟩] scope pos) (Zjc X.K wi caps tc te):=by
 intro pins s σ H Q I h;rw [eval_ListComp];refine wpAny_comprehension_free (use:=none) rfl hs hclos hkind hnames (gM (hi pins s σ H _ I h) fun xv s1 h1=>gM h1 fun itv s2 h2=>?_);obtain ⟨it,fp,tn,J,H2,rfl,I2,T,st2,f2,W,⟨m0,w0⟩,turn⟩:=h2;have hne:∀ y∈scope.names,y.2≠.cell:=fun y hy e=>by
  have:=List.all_eq_true.mp hcell y hy;rw [e] at this;simp at this
 refine wpAny_newObj_type (wpAny_newFunctionEnv hne (by intro y hy;simp at hy) (fun h₁ hns₁ hsb₁=>?_) hkind);dsimp only at hns₁ hsb₁ ⊢;generalize hacc:s2.heap.objs.size=acc;generalize hH3:s2.heap.push { cls:=.type "list",dict:=none,data:=.seq ([]:List Value).toArray }=h3 at hns₁ hsb₁ ⊢;have hC:h3.objs.size=acc + 1:=by rw [← hH3,Heap.size_push,hacc]
 have tK:∀ b o,s2.heap.get? b=some o→h3.get? b=some o:=fun b o e=>hH3 ▸ Heap.get?_push_of_some _ e;have Es:∀ b o,h3.get? b=some o→h₁.get? b=some o:=fun b o e=>hsb₁.extBut b o (Nat.ne_of_lt (Heap.lt_size e)) (Heap.get?_push_of_some _ e);have Zkm:h3.get? acc=some { cls:=.type "list",dict:=none,data:=.seq ([]:List Value).toArray }:=by
  rw [← hH3,← hacc];exact Heap.get?_push_size _ rfl
 have I3:Inv X pins σ H2 { s2 with heap:=h3 }:=I2.kept (t':=s2.toks) tK;have Qw:nM X pins H2 acc:=I2.Yb (Nat.le_of_eq hacc) (I2.hok.fresh (Nat.le_of_eq hacc));have fpl:∀ b∈fp,b < acc:=fun b hb=>by
  obtain ⟨o,e,_⟩:=T.obj _ _ st2 b hb;rw [← hacc];exact Heap.lt_size e
 have xF:∀ b∈acc :: fp,nM X pins H2 b:=fun b hb=>(List.mem_cons.mp hb).elim (fun e=>e ▸ Qw) (f2 b);have exC:∀ b∈acc :: fp,b≠h3.objs.size:=fun b hb=>by
  rcases List.mem_cons.mp hb with e | hb
  ·rw [hC,e];exact Nat.ne_of_lt (Nat.lt_succ_self _)
  ·rw [hC];exact Nat.ne_of_lt (Nat.lt_succ_of_lt (fpl b hb))
 have t7:∀ b∈acc :: fp,b∉frs X.stack:=fun b hb hm=>by
  obtain ⟨_,g1,g2,_⟩:=xF b hb;exact (List.mem_cons.mp (I2.vI b hm)).elim g1 g2
 let Y:Cx:=Yx X scope cl (x :: y :: cns) h3.objs.size { s2 with heap:=h3 } H2 (acc :: fp) (X.pn ++ pins)
 have cellsOf:∀ y c,cl.lookup y=some c→X.env.cells.lookup y=some c:=fun y c e=>hcl.get e;have vo:∀ y k,Y.env.kindOf y=some k→(k=.cell∨k=.free)→∃ c,cl.lookup y=some c:=fun y k e hk=>by
  have e0:(scope.names.lookup y).map (uh X.env y)=some k:=jL.symm.trans e;obtain ⟨k0,e1,e2⟩:=Option.map_eq_some_iff.mp e0;have e3:=lookup_all hfree e1;have e4:=lookup_all hcell e1
  by_cases hf:k0=.free
  ·subst hf;rw [Bool.or_eq_true] at e3;rcases e3 with e3 | e3
   ·exact absurd rfl (bne_iff_ne.mp e3)
   ·exact Option.isSome_iff_exists.mp e3
  ·exfalso
   have e5:uh X.env y k0=k0:=by
    unfold uh;rw [if_neg];intro z;rw [Bool.and_eq_true,Bool.and_eq_true] at z;exact hf (beq_iff_eq.mp z.1.1)
   rw [e5] at e2;subst e2;rcases hk with rfl | rfl
   ·simp at e4
   ·exact hf rfl
 have okY:Y.Ok:={
  mod:=I2.ok.mod
  kind:=hkind
  glob:=I2.ok.glob
  blt:=I2.ok.blt
  above:=Nat.le_refl _
  inj:=fun a b c e1 e2=>I2.ok.inj a b c (cellsOf _ _ e1) (cellsOf _ _ e2)
  has:=fun y hy=>hy.elim (fun e=>vo y _ e (.inl rfl)) (fun e=>vo y _ e (.inr rfl))
  cab:=fun y c e=>nomatch e
  hd:=I2.ok.hd
  frames:=I2.ok.frames
  stk:=.inl rfl
  exf:=fun b hb=>⟨exC b hb,fun y c e=>(xF b hb).2.2.2.2.1 y c (cellsOf _ _ e)⟩
  bs:=fun b o e=>⟨tK b o (I2.bs b o e).1,(I2.bs b o e).2⟩
  Zj:=by
   show X.base.objs.size≤h3.objs.size;rw [hC,← hacc];exact Nat.le_succ_of_le (Nat.le_trans I2.ok.Zj I2.sz)
  Mv:=fun b o e hb=>by
   rcases (xF b hb).2.2.2.1 with z | z
   ·exact I2.ok.Mv b o e z
   ·exact absurd (Nat.lt_of_lt_of_le (Heap.lt_size e) (Nat.le_trans I2.ok.Zj z)) (Nat.lt_irrefl _)
  Yw:=t7
  wL:=I3.stack
  frf:=I3.Fw }
 have Zli:(none :: none :: caps.map (pick σ):L2.St).length=(x :: y :: cns).length:=by rw [List.length_cons,List.length_cons,List.length_cons,List.length_cons,bu,hcap.len]
 have I4:Inv Y [] (none :: none :: caps.map (pick σ)) H2 { s2 with heap:=h₁,toks:=s2.toks + ([]:List (Str×Value)).length }:={
  ok:=okY
  os:=rfl
  bare:=I2.bare
  base:=Un.kept Es
  loc:=by
   refine ⟨_,hns₁,fun i y₁ v e1 e2 e3=>?_⟩
   match i,e1,e2 with
   | 0,e1,e2=>simp at e2
   | 1,e1,e2=>simp at e2
   | i + 2,e1,e2=>
    obtain ⟨j,j1,j2,j3⟩:=hcap.get (σ:=σ) (i:=i) (x:=y₁) (v:=v) (by have e1':(x :: y :: cns)[i + 2]? =some y₁:=e1;simpa using e1') (by simpa using e2);obtain ⟨m,hn,hl⟩:=I2.loc;obtain ⟨u,r,l⟩:=hl j y₁ v j1 j3 (.inr (.inl j2));rcases l with ⟨l,_⟩ | ⟨_,c,l1,l2⟩
    ·rw [j2] at l;cases l
    ·refine ⟨u,r,.inr ?_⟩;rcases e3 with e3 | e3 | e3
     ·exfalso
      have hm:y₁∈cns:=List.mem_of_getElem? (show cns[i]? =some y₁ by have e1':(x :: y :: cns)[i + 2]? =some y₁:=e1;simpa using e1');have hl:scope.names.lookup y₁=some .free:=beq_iff_eq.mp (List.all_eq_true.mp hcf y₁ hm);have e0:(scope.names.lookup y₁).map (uh X.env y₁)=some .local:=jL.symm.trans e3;rw [hl] at e0;have e5:uh X.env y₁ .free=.local:=Option.some.inj e0;unfold uh at e5;split at e5<;>cases e5
     ·obtain ⟨c',hc'⟩:=vo y₁ _ e3 (.inl rfl);have:=cellsOf _ _ hc';rw [l1] at this;cases this;exact ⟨.inl e3,c,hc',l2.keeps fun b o e=>Es _ _ (tK _ _ e)⟩
     ·obtain ⟨c',hc'⟩:=vo y₁ _ e3 (.inr rfl);have:=cellsOf _ _ hc';rw [l1] at this;cases this;exact ⟨.inr e3,c,hc',l2.keeps fun b o e=>Es _ _ (tK _ _ e)⟩
  cell:=fun y c e=>by
   obtain ⟨v,z⟩:=I2.cell y c (cellsOf _ _ e);exact ⟨v,z.keeps fun b o e=>Es _ _ (tK _ _ e)⟩
  free:=I2.hok.fresh (by rw [hacc];show acc≤h3.objs.size;rw [hC];exact Nat.le_succ _)
  pO:=fun y c e=>I2.pO y c (cellsOf _ _ e)
  pin:=fun p hp=>by
   have hp2:p∈(X.pn ++ pins) ++ []:=hp;have hp':p∈X.pn ++ pins:=by rw [List.append_nil] at hp2;exact hp2
   obtain ⟨p1,p2,p3,p4,p5⟩:=I2.pin p hp';refine ⟨Es _ _ (tK _ _ p1),p2,?_,fun hm=>(List.mem_cons.mp (I2.vI _ hm)).elim p3 p4,p5⟩;exact Nat.ne_of_lt (by show p.1 < h3.objs.size;exact Heap.lt_size (tK _ _ p1))
  hok:=I2.hok.kept fun b u e=>Es _ _ (tK _ _ e)
  len:=Zli }
 have fpY:∀ {H':Hp}{pl:List (Addr×Obj)}{b:Addr},b∈acc :: fp→H' b=none→(∀ p∈pl,p.1≠b)→nM Y pl H' b:=fun {H' pl b} hb hn hp=>
  ⟨hn,exC b hb,t7 b hb,.inl hb,fun y c e=>(xF b hb).2.2.2.2.1 y c (cellsOf _ _ e),fun p hm=>(List.mem_append.mp hm).elim (fun z=>(xF b hb).2.2.2.2.2 p z) (hp p)⟩
 have fin:∀ {σ':L2.St}{H':Hp}{s':Shared}{ys:List V}{its:List Value}{kk:Nat}{pl:List (Addr×Obj)},Inv Y pl σ' H' s'→H' acc=none→Vals ys its→ys.length≤sizeLine→
   s'.heap.get? acc=some { cls:=.type "list",data:=.seq its.toArray kk }→(∀ p,H' p=none→Q (.ref p) (upd H' p (.lst ys)))→
   ∀ h',Heap.SameBut h3.objs.size s'.heap h'→EP X pins σ Q (.ref acc) { s' with heap:=h' }:=fun {σ' H' s' ys its kk pl} J ha hv hz ho hq h' hs'=>by
  have Zig:acc≠h3.objs.size:=exC acc (List.mem_cons_self);have rD:∀ b o,b≠h3.objs.size→s'.heap.get? b=some o→h'.get? b=some o:=fun b o hb e=>hs'.extBut b o hb e;have ltC:∀ b o,s2.heap.get? b=some o→b≠h3.objs.size:=fun b o e=>Nat.ne_of_lt (Heap.lt_size (tK b o e));have yZ:H' h3.objs.size=none:=J.free;have un:Un (frs X.stack) (acc :: fp) H2 H' s2.heap h':={
   keep:=fun b o e n hb hx=>rD b o (ltC b o e) (J.base.keep b o (tK b o e) n hb hx)
   slot:=fun b o e n hb hx=>by
    obtain ⟨sl,q⟩:=J.base.slot b o (tK b o e) n hb hx;exact ⟨sl,rD b _ (ltC b o e) q⟩
   free:=fun b o e n hx=>J.base.free b o (tK b o e) n hx
   there:=fun b o e hx=>by
    obtain ⟨o',q⟩:=J.base.there b o (tK b o e) hx;exact ⟨o',rD b o' (ltC b o e) q⟩
   tups:=J.base.tups
   BL:=J.base.BL
   CQ:=J.base.CQ }
  have hok:zM X.prog X.w H' h':=fun b u e=>by
   refine (J.hok b u e).stay (fun c v hc q=>rD c v ?_ q) (fun _ q=>q) fun _ _ q=>q;rintro rfl;rcases hc with rfl | hc
   ·rw [yZ] at e;cases e
   ·rw [yZ] at hc;cases hc
  have I5:Inv X pins σ H' { s' with heap:=h' }:=I2.call' (ch:=acc :: fp) J.os un hok J.bare fun b hb=>by
   obtain ⟨g0,g1,g2,g3,g4,g5⟩:=xF b hb;exact ⟨g3,g1,g4,g5⟩
  refine ⟨.ref acc,_,adopt (acc:=acc) I5 ?_ (rD _ _ Zig ho) hv hz,rfl,hq acc ha⟩;obtain ⟨g0,g1,g2,g3,g4,g5⟩:=Qw;exact ⟨ha,g1,g2,g3,g4,g5⟩
 have loop:codeAny (model X.prog X.w) X.A (.compLoop (.ListComp elt [⟨.Tuple [.Name x px,.Name y py] kt pt,iter,ifs,0⟩] scope pos) 0 (.ref it) (.ref acc) Y.env) (compPost (model X.prog X.w) X.A X.xe none (EP X pins σ Q) (.ref acc) h3.objs.size)
   { s2 with heap:=h₁,toks:=s2.toks + ([]:List (Str×Value)).length }:=by
  refine BW (fun n s'=>∃ (i:Nat) (v v':Option V) (ys:List V) (its:List Value) (kk:Nat) (H':Hp),Inv Y [] (v :: v' :: caps.map (pick σ)) H' s'∧tn i s'.heap∧(∀ b∈fp,H' b=none)∧H' acc=none∧Vals ys its∧ys.length≤sizeLine∧
   s'.heap.get? acc=some { cls:=.type "list",data:=.seq its.toArray kk }∧W i n ys H') ?_ m0 ⟨0,none,none,[],[],0,H2,I4,T.keep _ _ _ st2 (fun b _ o e=>Es _ _ (tK _ _ e)),fun b hb=>(f2 b hb).1,Qw.1,.nil,Nat.zero_le _,Es _ _ Zkm,w0⟩
  rintro n s5 ⟨i,v,v',ys,its,kk,H5,I5,st5,fr5,ha5,hv5,hz5,ho5,w5⟩;have ZP:Inv Y [(acc,{ cls:=.type "list",data:=.seq its.toArray kk })] (v :: v' :: caps.map (pick σ)) H5 s5:=I5.nT fun p hp=>by
   have e:p=(acc,{ cls:=.type "list",data:=.seq its.toArray kk }):=by simpa using hp
   subst e;exact ⟨ho5,ha5,exC acc List.mem_cons_self,t7 acc List.mem_cons_self,fun v=>by intro z;cases z⟩
  have fpA:∀ {H':Hp},(∀ b∈fp,H' b=none)→∀ b∈fp,nM Y [(acc,{ cls:=.type "list",data:=.seq its.toArray kk })] H' b:=fun hn b hb=>fpY (List.mem_cons_of_mem _ hb) (hn b hb) fun p hp=>by
   have e:p=(acc,{ cls:=.type "list",data:=.seq its.toArray kk }):=by simpa using hp
   subst e;exact (Nat.ne_of_lt (fpl b hb)).symm
  rcases turn i n ys H5 w5 with ⟨stop,qn⟩ | ⟨go,hlt,step⟩
  ·refine gM (T.done Y rfl rfl rfl hc i _ s5 _ H5 (fun _ _=>False) ZP (fpA fr5) st5 stop) fun r s6 ⟨hr,I6⟩=>?_;subst hr;obtain ⟨m,hm,_⟩:=I6.loc;have ho6:=(I6.pin (acc,{ cls:=.type "list",data:=.seq its.toArray kk }) (List.mem_append_right _ List.mem_cons_self)).1;exact ⟨m,hm,fin I6 ha5 hv5 hz5 ho6 qn⟩
  ·refine gM (T.item Y rfl rfl rfl hc i _ s5 _ H5 (fun _ _=>False) ZP (fpA fr5) st5 go) fun r s6 ⟨u,hr,h6⟩=>?_;subst hr;refine gM h6 fun _ s7 ⟨z,H7,I7,r7,y7,st7,fr7⟩=>?_;have I7':=I7.pinned (fpA fr7) (T.obj _ _ st7);obtain ⟨ta,u1,u2,ez,hst,step⟩:=step z H7 y7;have pg:PG Y (.Tuple [.Name x px,.Name y py] kt pt) (Zmd X.K 2 (Hj (aN 0) (Hj (aN 1) Zme))):=Wy (X:=Y) hc (rB (ji hnd rfl (.inl (lookup_relabel_local hx)) (.inr (lookup_relabel_local hx))) (rB (ji hnd rfl (.inl (lookup_relabel_local hy)) (.inr (lookup_relabel_local hy))) M5));refine gM (pg _ s7 _ H7 z u (fun σ2 H2'=>σ2=some u1 :: some u2 :: caps.map (pick σ)∧H2'=H7) I7' r7 ⟨ta,_,ez,hst,rfl,_,_,rfl,_,_,rfl,rfl,rfl,rfl⟩) fun _ s8 ⟨σ8,H8,I8,e8,e8'⟩=>?_;subst e8 e8';refine gM (hf _ _ _ _ _ _ s8 _ H8 _ I8 step) fun ok s9 ⟨H9,I9,q9⟩=>?_;have stat:∀ {H':Hp}{s':Shared}{σ':L2.St},Inv Y ([(acc,{ cls:=.type "list",data:=.seq its.toArray kk })] ++ qw fp s7.heap) σ' H' s'→tn (i + 1) s'.heap∧(∀ b∈fp,H' b=none)∧H' acc=none∧s'.heap.get? acc=some { cls:=.type "list",data:=.seq its.toArray kk }:=fun {H' s' σ'} J=>by
    have pa:=J.pin (acc,{ cls:=.type "list",data:=.seq its.toArray kk }) (List.mem_append_right _ (List.mem_append_left _ List.mem_cons_self));refine ⟨T.keep _ _ _ st7 fun b hb o e=>(J.pin (b,o) (List.mem_append_right _ (List.mem_append_right _ (jJ hb e)))).1,fun b hb=>?_,pa.2.1,pa.1⟩;obtain ⟨o,e,d⟩:=T.obj _ _ st7 b hb;exact (J.pin (b,o) (List.mem_append_right _ (List.mem_append_right _ (jJ hb e)))).2.1
   have KZ:∀ {H':Hp}{s':Shared}{σ':L2.St}{pl:List (Addr×Obj)},Inv Y pl σ' H' s'→Inv Y [] σ' H' s':=fun J=>J.nT fun p hp=>nomatch hp;cases ok with
   | false=>
    obtain ⟨m',hm,w9⟩:=q9;obtain ⟨t1,t2,t3,t4⟩:=stat I9;exact ⟨m',hm,i + 1,some u1,some u2,ys,its,kk,H9,KZ I9,t1,t2,t3,hv5,hz5,t4,w9⟩
   | true=>
    show wpAny _ _ (eval elt Y.env) _ _ s9;refine gM (he _ _ _ _ _ _ s9 _ H9 _ I9 q9) fun y s10 ⟨yv,H10,I10,r10,m',hm,w10⟩=>?_;obtain ⟨t1,t2,t3,t4⟩:=stat I10;have Zn3:Inv Y (qw fp s7.heap) (some u1 :: some u2 :: caps.map (pick σ)) H10 s10:=I10.nT fun p hp=>I10.pin p (List.mem_append_right _ (List.mem_append_right _ hp));have fA:nM Y (qw fp s7.heap) H10 acc:=fpY List.mem_cons_self t3 fun p hp=>Nat.ne_of_lt (fpl _ (Cw hp).1);have Ja:=adopt Zn3 fA t4 hv5 hz5;refine gM (m5 (X:=Y) _ s10 _ _ (.ref acc) [yv] (.ref acc) [y] (fun _ H'=>H'=upd (upd H10 acc (.lst ys)) acc (.lst (ys ++ [yv]))) Ja rfl (.cons r10 .nil) ⟨acc,ys,yv,rfl,rfl,aq,hlt,rfl⟩) fun _ s11 ⟨_,H11,I11,_,e11⟩=>?_;rw [dY] at e11;subst e11;obtain ⟨Zm0,its',kk',Zm1,Zm2⟩:=I11.hok acc _ aq;have Jd:=disown I11 fA;have Zjg:tn (i + 1) s11.heap:=T.keep _ _ _ st7 fun b hb o e=>(Jd.pin (b,o) (List.mem_append_right _ (jJ hb e))).1;exact ⟨m',hm,i + 1,some u1,some u2,ys ++ [yv],its',kk',H10,KZ Jd,Zjg,t2,t3,Zm1,Zm0,Zm2,w10⟩
 exact codeAny_compStart_list loop (T.self X.A 0 _ _ _ (T.keep _ _ _ st2 (fun b _ o e=>Es _ _ (tK _ _ e))) loop)
end G
namespace G
open PySem L2 PySem.Spec PyProof.Rows
theorem ZM {X:Cx}{iz:Nat}{z:Str}{pz Zua:Pos}{elt iter:Expr}{x:Str}{px pos:Pos}{ifs:List Expr}{scope:Scope}{cl:List (Str×Addr)}{wi:TI}{tc:TT}{te:TE}{cns:List Str} (caps:List Nat)
  (hi:PI X (.Name x px) iter wi)
  (hf:∀ C s H ex pn,PF (Yx X scope cl (x :: cns) C s H ex pn) ifs tc) (he:∀ C s H ex pn,PE (Yx X scope cl (x :: cns) C s H ex pn) elt te) (hc:X.calm=true)
  (hclos:closureFor scope X.env=pure cl) (hcl:AllIn X.env.cells cl) (hcap:DP X cns caps)
  (hkind:scope.kind=.function) (hcell:(scope.names.all fun p=>p.2 != .cell)=true) (hfree:(scope.names.all fun p=>p.2 != .free || (cl.lookup p.1).isSome)=true)
  (hcf:(cns.all fun y=>scope.names.lookup y == some .free)=true) (hnames:∀ y∈scope.names,y.2=.local→scope.names.lookup y.1=some .local) (hx:scope.names.lookup x=some .local) (hnd:(x :: cns).Nodup)
  (hN:X.N.Nodup) (hiz:X.N[iz]? =some z) (hz:Loc X.env.scope z) (hfz:X.fn z=true∨X.env.scope.names.lookup z=some .local)
  (hsw:swapsWithSole [.Name z pz] (.ListComp elt [⟨.Name x px,iter,ifs,0⟩] scope pos) Zua.line X.env=pure true) (hs:∀ v,foldedSetIterable iter X.env v=pure v:=by intro _;rfl):
  PS X (.Assign [.Name z pz] (.ListComp elt [⟨.Name x px,iter,ifs,0⟩] scope pos) Zua) (bD (tLC wi caps tc te) (aN iz)):=by
 intro pins s σ H D I h;generalize hQ:(fun v H1=>aN iz v σ H1 D.nx)=Q;have h:tLC wi caps tc te σ H Q:=hQ ▸ h;rw [exec_Assign_arm];refine wpAny_bind (wpAny_standAt ?_);rw [hsw];refine wpAny_bind (wpAny_pure ?_);rw [if_pos rfl];refine wpAny_bind ?_;rw [evalThenUse]
 suffices key:wpAny (model X.prog X.w) X.A (comprehension (.ListComp elt [⟨.Name x px,iter,ifs,0⟩] scope pos) scope X.env (firstIterPos [⟨.Name x px,iter,ifs,0⟩] pos) (newList []) (firstAsync [⟨.Name x px,iter,ifs,0⟩]) (firstIter [⟨.Name x px,iter,ifs,0⟩] X.env) (some fun v=>assignAll v ((assignEach [.Name z pz] X.env).map (·.2)))) (fun _ s'=>SP X pins D .next s') X.xe s from
  wpAny_bind (wpAny_mono key (fun _ s' h=>wpAny_pure (wpAny_pure h)) fun _ _ h=>h)
 refine wpAny_comprehension_free rfl hs hclos hkind hnames (gM (hi pins s σ H _ I h) fun xv s1 h1=>gM h1 fun itv s2 h2=>?_);obtain ⟨it,fp,tn,J,H2,rfl,I2,T,st2,f2,W,⟨m0,w0⟩,turn⟩:=h2;have hne:∀ y∈scope.names,y.2≠.cell:=fun y hy e=>by
  have:=List.all_eq_true.mp hcell y hy;rw [e] at this;simp at this
 refine wpAny_newObj_type (wpAny_newFunctionEnv hne (by intro y hy;simp at hy) (fun h₁ hns₁ hsb₁=>?_) hkind);dsimp only at hns₁ hsb₁ ⊢;generalize hacc:s2.heap.objs.size=acc;generalize hH3:s2.heap.push { cls:=.type "list",dict:=none,data:=.seq ([]:List Value).toArray }=h3 at hns₁ hsb₁ ⊢;have hC:h3.objs.size=acc + 1:=by rw [← hH3,Heap.size_push,hacc]
 have tK:∀ b o,s2.heap.get? b=some o→h3.get? b=some o:=fun b o e=>hH3 ▸ Heap.get?_push_of_some _ e;have Es:∀ b o,h3.get? b=some o→h₁.get? b=some o:=fun b o e=>hsb₁.extBut b o (Nat.ne_of_lt (Heap.lt_size e)) (Heap.get?_push_of_some _ e);have Zkm:h3.get? acc=some { cls:=.type "list",dict:=none,data:=.seq ([]:List Value).toArray }:=by
  rw [← hH3,← hacc];exact Heap.get?_push_size _ rfl
 have I3:Inv X pins σ H2 { s2 with heap:=h3 }:=I2.kept (t':=s2.toks) tK;have Qw:nM X pins H2 acc:=I2.Yb (Nat.le_of_eq hacc) (I2.hok.fresh (Nat.le_of_eq hacc));have fpl:∀ b∈fp,b < acc:=fun b hb=>by
  obtain ⟨o,e,_⟩:=T.obj _ _ st2 b hb;rw [← hacc];exact Heap.lt_size e
 have xF:∀ b∈acc :: fp,nM X pins H2 b:=fun b hb=>(List.mem_cons.mp hb).elim (fun e=>e ▸ Qw) (f2 b);have exC:∀ b∈acc :: fp,b≠h3.objs.size:=fun b hb=>by
  rcases List.mem_cons.mp hb with e | hb
  ·rw [hC,e];exact Nat.ne_of_lt (Nat.lt_succ_self _)
  ·rw [hC];exact Nat.ne_of_lt (Nat.lt_succ_of_lt (fpl b hb))
 have t7:∀ b∈acc :: fp,b∉frs X.stack:=fun b hb hm=>by
  obtain ⟨_,g1,g2,_⟩:=xF b hb;exact (List.mem_cons.mp (I2.vI b hm)).elim g1 g2
 let Y:Cx:=Yx X scope cl (x :: cns) h3.objs.size { s2 with heap:=h3 } H2 (acc :: fp) (X.pn ++ pins)
 have cellsOf:∀ y c,cl.lookup y=some c→X.env.cells.lookup y=some c:=fun y c e=>hcl.get e;have vo:∀ y k,Y.env.kindOf y=some k→(k=.cell∨k=.free)→∃ c,cl.lookup y=some c:=fun y k e hk=>by
  have e0:(scope.names.lookup y).map (uh X.env y)=some k:=jL.symm.trans e;obtain ⟨k0,e1,e2⟩:=Option.map_eq_some_iff.mp e0;have e3:=lookup_all hfree e1;have e4:=lookup_all hcell e1
  by_cases hf:k0=.free
  ·subst hf;rw [Bool.or_eq_true] at e3;rcases e3 with e3 | e3
   ·exact absurd rfl (bne_iff_ne.mp e3)
   ·exact Option.isSome_iff_exists.mp e3
  ·exfalso
   have e5:uh X.env y k0=k0:=by
    unfold uh;rw [if_neg];intro z;rw [Bool.and_eq_true,Bool.and_eq_true] at z;exact hf (beq_iff_eq.mp z.1.1)
   rw [e5] at e2;subst e2;rcases hk with rfl | rfl
   ·simp at e4
   ·exact hf rfl
 have okY:Y.Ok:={
  mod:=I2.ok.mod
  kind:=hkind
  glob:=I2.ok.glob
  blt:=I2.ok.blt
  above:=Nat.le_refl _
  inj:=fun a b c e1 e2=>I2.ok.inj a b c (cellsOf _ _ e1) (cellsOf _ _ e2)
  has:=fun y hy=>hy.elim (fun e=>vo y _ e (.inl rfl)) (fun e=>vo y _ e (.inr rfl))
  cab:=fun y c e=>nomatch e
  hd:=I2.ok.hd
  frames:=I2.ok.frames
  stk:=.inl rfl
  exf:=fun b hb=>⟨exC b hb,fun y c e=>(xF b hb).2.2.2.2.1 y c (cellsOf _ _ e)⟩
  bs:=fun b o e=>⟨tK b o (I2.bs b o e).1,(I2.bs b o e).2⟩
  Zj:=by
   show X.base.objs.size≤h3.objs.size;rw [hC,← hacc];exact Nat.le_succ_of_le (Nat.le_trans I2.ok.Zj I2.sz)
  Mv:=fun b o e hb=>by
   rcases (xF b hb).2.2.2.1 with z | z
   ·exact I2.ok.Mv b o e z
   ·exact absurd (Nat.lt_of_lt_of_le (Heap.lt_size e) (Nat.le_trans I2.ok.Zj z)) (Nat.lt_irrefl _)
  Yw:=t7
  wL:=I3.stack
  frf:=I3.Fw }
 have Zli:(none :: caps.map (pick σ):L2.St).length=(x :: cns).length:=by rw [List.length_cons,List.length_cons,bu,hcap.len]
 have I4:Inv Y [] (none :: caps.map (pick σ)) H2 { s2 with heap:=h₁,toks:=s2.toks + ([]:List (Str×Value)).length }:={
  ok:=okY
  os:=rfl
  bare:=I2.bare
  base:=Un.kept Es
  loc:=by
   refine ⟨_,hns₁,fun i y v e1 e2 e3=>?_⟩;cases i with
   | zero=>simp at e2
   | succ i=>
    obtain ⟨j,j1,j2,j3⟩:=hcap.get (σ:=σ) (i:=i) (x:=y) (v:=v) (by have e1':(x :: cns)[i + 1]? =some y:=e1;simpa using e1') (by simpa using e2);obtain ⟨m,hn,hl⟩:=I2.loc;obtain ⟨u,r,l⟩:=hl j y v j1 j3 (.inr (.inl j2));rcases l with ⟨l,_⟩ | ⟨_,c,l1,l2⟩
    ·rw [j2] at l;cases l
    ·refine ⟨u,r,.inr ?_⟩;rcases e3 with e3 | e3 | e3
     ·exfalso
      have hm:y∈cns:=List.mem_of_getElem? (show cns[i]? =some y by have e1':(x :: cns)[i + 1]? =some y:=e1;simpa using e1');have hl:scope.names.lookup y=some .free:=beq_iff_eq.mp (List.all_eq_true.mp hcf y hm);have e0:(scope.names.lookup y).map (uh X.env y)=some .local:=jL.symm.trans e3;rw [hl] at e0;have e5:uh X.env y .free=.local:=Option.some.inj e0;unfold uh at e5;split at e5<;>cases e5
     ·obtain ⟨c',hc'⟩:=vo y _ e3 (.inl rfl);have:=cellsOf _ _ hc';rw [l1] at this;cases this;exact ⟨.inl e3,c,hc',l2.keeps fun b o e=>Es _ _ (tK _ _ e)⟩
     ·obtain ⟨c',hc'⟩:=vo y _ e3 (.inr rfl);have:=cellsOf _ _ hc';rw [l1] at this;cases this;exact ⟨.inr e3,c,hc',l2.keeps fun b o e=>Es _ _ (tK _ _ e)⟩
  cell:=fun y c e=>by
   obtain ⟨v,z⟩:=I2.cell y c (cellsOf _ _ e);exact ⟨v,z.keeps fun b o e=>Es _ _ (tK _ _ e)⟩
  free:=I2.hok.fresh (by rw [hacc];show acc≤h3.objs.size;rw [hC];exact Nat.le_succ _)
  pO:=fun y c e=>I2.pO y c (cellsOf _ _ e)
  pin:=fun p hp=>by
   have hp2:p∈(X.pn ++ pins) ++ []:=hp;have hp':p∈X.pn ++ pins:=by rw [List.append_nil] at hp2;exact hp2
   obtain ⟨p1,p2,p3,p4,p5⟩:=I2.pin p hp';refine ⟨Es _ _ (tK _ _ p1),p2,?_,fun hm=>(List.mem_cons.mp (I2.vI _ hm)).elim p3 p4,p5⟩;exact Nat.ne_of_lt (by show p.1 < h3.objs.size;exact Heap.lt_size (tK _ _ p1))
  hok:=I2.hok.kept fun b u e=>Es _ _ (tK _ _ e)
  len:=Zli }
 have fpY:∀ {H':Hp}{pl:List (Addr×Obj)}{b:Addr},b∈acc :: fp→H' b=none→(∀ p∈pl,p.1≠b)→nM Y pl H' b:=fun {H' pl b} hb hn hp=>
  ⟨hn,exC b hb,t7 b hb,.inl hb,fun y c e=>(xF b hb).2.2.2.2.1 y c (cellsOf _ _ e),fun p hm=>(List.mem_append.mp hm).elim (fun z=>(xF b hb).2.2.2.2.2 p z) (hp p)⟩
 have fin:∀ {σ':L2.St}{H':Hp}{s':Shared}{ys:List V}{its:List Value}{kk:Nat}{pl:List (Addr×Obj)},Inv Y pl σ' H' s'→H' acc=none→Vals ys its→ys.length≤sizeLine→
   s'.heap.get? acc=some { cls:=.type "list",data:=.seq its.toArray kk }→(∀ p,H' p=none→Q (.ref p) (upd H' p (.lst ys)))→
   ∀ h',Heap.SameBut h3.objs.size s'.heap h'→EP X pins σ (fun v Hf=>Q v Hf∧Hf h3.objs.size=none) (.ref acc) { s' with heap:=h' }:=fun {σ' H' s' ys its kk pl} J ha hv hz ho hq h' hs'=>by
  have Zig:acc≠h3.objs.size:=exC acc (List.mem_cons_self);have rD:∀ b o,b≠h3.objs.size→s'.heap.get? b=some o→h'.get? b=some o:=fun b o hb e=>hs'.extBut b o hb e;have ltC:∀ b o,s2.heap.get? b=some o→b≠h3.objs.size:=fun b o e=>Nat.ne_of_lt (Heap.lt_size (tK b o e));have yZ:H' h3.objs.size=none:=J.free;have un:Un (frs X.stack) (acc :: fp) H2 H' s2.heap h':={
   keep:=fun b o e n hb hx=>rD b o (ltC b o e) (J.base.keep b o (tK b o e) n hb hx)
   slot:=fun b o e n hb hx=>by
    obtain ⟨sl,q⟩:=J.base.slot b o (tK b o e) n hb hx;exact ⟨sl,rD b _ (ltC b o e) q⟩
   free:=fun b o e n hx=>J.base.free b o (tK b o e) n hx
   there:=fun b o e hx=>by
    obtain ⟨o',q⟩:=J.base.there b o (tK b o e) hx;exact ⟨o',rD b o' (ltC b o e) q⟩
   tups:=J.base.tups
   BL:=J.base.BL
   CQ:=J.base.CQ }
  have hok:zM X.prog X.w H' h':=fun b u e=>by
   refine (J.hok b u e).stay (fun c v hc q=>rD c v ?_ q) (fun _ q=>q) fun _ _ q=>q;rintro rfl;rcases hc with rfl | hc
   ·rw [yZ] at e;cases e
   ·rw [yZ] at hc;cases hc
  have I5:Inv X pins σ H' { s' with heap:=h' }:=I2.call' (ch:=acc :: fp) J.os un hok J.bare fun b hb=>by
   obtain ⟨g0,g1,g2,g3,g4,g5⟩:=xF b hb;exact ⟨g3,g1,g4,g5⟩
  refine ⟨.ref acc,_,adopt (acc:=acc) I5 ?_ (rD _ _ Zig ho) hv hz,rfl,hq acc ha,by rw [aB Zig.symm];exact yZ⟩;obtain ⟨g0,g1,g2,g3,g4,g5⟩:=Qw;exact ⟨ha,g1,g2,g3,g4,g5⟩
 have loop:codeAny (model X.prog X.w) X.A (.compLoop (.ListComp elt [⟨.Name x px,iter,ifs,0⟩] scope pos) 0 (.ref it) (.ref acc) Y.env) (compPost (model X.prog X.w) X.A X.xe (some fun v=>assignAll v ((assignEach [.Name z pz] X.env).map (·.2))) (fun _ s'=>SP X pins D .next s') (.ref acc) h3.objs.size)
   { s2 with heap:=h₁,toks:=s2.toks + ([]:List (Str×Value)).length }:=by
  refine BW (fun n s'=>∃ (i:Nat) (v:Option V) (ys:List V) (its:List Value) (kk:Nat) (H':Hp),Inv Y [] (v :: caps.map (pick σ)) H' s'∧tn i s'.heap∧(∀ b∈fp,H' b=none)∧H' acc=none∧Vals ys its∧ys.length≤sizeLine∧
   s'.heap.get? acc=some { cls:=.type "list",data:=.seq its.toArray kk }∧W i n ys H') ?_ m0 ⟨0,none,[],[],0,H2,I4,T.keep _ _ _ st2 (fun b _ o e=>Es _ _ (tK _ _ e)),fun b hb=>(f2 b hb).1,Qw.1,.nil,Nat.zero_le _,Es _ _ Zkm,w0⟩
  rintro n s5 ⟨i,v,ys,its,kk,H5,I5,st5,fr5,ha5,hv5,hz5,ho5,w5⟩;have ZP:Inv Y [(acc,{ cls:=.type "list",data:=.seq its.toArray kk })] (v :: caps.map (pick σ)) H5 s5:=I5.nT fun p hp=>by
   have e:p=(acc,{ cls:=.type "list",data:=.seq its.toArray kk }):=by simpa using hp
   subst e;exact ⟨ho5,ha5,exC acc List.mem_cons_self,t7 acc List.mem_cons_self,fun v=>by intro z;cases z⟩
  have fpA:∀ {H':Hp},(∀ b∈fp,H' b=none)→∀ b∈fp,nM Y [(acc,{ cls:=.type "list",data:=.seq its.toArray kk })] H' b:=fun hn b hb=>fpY (List.mem_cons_of_mem _ hb) (hn b hb) fun p hp=>by
   have e:p=(acc,{ cls:=.type "list",data:=.seq its.toArray kk }):=by simpa using hp
   subst e;exact (Nat.ne_of_lt (fpl b hb)).symm
  rcases turn i n ys H5 w5 with ⟨stop,qn⟩ | ⟨go,hlt,step⟩
  ·refine gM (T.done Y rfl rfl rfl hc i _ s5 _ H5 (fun _ _=>False) ZP (fpA fr5) st5 stop) fun r s6 ⟨hr,I6⟩=>?_;subst hr;obtain ⟨m,hm,_⟩:=I6.loc;have ho6:=(I6.pin (acc,{ cls:=.type "list",data:=.seq its.toArray kk }) (List.mem_append_right _ List.mem_cons_self)).1;obtain ⟨v,Hf,If,rf,qf,hfC⟩:=fin I6 ha5 hv5 hz5 ho6 qn s6.heap (Heap.SameBut.refl _ _);have fC:nM X pins Hf h3.objs.size:=I2.Yb (by rw [hC,hacc];exact Nat.le_succ _) hfC;obtain ⟨oC,esC,epC,gC,dC,kC,nC⟩:=hm;have Ip:Inv X (pins ++ [(h3.objs.size,oC)]) σ Hf s6:=Inv.nT If fun p hp=>by
    rcases List.mem_append.mp hp with hp | hp
    ·exact If.pin p (List.mem_append_right _ hp)
    ·rw [List.mem_singleton.mp hp];exact ⟨gC,fC.1,fC.2.1,fC.2.2.1,fun v z=>by rw [dC] at z;cases z⟩
   show wpAny _ _ (assign (.Name z pz) X.env (.ref acc)) _ _ _;refine wpAny_assign_Name (Fv Ip hN hiz hz rf (fun s7 I7=>?_) hfz);have g7:=(I7.pin (h3.objs.size,oC) (List.mem_append_right _ (List.mem_append_right _ List.mem_cons_self))).1;refine ⟨m,⟨oC,esC,epC,g7,dC,kC,nC⟩,fun h' hs'=>?_⟩;have I8:=I7.Fp;have qf:D.nx (σ.set iz (some v)) Hf:=by rw [← hQ] at qf;exact qf
   have kb:∀ b o,b≠h3.objs.size→s7.heap.get? b=some o→h'.get? b=some o:=fun b o hb e=>hs'.extBut b o hb e;refine ⟨_,Hf,I8.step (ch:=[h3.objs.size]) (fun b hb=>?_) (fun b o _ _ hb e _=>kb b o (fun z=>hb (by rw [z];exact List.mem_cons_self)) e) (fun b o _ _ hb e _=>⟨o.slots,kb b o (fun z=>hb (by rw [z];exact List.mem_cons_self)) e⟩) (fun _ _ _ _ h=>h) (fun b o hb e=>⟨o,kb b o (fun z=>hb (by rw [z];exact List.mem_cons_self)) e⟩) (fun _ _ h=>h) (fun _ _ _ h=>h) (fun _ ps h=>⟨#[],by simpa using h⟩) (fun m' hm'=>?_) (fun b u e=>?_) I8.bare,qf⟩
   ·rw [List.mem_singleton.mp hb];exact ⟨fC.2.2.2.1,fC.2.1,fC.2.2.2.2.1,fC.2.2.2.2.2⟩
   ·obtain ⟨o',e1,e2,e3,e4,e5⟩:=hm';exact ⟨o',e1,e2,kb _ _ fC.2.1.symm e3,e4,e5⟩
   ·refine (I8.hok b u e).stay (fun c w' hc q=>kb c w' ?_ q) (fun _ q=>q) fun _ _ q=>q;rintro rfl;rcases hc with rfl | hc
    ·rw [hfC] at e;cases e
    ·rw [hfC] at hc;cases hc
  ·refine gM (T.item Y rfl rfl rfl hc i _ s5 _ H5 (fun _ _=>False) ZP (fpA fr5) st5 go) fun r s6 ⟨u,hr,h6⟩=>?_;subst hr;refine gM h6 fun _ s7 ⟨z,H7,I7,r7,y7,st7,fr7⟩=>?_;have I7':=I7.pinned (fpA fr7) (T.obj _ _ st7);have pg:PG Y (.Name x px) (aN 0):=ji hnd rfl (.inl (lookup_relabel_local hx)) (.inr (lookup_relabel_local hx));refine gM (pg _ s7 _ H7 z u (fun σ2 H2'=>σ2=some z :: caps.map (pick σ)∧H2'=H7) I7' r7 ⟨rfl,rfl⟩) fun _ s8 ⟨σ8,H8,I8,e8,e8'⟩=>?_;subst e8 e8';refine gM (hf _ _ _ _ _ _ s8 _ H8 _ I8 (step z H8 y7)) fun ok s9 ⟨H9,I9,q9⟩=>?_;have stat:∀ {H':Hp}{s':Shared}{σ':L2.St},Inv Y ([(acc,{ cls:=.type "list",data:=.seq its.toArray kk })] ++ qw fp s7.heap) σ' H' s'→tn (i + 1) s'.heap∧(∀ b∈fp,H' b=none)∧H' acc=none∧s'.heap.get? acc=some { cls:=.type "list",data:=.seq its.toArray kk }:=fun {H' s' σ'} J=>by
    have pa:=J.pin (acc,{ cls:=.type "list",data:=.seq its.toArray kk }) (List.mem_append_right _ (List.mem_append_left _ List.mem_cons_self));refine ⟨T.keep _ _ _ st7 fun b hb o e=>(J.pin (b,o) (List.mem_append_right _ (List.mem_append_right _ (jJ hb e)))).1,fun b hb=>?_,pa.2.1,pa.1⟩;obtain ⟨o,e,d⟩:=T.obj _ _ st7 b hb;exact (J.pin (b,o) (List.mem_append_right _ (List.mem_append_right _ (jJ hb e)))).2.1
   have KZ:∀ {H':Hp}{s':Shared}{σ':L2.St}{pl:List (Addr×Obj)},Inv Y pl σ' H' s'→Inv Y [] σ' H' s':=fun J=>J.nT fun p hp=>nomatch hp;cases ok with
   | false=>
    obtain ⟨m',hm,w9⟩:=q9;obtain ⟨t1,t2,t3,t4⟩:=stat I9;exact ⟨m',hm,i + 1,some z,ys,its,kk,H9,KZ I9,t1,t2,t3,hv5,hz5,t4,w9⟩
   | true=>
    show wpAny _ _ (eval elt Y.env) _ _ s9;refine gM (he _ _ _ _ _ _ s9 _ H9 _ I9 q9) fun y s10 ⟨yv,H10,I10,r10,m',hm,w10⟩=>?_;obtain ⟨t1,t2,t3,t4⟩:=stat I10;have Zn3:Inv Y (qw fp s7.heap) (some z :: caps.map (pick σ)) H10 s10:=I10.nT fun p hp=>I10.pin p (List.mem_append_right _ (List.mem_append_right _ hp));have fA:nM Y (qw fp s7.heap) H10 acc:=fpY List.mem_cons_self t3 fun p hp=>Nat.ne_of_lt (fpl _ (Cw hp).1);have Ja:=adopt Zn3 fA t4 hv5 hz5;refine gM (m5 (X:=Y) _ s10 _ _ (.ref acc) [yv] (.ref acc) [y] (fun _ H'=>H'=upd (upd H10 acc (.lst ys)) acc (.lst (ys ++ [yv]))) Ja rfl (.cons r10 .nil) ⟨acc,ys,yv,rfl,rfl,aq,hlt,rfl⟩) fun _ s11 ⟨_,H11,I11,_,e11⟩=>?_;rw [dY] at e11;subst e11;obtain ⟨Zm0,its',kk',Zm1,Zm2⟩:=I11.hok acc _ aq;have Jd:=disown I11 fA;have Zjg:tn (i + 1) s11.heap:=T.keep _ _ _ st7 fun b hb o e=>(Jd.pin (b,o) (List.mem_append_right _ (jJ hb e))).1;exact ⟨m',hm,i + 1,some z,ys ++ [yv],its',kk',H10,KZ Jd,Zjg,t2,t3,Zm1,Zm0,Zm2,w10⟩
 exact codeAny_compStart_list loop (T.self X.A 0 _ _ _ (T.keep _ _ _ st2 (fun b _ o e=>Es _ _ (tK _ _ e))) loop)
end G
namespace G
open PySem L2 PySem.Spec PyProof.Rows
end G
namespace G
open PySem L2
def Ite (K:aC) (a:Addr):It:=
 ⟨fun i H=>∃ xs x,cU K H a xs∧xs[i]? =some x,fun i H x H'=>∃ t v,x=.ref t∧H t=none∧H'=upd H t (.tup [.int i,v])∧∀ xs,cU K H a xs→xs[i]? =some v,fun i H=>∃ xs,cU K H a xs∧xs.length≤i⟩
def Zax (K:aC) (ta:TA):TI:=fun σ H R=>ta σ H fun vs H1=>∃ a,vs=[.ref a]∧(∃ xs,cU K H1 a xs)∧R (Ite K a) H1
theorem Zwi {K:aC}{ta:TA}{σ:L2.St}{H:Hp}{R:It→Hp→Prop} (h:ta σ H fun vs H1=>∃ a,vs=[.ref a]∧(∃ xs,cU K H1 a xs)∧R (Ite K a) H1):Zax K ta σ H R:=h
def JV (v d:Addr):HO:=.ext fun h=>h.IsItemsView v d
def Zc4 (td:TE):TE:=fun σ H Q=>td σ H fun x H1=>∃ a kvs,x=.ref a∧Rd H1 a (.dK kvs)∧∀ v,H1 v=none→Q (.ref v) (upd H1 v (JV v a))
theorem Zpj {td:TE}{σ:L2.St}{H:Hp}{Q:VK} (h:td σ H fun x H1=>∃ a kvs,x=.ref a∧Rd H1 a (.dK kvs)∧∀ v,H1 v=none→Q (.ref v) (upd H1 v (JV v a))):Zc4 td σ H Q:=h
def Zbm (H:Hp):List Addr→List (Key×V)→Prop
 | [],[]=>True
 | t :: ts,kv :: kvs=>H t=some (.tup [kV kv.1,kv.2])∧Zbm H ts kvs
 | _,_=>False
def Zfc:List V→Hp→VK→Prop:=fun xs H Q=>∃ v a kvs,xs=[.ref v]∧H v=some (JV v a)∧Rd H a (.dK kvs)∧∀ l ts H',H l=none→aY H H'→H' l=some (.lst (ts.map V.ref))→Zbm H' ts kvs→Q (.ref l) H'
theorem Zph {H:Hp}{Q:VK}{v a:Addr}{kvs:List (Key×V)} (h1:H v=some (JV v a)) (h2:Rd H a (.dK kvs)) (h:∀ l ts H',H l=none→aY H H'→H' l=some (.lst (ts.map V.ref))→Zbm H' ts kvs→Q (.ref l) H'):Zfc [.ref v] H Q:=⟨v,a,kvs,rfl,h1,h2,h⟩
def Zpw (kvs:List (Key×V)):V→Option Bool
 | .int i=>some (rK kvs (.inl i)).isSome
 | .str x=>some (rK kvs (.inr x)).isSome
 | .non=>some false
 | _=>none
def Zjd (neg:Bool) (ty td:TE):TE:=fun σ H Q=>ty σ H fun y H1=>td σ H1 fun x H2=>∃ a kvs b,x=.ref a∧Rd H2 a (.dK kvs)∧Zpw kvs y=some b∧Q (.bl (if neg then !b else b)) H2
theorem Zt1 {neg:Bool}{ty td:TE}{σ:L2.St}{H:Hp}{Q:VK} (h:ty σ H fun y H1=>td σ H1 fun x H2=>∃ a kvs b,x=.ref a∧Rd H2 a (.dK kvs)∧Zpw kvs y=some b∧Q (.bl (if neg then !b else b)) H2):Zjd neg ty td σ H Q:=h
section
variable {K:aC}{a:Addr}{g:TG}{tb:TS}{σ:L2.St}{H:Hp}{n:L2.St→Hp→Prop}{r:VK}
theorem Zva (xs:List V) (Pv:Nat→L2.St→Hp→Prop) (h0:Pv 0 σ H) (hl:∀ i σ H,i≤xs.length→Pv i σ H→cU K H a xs)
  (hs:∀ i x t σ H,xs[i]? =some x→Pv i σ H→H t=none→g (.ref t) σ (upd H t (.tup [.int i,x])) fun σ2 H2=>tb ⟨Pv (i + 1),r,n,Pv (i + 1)⟩ σ2 H2) (hd:∀ σ H,Pv xs.length σ H→n σ H):
  ∃ W:Nat→Nat→L2.St→Hp→Prop,(∃ m,W 0 m σ H)∧∀ i m σ H,W i m σ H→
   ((Ite K a).stop i H∧n σ H)∨((Ite K a).go i H∧∃ N:L2.St→Hp→Prop,(∀ σ' H',N σ' H'→∃ m',m' < m∧W (i + 1) m' σ' H')∧∀ x H',(Ite K a).yld i H x H'→g x σ H' fun σ2 H2=>tb ⟨N,r,n,N⟩ σ2 H2):=by
 refine ⟨fun i m σ H=>i≤xs.length∧m=xs.length - i∧Pv i σ H,⟨xs.length,Nat.zero_le _,rfl,h0⟩,?_⟩;rintro i m σ H ⟨hi,rfl,p⟩;have hq:=hl i σ H hi p
 by_cases hk:i=xs.length
 ·subst hk;exact .inl ⟨⟨xs,hq,Nat.le_refl _⟩,hd σ H p⟩
 ·have hlt:i < xs.length:=by omega
  have hx:xs[i]? =some xs[i]:=cj hlt;refine .inr ⟨⟨xs,_,hq,hx⟩,Pv (i + 1),fun σ' H' p'=>⟨xs.length - (i + 1),by omega,by omega,rfl,p'⟩,?_⟩;rintro x H' ⟨t,v,rfl,ht,rfl,hv⟩;exact hs i v t σ H (hv xs hq) p ht
theorem Zp2 {caps:List Nat}{tc:TT}{te:TE}{Q:VK}{xs:List V} (hs:cU K H a xs) (hz:xs.length≤1000000) (W:Nat→List V→Hp→Prop) (h0:W 0 [] H) (hst:∀ i ys H1,W i ys H1→aY H H1∧ys.length≤i)
  (step:∀ i x ys H1 t (C:List V→Hp→Prop),(∀ zs H3,W (i + 1) zs H3→C zs H3)→xs[i]? =some x→W i ys H1→H1 t=none→tc (some (.int i) :: some x :: caps.map (pick σ)) (upd H1 t (.tup [.int i,x])) fun k H2=>if k=true then te (some (.int i) :: some x :: caps.map (pick σ)) H2 (fun y H3=>C (ys ++ [y]) H3) else C ys H2)
  (q:∀ ys H1,W xs.length ys H1→∀ p,H1 p=none→Q (.ref p) (upd H1 p (.lst ys))):Zqi K (Ite K a) caps tc te σ H Q:=by
 refine ⟨fun i m ys H1=>i≤xs.length∧m=xs.length - i∧W i ys H1,⟨xs.length,Nat.zero_le _,rfl,h0⟩,?_⟩;rintro i m ys H1 ⟨hi,rfl,w⟩;obtain ⟨sm,hl⟩:=hst i ys H1 w;have hq:cU K H1 a xs:=sm.seq hs
 by_cases hk:i=xs.length
 ·subst hk;exact .inl ⟨⟨xs,hq,Nat.le_refl _⟩,q ys H1 w⟩
 ·have hlt:i < xs.length:=by omega
  refine .inr ⟨⟨xs,_,hq,cj hlt⟩,Nat.lt_of_le_of_lt (show ys.length≤1000000 by omega) (show 1000000 < sizeLine by decide),?_⟩;rintro x H' ⟨t,v,rfl,ht,rfl,hv⟩;exact ⟨t,_,_,rfl,gU.of aq,step i v ys H1 t (fun zs H3=>∃ m',m' < xs.length - i∧i + 1≤xs.length∧m'=xs.length - (i + 1)∧W (i + 1) zs H3) (fun zs H3 w'=>⟨xs.length - (i + 1),by omega,by omega,rfl,w'⟩) (hv xs hq) w ht⟩
end
end G
namespace G
open PySem L2 PySem.Spec PyProof.Rows
theorem Zhw {X:Cx}{pins:List (Addr×Obj)}{σ:L2.St}{H:Hp}{s:Shared}{h':Heap}{t':Nat}{e it:Addr} (I:Inv X pins σ H s) (k:∀ b u,b≠e→b≠it→s.heap.get? b=some u→h'.get? b=some u) (fe:nM X pins H e) (fi:nM X pins H it):
  Inv X pins σ H { s with heap:=h',toks:=t' }:=by
 have ne:∀ b u,H b=some u→b≠e:=fun b u q z=>by rw [z,fe.1] at q;cases q
 have ni:∀ b u,H b=some u→b≠it:=fun b u q z=>by rw [z,fi.1] at q;cases q
 have nm:∀ b,b∉[e,it]→b≠e∧b≠it:=fun b hb=>⟨fun z=>hb (by simp [z]),fun z=>hb (by simp [z])⟩;refine I.step (g':=s.gens) (d':=s.drawn) (ch:=[e,it]) (fun b hb=>?_) (fun b o _ _ hc q _=>k b o (nm b hc).1 (nm b hc).2 q) (fun b o _ _ hc q _=>⟨o.slots,k b o (nm b hc).1 (nm b hc).2 q⟩) (fun _ _ _ _ n=>n)
  (fun b o hc q=>⟨o,k b o (nm b hc).1 (nm b hc).2 q⟩) (fun _ _ q=>q) (fun _ _ _ q=>q) (fun b ps q=>⟨#[],by rw [q];simp⟩) (fun m hm=>?_) (fun b u q=>?_) I.bare
 ·rcases List.mem_cons.mp hb with z | z
  ·rw [z];exact ⟨fe.2.2.2.1,fe.2.1,fe.2.2.2.2.1,fe.2.2.2.2.2⟩
  ·have z':b=it:=by simpa using z
   rw [z'];exact ⟨fi.2.2.2.1,fi.2.1,fi.2.2.2.2.1,fi.2.2.2.2.2⟩
 ·obtain ⟨o,es,ep,ho,r⟩:=hm;exact ⟨o,es,ep,k _ o (Ne.symm fe.2.1) (Ne.symm fi.2.1) ho,r⟩
 ·refine (I.hok b u q).stay (fun c v hc z=>?_) (fun _ z=>z) fun _ _ z=>z;rcases hc with y | y
  ·rw [y] at z ⊢;exact k b v (ne b u q) (ni b u q) z
  ·exact k c v (ne c _ y) (ni c _ y) z
theorem Qj {X:Cx}{pins:List (Addr×Obj)}{σ:L2.St}{H:Hp}{s:Shared}{h':Heap}{t':Nat}{e it a:Addr}{o:HO} (I:Inv X pins σ H s) (k:∀ b u,b≠e→b≠it→s.heap.get? b=some u→h'.get? b=some u) (fe:nM X pins H e) (fi:nM X pins H it)
  (ha:s.heap.objs.size≤a) (new:jO X.prog X.w (upd H a o) h' a o):Inv X pins σ (upd H a o) { s with heap:=h',toks:=t' }:=by
 have hn:=I.hok.fresh ha;have ne:∀ b u,H b=some u→b≠e:=fun b u q z=>by rw [z,fe.1] at q;cases q
 have ni:∀ b u,H b=some u→b≠it:=fun b u q z=>by rw [z,fi.1] at q;cases q
 have nm:∀ b,b∉[e,it]→b≠e∧b≠it:=fun b hb=>⟨fun z=>hb (by simp [z]),fun z=>hb (by simp [z])⟩;have na:∀ b u,s.heap.get? b=some u→b≠a:=fun b u q=>Nat.ne_of_lt (Nat.lt_of_lt_of_le (Heap.lt_size q) ha);refine I.step (g':=s.gens) (d':=s.drawn) (ch:=[e,it]) (fun b hb=>?_) (fun b o _ _ hc q _=>k b o (nm b hc).1 (nm b hc).2 q) (fun b o _ _ hc q _=>⟨o.slots,k b o (nm b hc).1 (nm b hc).2 q⟩) (fun b u _ q n=>(aB (na b u q)).trans n)
  (fun b o hc q=>⟨o,k b o (nm b hc).1 (nm b hc).2 q⟩) (fun b xs q=>(aB (aD q hn)).trans q) (fun b o xs q=>(aB (aD q hn)).trans q) (fun b ps q=>⟨#[],by rw [aB (aD q hn),q];simp⟩) (fun m hm=>?_) (fun b u q=>?_) I.bare
 ·rcases List.mem_cons.mp hb with z | z
  ·rw [z];exact ⟨fe.2.2.2.1,fe.2.1,fe.2.2.2.2.1,fe.2.2.2.2.2⟩
  ·have z':b=it:=by simpa using z
   rw [z'];exact ⟨fi.2.2.2.1,fi.2.1,fi.2.2.2.2.1,fi.2.2.2.2.2⟩
 ·obtain ⟨o,es,ep,ho,r⟩:=hm;exact ⟨o,es,ep,k _ o (Ne.symm fe.2.1) (Ne.symm fi.2.1) ho,r⟩
 ·by_cases hb:b=a
  ·subst hb;rw [aq] at q;cases q;exact new
  ·rw [aB hb] at q;refine (I.hok b u q).stay (fun c v hc z=>?_) (fun c z=>by rw [aB (aD z hn)];exact z) fun c xs z=>by rw [aB (aD z hn)];exact z
   rcases hc with y | y
   ·rw [y] at z ⊢;exact k b v (ne b u q) (ni b u q) z
   ·exact k c v (ne c _ y) (ni c _ y) z
theorem Zgp {P:Program}{w:World}{K:aC}{elts:List Expr}{x1:Nat}{pt:Pos} (a e it:Addr) (hne:e≠it):
    Turn P w K (.Tuple elts x1 pt) (Ite K a) [e,it] e (fun i h=>(∃ old,IsEnum h e it ((i:Nat):Int) old)∧h.IsListIter it a i) where
  mem:=by simp
  obj:=fun i h st b hb=>by
    obtain ⟨⟨old,he⟩,o,ho,c,d⟩:=st;rcases List.mem_cons.mp hb with z | z
    · rw [z];exact ⟨_,he,fun v z=>by cases z⟩
    · have z':b=it:=by simpa using z
      rw [z'];exact ⟨o,ho,fun v z=>by rw [d] at z;cases z⟩
  keep:=fun i h h' st k=>⟨let ⟨old,he⟩:=st.1;⟨old,k e (by simp) _ he⟩,st.2.at fun o q=>k it (by simp) o q⟩
  item:=by
    intro X hP hw hK hc i pins s σ H E I hf st hg;subst hP hw hK;obtain ⟨xs,x,hq,hx⟩:=hg;obtain ⟨its,rv,p,hz⟩:=I.list hq;obtain ⟨u,hu,ru⟩:=rv.get hx;obtain ⟨⟨old,he⟩,hit⟩:=st;have fe:=hf e (by simp);have fi:=hf it (by simp);have hes:e < s.heap.objs.size:=Heap.lt_size he;have his:it < s.heap.objs.size:=by obtain ⟨o,q,_⟩:=hit;exact Heap.lt_size q
    refine wpAny_pyNext_enum_item he hit p.isList (x:=u) (by simpa using hu) hne fun h1 ho1 hit1 ht1 hz1 hk1=>?_;refine ⟨_,rfl,wpAny_letOwnedTupleGo_enum (s:={ s with heap:=h1,toks:=s.toks + 1 }) ho1 fun h2 he2 hs2=>?_⟩
    replace hs2:Heap.SameBut e h1 h2:=hs2
    have hn:H s.heap.objs.size=none:=I.hok.fresh (Nat.le_refl _);have I2:Inv X pins σ (upd H s.heap.objs.size (.tup [.int ((i:Nat):Int),x])) { s with heap:=h2,toks:=s.toks + 1 }:=by
      refine Qj I (fun b v hb hb' q=>hs2.extBut b v hb (hk1 b v hb hb' q)) fe fi (Nat.le_refl _) ?_;refine ⟨by show 2≤sizeLine;decide,[.int ((i:Nat):Int) s.toks,u],.cons ⟨_,rfl⟩ (.cons ru .nil),⟨_,hs2.extBut _ _ (Nat.ne_of_gt hes) ht1,rfl,_,rfl⟩⟩
    refine ⟨.ref s.heap.objs.size,_,I2,rfl,⟨_,x,rfl,hn,rfl,fun ys hy=>by rw [I.Zad hy hq];exact hx⟩,⟨⟨u,?_⟩,hit1.extBut hs2.extBut (Ne.symm hne)⟩,fun b hb=>?_⟩
    · have e1:(((i + 1:Nat)):Int)=(i:Int) + 1:=by omega
      show IsEnum h2 e it (((i + 1:Nat)):Int) u;rw [e1];exact he2
    · rcases List.mem_cons.mp hb with z | z
      · rw [z,aB (Nat.ne_of_lt hes)];exact fe.1
      · have z':b=it:=by simpa using z
        rw [z',aB (Nat.ne_of_lt his)];exact fi.1
  done:=by
    intro X hP hw hK hc i pins s σ H E I hf st hg;subst hP hw hK;obtain ⟨xs,hq,hx⟩:=hg;obtain ⟨its,rv,p,hz⟩:=I.list hq;obtain ⟨⟨old,he⟩,hit⟩:=st;have hl:=rv.length;exact wpAny_pyNext_enum_end (I.ok.hd hc) he hit p.isList (by simp;omega) fun h' hx'=>⟨rfl,Zhw (t':=s.toks) I (fun b o _ hb' q=>hx' b o hb' q) (hf e (by simp)) (hf it (by simp))⟩
  self:=fun A i s Q E st h=>let ⟨_,he⟩:=st.1;wpAny_pyIter_enum he h
theorem Wx {X:Cx}{elts:List Expr}{x1:Nat}{pt:Pos}{l:Expr}{ta:TA}{p pos:Pos} (hg:Gl X "enumerate") (hm:X.mg "enumerate"=none) (ha:PA X [l] ta) (hs:starEach [l] X.env=[(false,eval l X.env)]:=by rfl):
  PI X (.Tuple elts x1 pt) (.Call (.Name "enumerate" p) [l] [] pos) (Zax X.K ta):=by
 intro pins s σ H R I h;refine Call_ (PL I hg hm boot_enumerate (PyProof.Rows.callWith_type1 (gM (ha pos pins s σ H _ I h) fun us s1 ⟨vs,H1,I1,r1,q1⟩=>?_) hs rfl));obtain ⟨a,e,⟨xs,hq⟩,q⟩:=q1;subst e;cases r1 with
 | cons r rr=>
  cases rr;obtain rfl:_=Value.ref a:=r;obtain ⟨its,rv,pl,hz⟩:=I1.list hq;refine call_enumerate_list pl.isList fun h' he hit hsz hk=>?_;have I2:Inv X pins σ H1 { s1 with heap:=h' }:=I1.kept (t':=s1.toks) hk
  refine wpAny_pyIter_enum (s:={ s1 with heap:=h' }) he ?_;have hf:∀ b,s1.heap.objs.size≤b→nM X pins H1 b:=fun b hb=>I1.Yb hb (I1.hok.fresh hb);refine ⟨_,[s1.heap.objs.size + 1,s1.heap.objs.size],_,_,H1,rfl,I2,Zgp a _ _ (Nat.succ_ne_self _),⟨⟨_,he⟩,hit⟩,fun b hb=>?_,q⟩;rcases List.mem_cons.mp hb with z | z
  ·rw [z];exact hf _ (Nat.le_succ _)
  ·have z':b=s1.heap.objs.size:=by simpa using z
   rw [z'];exact hf _ (Nat.le_refl _)
end G
namespace G
open PySem L2 PySem.Spec PyProof.Rows
theorem Zhx {X:Cx}{pins:List (Addr×Obj)}{σ:L2.St}{H:Hp}{s:Shared}{a:Addr}{o:HO} (I:Inv X pins σ H s) (f:nM X pins H a) (new:jO X.prog X.w (upd H a o) s.heap a o):Inv X pins σ (upd H a o) s:=by
 have hn:=f.1;have r:Inv X pins σ (upd H a o) { s with heap:=s.heap,gens:=s.gens,drawn:=s.drawn,toks:=s.toks }:=by
  refine I.step (g':=s.gens) (t':=s.toks) (d':=s.drawn) (ch:=[a]) (fun b hb=>?_) (fun b u _ _ _ q _=>q) (fun b u _ _ _ q _=>⟨u.slots,q⟩) (fun b u hc q n=>(aB (fun z=>hc (by simp [z]))).trans n) (fun b u _ q=>⟨u,q⟩)
   (fun b xs q=>(aB (aD q hn)).trans q) (fun b u xs q=>(aB (aD q hn)).trans q) (fun b ps q=>⟨#[],by rw [aB (aD q hn),q];simp⟩) (fun m hm=>hm) (fun b u q=>?_) I.bare
  ·have z:b=a:=by simpa using hb
   rw [z];exact ⟨f.2.2.2.1,f.2.1,f.2.2.2.2.1,f.2.2.2.2.2⟩
  ·by_cases hb:b=a
   ·subst hb;rw [aq] at q;cases q;exact new
   ·rw [aB hb] at q;exact (I.hok b u q).stay (fun c v _ z=>z) (fun c z=>by rw [aB (aD z hn)];exact z) fun c xs z=>by rw [aB (aD z hn)];exact z
 exact r
theorem Zem {X:Cx}{pins:List (Addr×Obj)}{H:Hp}{a b:Addr}{o:HO} (f:nM X pins H b) (h:b≠a):nM X pins (upd H a o) b:=⟨(aB h).trans f.1,f.2⟩
theorem Zum {P:Program}{w:World}{k:Key}{u:Value} (h:(d7 P w).is k u=true):RelV (kV k) u:=by
 rcases d9 h with ⟨i,t,rfl,rfl⟩ | ⟨x,t,rfl,rfl⟩
 ·exact ⟨t,rfl⟩
 ·exact ⟨t,rfl⟩
theorem Zkc {X:Cx}{o:Expr}{td:TE}{apos cpos:Pos} (ho:PE X o td) (hbase:attributeBase o "items" X.env (eval o X.env)=eval o X.env:=by rfl) (hline:(apos.endLine == cpos.line)=true:=by rfl):
  PE X (.Call (.Attribute o "items" apos) [] [] cpos) (Zc4 td):=by
 intro pins s σ H Q I h;refine wpAny_Call_method0_late hbase hline (gM (ho pins s σ H _ I h) fun u s1 ⟨x,H1,I1,rx,a,kvs,ex,rd,q⟩=>?_);subst ex;obtain rfl:u=Value.ref a:=rx;obtain ⟨t1,t2,hd⟩:=Zec I1 (.inl ⟨kvs,rd⟩);obtain ⟨z,_,vs,rel,dd⟩:=Dy I1.hok rd;refine ⟨"dict","dict.items",PySem.F.plainAttrs_dict,PySem.F.slot_dict_items,PySem.F.type_dict_items,t1,t2,Calls.callWith_builtin rfl (PySem.evalArgs_none ?_)⟩;refine call_meetsIn PySem.F.slot_dict_items t1 PySem.F.entry_dict_items (PySem.F.args_dict_items_1 _) (meets_dict_items (d7 X.prog X.w) a hd) ⟨⟨vs,dd⟩,?_⟩;have hn:=I1.hok.fresh (Nat.le_refl _);refine ⟨.ref s1.heap.objs.size,_,I1.laid (t':=s1.toks) (fun b u e=>Heap.get?_push_of_some _ e) (Nat.le_refl _) ?_,rfl,q _ hn⟩;exact ⟨⟨_,Heap.get?_push_size _ rfl,rfl,rfl⟩,⟨_,Heap.get?_push_size _ rfl⟩,fun h1 h2 ⟨o,ho,r⟩ k=>⟨o,k o ho,r⟩⟩
theorem KQ {X:Cx}{pins:List (Addr×Obj)}{σ:L2.St}{s:Shared}:∀ (as:List Addr) (kvs:List (Key×V)) (vs:List (Key×Value)) (H:Hp),Inv X pins σ H s→as.Nodup→(∀ a∈as,nM X pins H a)→as.length=kvs.length→KV kvs vs→
  (∀ (j:Nat) (a:Addr),as[j]? =some a→∃ key k x,vs[j]? =some (k,x)∧(d7 X.prog X.w).is k key=true∧s.heap.get? a=some { cls:=.type "tuple",data:=.seq #[key,x] })→
  ∃ H',Inv X pins σ H' s∧aY H H'∧Zbm H' as kvs
 | [],[],_,H,I,_,_,_,_,_=>⟨H,I,fun _ _ h=>h,trivial⟩
 | [],_ :: _,_,_,_,_,_,hl,_,_=>by simp at hl
 | _ :: _,[],_,_,_,_,_,hl,_,_=>by simp at hl
 | a :: as,kv :: kvs,vs,H,I,nd,fp,hl,r,pr=>by
  cases r with
  | cons rv rs=>
   rename_i q ws
   obtain ⟨key,k,x,e,hk,hg⟩:=pr 0 a rfl;have e':q=(k,x):=by simpa using e
   subst e';obtain ⟨rk,rx⟩:=rv;have fa:=fp a (by simp);have na:a∉as:=(List.nodup_cons.mp nd).1;have rk':kv.1=k:=rk;have I1:Inv X pins σ (L2.upd H a (.tup [kV kv.1,kv.2])) s:=Zhx I fa ⟨by show 2≤sizeLine;decide,[key,x],.cons (by rw [rk'];exact Zum hk) (.cons rx .nil),⟨_,hg,rfl,_,rfl⟩⟩;obtain ⟨H',I',sm,ps⟩:=KQ as kvs ws _ I1 (List.nodup_cons.mp nd).2 (fun b hb=>Zem (fp b (by simp [hb])) fun z=>na (z ▸ hb)) (by simpa using hl) rs (fun j b hb=>by simpa using pr (j + 1) b (by simpa using hb));refine ⟨H',I',fun b o hb=>sm b o ?_,sm _ _ aq,ps⟩;rw [aB (aD hb fa.1)];exact hb
theorem Ut:∀ as:List Addr,Vals (as.map V.ref) (as.map Value.ref)
 | []=>.nil
 | _ :: as=>.cons rfl (Ut as)
theorem Zfa {X:Cx} (hc:X.calm=true):HX X (.type "list") Zfc:=by
 intro pins s σ H xs us Q I r h;obtain ⟨v,a,kvs,rfl,hv,rd,q⟩:=h;obtain ⟨u,rfl,ru⟩:=Vals.one r;obtain rfl:u=Value.ref v:=ru;have hvw:s.heap.IsItemsView v a:=(show jO X.prog X.w H s.heap v (JV v a) from I.hok v _ hv).1;obtain ⟨z,hd,vs,rel,dd⟩:=Dy I.hok rd;obtain ⟨ep,hm⟩:=dd.dictAt;have hl:=rel.length;refine PySem.W.kdx_call (I.ok.hd hc) hvw hm (by rw [← hl];exact z) fun h' tk acc c as hk hS hal hG hacc=>?_;have hn:=I.hok.fresh (Nat.le_refl s.heap.objs.size);have I1:Inv X pins σ (upd H s.heap.objs.size (.lst (as.map V.ref))) { s with heap:=h',toks:=tk }:=by
  refine I.laid hk (Nat.le_refl _) ⟨by rw [bu,hal,← hl];exact z,acc.toList,c,by rw [hacc];exact Ut as,by rw [Array.toArray_toList];exact hS⟩
 have nd:as.Nodup:=hG.rise.imp fun h=>Nat.ne_of_lt h;obtain ⟨H',I',sm,ps⟩:=KQ as kvs vs _ I1 nd (fun b hb=>Zem (I.Yb (Nat.le_of_lt (hG.above b hb)) (I.hok.fresh (Nat.le_of_lt (hG.above b hb)))) (Nat.ne_of_gt (hG.above b hb))) (by rw [hal,hl]) rel (fun j b hb=>hG.pairs j b hb);refine ⟨.ref s.heap.objs.size,H',I',rfl,q _ as H' hn (fun b o hb=>sm b o ?_) (sm _ _ aq) ps⟩;rw [aB (aD hb hn)];exact hb
theorem Zmg {X:Cx}{pins:List (Addr×Obj)}{σ:L2.St}{H:Hp}{s:Shared}{a:Addr}{o:Obj}{kvs:List (Key×V)} (I:Inv X pins σ H s) (h:H a=some (.dK kvs)) (ho:s.heap.get? a=some o):Inv X pins σ (upd H a (.xO o (.dK kvs))) s:=by
 have ne:∀ b u,H b=some u→u≠.dK kvs→b≠a:=fun b u q n z=>n (by rw [z,h] at q;exact (Option.some.inj q).symm);have r:Inv X pins σ (upd H a (.xO o (.dK kvs))) { s with heap:=s.heap,gens:=s.gens,drawn:=s.drawn,toks:=s.toks }:=by
  refine I.step (g':=s.gens) (t':=s.toks) (d':=s.drawn) (ch:=[]) (fun b hb=>nomatch hb) (fun b u _ _ _ q _=>q) (fun b u _ _ _ q _=>⟨u.slots,q⟩) (fun b u hc q n=>(aB (fun z=>by rw [z,h] at n;cases n)).trans n) (fun b u _ q=>⟨u,q⟩)
   (fun b xs q=>(aB (ne b _ q (fun z=>by cases z))).trans q) (fun b u xs q=>(aB (ne b _ q (fun z=>by cases z))).trans q) (fun b ps q=>⟨#[],by rw [aB (ne b _ q (fun z=>by cases z)),q];simp⟩) (fun m hm=>hm) (fun b u q=>?_) I.bare
  have hs:∀ c u,H c=some u→u≠.dK kvs→upd H a (.xO o (.dK kvs)) c=some u:=fun c u z n=>by rw [aB (ne c u z n)];exact z
  by_cases hb:b=a
  ·subst hb;rw [aq] at q;cases q;exact ⟨ho,(I.hok b _ h).stay (fun c v _ z=>z) (fun c z=>hs c _ z (fun y=>by cases y)) fun c xs z=>hs c _ z (fun y=>by cases y)⟩
  ·rw [aB hb] at q;exact (I.hok b u q).stay (fun c v _ z=>z) (fun c z=>hs c _ z (fun y=>by cases y)) fun c xs z=>hs c _ z (fun y=>by cases y)
 exact r
def Zsf:Option Key→Value→Bool
 | none,.none=>true
 | none,_=>false
 | some k,v=>GP k v
theorem lU {k:Option Key}{v:Value} (h:Zsf k v=true):(k=none∧v=.none)∨∃ j,k=some j∧GP j v=true:=by
 cases k with
 | none=>cases v<;>first | exact .inl ⟨rfl,rfl⟩ | cases h
 | some j=>exact .inr ⟨j,rfl,h⟩
theorem Qa {j:Key} (h:GP j Value.none=true):False:=by
 rcases d9 h with ⟨i,t,_,e⟩ | ⟨x,t,_,e⟩<;>cases e
def Zs5 (P:Program) (w:World):PySem.KeyKind P w (Option Key) where
  is:=Zsf
  hash:=fun k=>match k with | none=>reduceHash 0xFCA86420 | some k=>Zul w k
  inj:=fun v a b ha hb=>by
    rcases lU ha with ⟨rfl,rfl⟩ | ⟨i,rfl,h1⟩
    · rcases lU hb with ⟨rfl,_⟩ | ⟨j,rfl,h2⟩
      · rfl
      · exact (Qa h2).elim
    · rcases lU hb with ⟨rfl,rfl⟩ | ⟨j,rfl,h2⟩
      · exact (Qa h1).elim
      · rw [(d7 P w).inj v i j h1 h2]
  byValue:=fun k v h=>by
    rcases lU h with ⟨rfl,rfl⟩ | ⟨i,rfl,h1⟩
    · rfl
    · exact (d7 P w).byValue i v h1
  pyHash:=fun {A E s k v Q} hv h=>by
    rcases lU hv with ⟨rfl,rfl⟩ | ⟨i,rfl,h1⟩
    · exact PySem.W.pyHash_slot (T:="NoneType") rfl F.slot_NoneType_hash F.entry_NoneType_hash (F.args_NoneType_hash_1 _) (beq_builtin_none _) (.inl rfl) (wpAny_bind (wpAny_pure (wpAny_bind (wpAny_mkInt (wpAny_pure ⟨_,_,rfl,h⟩)))))
    · exact (d7 P w).pyHash h1 h
  eqBool:=fun {A E s a b u v Q} hu hv h=>by
    rcases lU hu with ⟨rfl,rfl⟩ | ⟨i,rfl,h1⟩
    · rcases lU hv with ⟨rfl,rfl⟩ | ⟨j,rfl,h2⟩
      · exact BR (A:=A) (s:=s) (y:=.non) (x:=.non) rfl rfl rfl rfl P w E Q h
      · rcases d9 h2 with ⟨n,t,rfl,rfl⟩ | ⟨x,t,rfl,rfl⟩
        · exact BR (A:=A) (s:=s) (y:=.non) (x:=.int n) rfl ⟨t,rfl⟩ rfl rfl P w E Q h
        · exact BR (A:=A) (s:=s) (y:=.non) (x:=.str x) rfl ⟨t,rfl⟩ rfl rfl P w E Q h
    · rcases lU hv with ⟨rfl,rfl⟩ | ⟨j,rfl,h2⟩
      · rcases d9 h1 with ⟨n,t,rfl,rfl⟩ | ⟨x,t,rfl,rfl⟩
        · exact BR (A:=A) (s:=s) (y:=.int n) (x:=.non) ⟨t,rfl⟩ rfl rfl rfl P w E Q h
        · exact BR (A:=A) (s:=s) (y:=.str x) (x:=.non) ⟨t,rfl⟩ rfl rfl rfl P w E Q h
      · refine (d7 P w).eqBool h1 h2 ?_
        have e:decide (i=j)=decide (some i=some j):=by
          by_cases z:i=j
          · subst z;simp
          · rw [decide_eq_false z,decide_eq_false (fun y=>z (Option.some.inj y))]
        rw [e];exact h
  «strs»:=fun k x t v h=>by
    rcases lU h with ⟨_,e⟩ | ⟨i,rfl,h1⟩
    · cases e
    · exact (d7 P w).strs i x t v h1
theorem Zkp {P:Program}{w:World}{h:Heap}{a:Addr}{vs:List (Key×Value)} (dd:h.DictOf (d7 P w) a vs):∃ f,h.MapOf (Zs5 P w) a f∧f none=none:=by
 obtain ⟨o,es,ep,ho,hc,hd,hk,hp,hn⟩:=dd;refine ⟨fun k=>findBy (Zs5 P w).is es k,⟨o,es,ep,ho,hc,hd,fun e he=>?_,fun _=>rfl⟩,?_⟩
 ·obtain ⟨k,h1,h2⟩:=hk e he;exact ⟨some k,h1,h2⟩
 ·show Option.map (fun x=>x.val) (Array.find? (fun e=>Zsf none e.key) es)=none;rw [Option.map_eq_none_iff,Array.find?_eq_none];intro e he;obtain ⟨k,h1,_⟩:=hk e he;rcases d9 h1 with ⟨n,t,_,z⟩ | ⟨x,t,_,z⟩<;>rw [z]<;>exact fun y=>nomatch y
section
variable {X:Cx}{i o:Expr}{ty td:TE}
theorem Zek {kvs:List (Key×V)}{y:V}{b:Bool} (h:Zpw kvs y=some b):(∃ k,y=kV k∧b=(rK kvs k).isSome)∨(y=.non∧b=false):=by
 cases y<;>simp only [Zpw,Option.some.injEq] at h<;>first | cases h
 ·exact .inr ⟨rfl,rfl⟩
 ·exact .inl ⟨.inl _,rfl,rfl⟩
 ·exact .inl ⟨.inr _,rfl,rfl⟩
theorem Zdd (hu:X.A.units + 1 < cLine) (hi:PE X i ty) (ho:PE X o td):PC X .NotIn i o (Zjd true ty td):=by
 intro pins s σ H Q I h;refine gM (hi pins s σ H _ I h) fun iv s1 ⟨y,H1,I1,ry,h1⟩=>?_;refine gM (ho pins s1 σ H1 _ I1 h1) fun ov s2 ⟨x,H2,I2,rx,a,kvs,b,ex,rd,hb,q⟩=>?_;subst ex;obtain rfl:ov=Value.ref a:=rx;rcases Zek hb with ⟨k,rfl,rfl⟩ | ⟨rfl,rfl⟩
 ·exact Zgg hu I2 (.inl ⟨kvs,k,rd,rfl,rfl⟩) ry fun s' I'=>⟨.bl _,H2,I',rfl,q⟩
 ·obtain rfl:iv=Value.none:=ry;obtain ⟨z,hd,vs,rel,dd⟩:=Dy I2.hok rd;obtain ⟨f,hm,hf⟩:=Zkp dd;refine wpAny_notIn_of (knd:=Zs5 X.prog X.w) (k:=none) rfl hd hm ?_;rw [hf];exact ⟨.bl _,H2,I2.tok _,rfl,q⟩
end
end G
namespace G
open PySem L2 PySem.Spec PyProof.Rows
section
variable {X:Cx}
end
end G
namespace G
open PySem L2 PySem.Spec PyProof.Rows
def Zfd:List V→Hp→VK→Prop:=fun xs H Q=>∃ (a:Addr) (kvs:List (Key×V)),xs=[.ref a]∧Rd H a (.dK kvs)∧∀ l,H l=none→Q (.ref l) (upd H l (.lst (kvs.map fun p=>kV p.1)))
theorem Zpi {H:Hp}{Q:VK}{a:Addr}{kvs:List (Key×V)} (h1:H a=some (.dK kvs)) (h:∀ l,H l=none→Q (.ref l) (upd H l (.lst (kvs.map fun p=>kV p.1)))):Zfd [.ref a] H Q:=⟨a,kvs,rfl,.inl h1,h⟩
theorem Zsg {P:Program}{w:World}{k:Key}{u:Value} (h:(d7 P w).is k u=true):RelV (kV k) u:=by
 rcases d9 h with ⟨i,t,rfl,rfl⟩ | ⟨x,t,rfl,rfl⟩
 ·exact ⟨t,rfl⟩
 ·exact ⟨t,rfl⟩
theorem UJ {P:Program}{w:World}:∀ {kvs:List (Key×V)}{vs:List (Key×Value)}{us:List Value},KV kvs vs→us.length=vs.length→(∀ (j:Nat) u,us[j]? =some u→∃ k x,vs[j]? =some (k,x)∧(d7 P w).is k u=true)→Vals (kvs.map fun p=>kV p.1) us
 | [],_,[],.nil,_,_=>.nil
 | [],_,_ :: _,.nil,hl,_=>by simp at hl
 | kv :: kvs,_,[],.cons _ _,hl,_=>by simp at hl
 | kv :: kvs,_,u :: us,.cons rv rs,hl,h=>by
  obtain ⟨k,x,e,hk⟩:=h 0 u rfl;obtain ⟨rk,rx⟩:=rv;have e':=Option.some.inj (show some _=some _ from e);refine .cons ?_ (UJ rs (by simpa using hl) fun j v hj=>by simpa using h (j + 1) v (by simpa using hj));have e1:kv.1=k:=by rw [rk,e']
  show RelV (kV kv.1) u;rw [e1];exact Zsg hk
theorem Zfb {X:Cx} (hc:X.calm=true):HX X (.type "list") Zfd:=by
 intro pins s σ H xs us Q I r h;obtain ⟨a,kvs,rfl,rd,q⟩:=h;obtain ⟨u,rfl,ru⟩:=Vals.one r;obtain rfl:u=Value.ref a:=ru;obtain ⟨_,_,hlo⟩:=Zec I (.inl ⟨kvs,rd⟩);obtain ⟨z,hd,vs,rel,dd⟩:=Dy I.hok rd;obtain ⟨ep,hm⟩:=dd.dictAt;have hl:=rel.length;refine PySem.W.kdl_call (PySem.W.kdl_dict hlo) (I.ok.hd hc) hm (by rw [← hl];exact z) fun h' tk acc c hk hS hI=>?_;have hn:=I.hok.fresh (Nat.le_refl s.heap.objs.size);have I1:Inv X pins σ (upd H s.heap.objs.size (.lst (kvs.map fun p=>kV p.1))) { s with heap:=h',toks:=tk }:=
  I.laid hk (Nat.le_refl _) ⟨by rw [bu];exact z,acc.toList,c,UJ (P:=X.prog) (w:=X.w) rel (by rw [Array.length_toList];exact hI.1) (fun j u hj=>hI.2 j u (by simpa using hj)),by rw [Array.toArray_toList];exact hS⟩
 exact ⟨.ref s.heap.objs.size,_,I1,rfl,q _ hn⟩
end G
namespace G
open PySem L2 PySem.Spec PyProof.Rows
section
variable {X:Cx}{x1 x2 x3 x4:Str}{C1 C2 C3 C4:Addr}{pos np1 np2 np3 np4 hp1 hp2 hp3 hp4:Pos}{body su1 su2 su3 su4:List Stmt}{b1 b2 b3 b4:Stmt}{M1 M2 M3 M4:Value→Prop}{tb:(L2.St→XK)→TS}{t1 t2 t3 t4:TS}
end
end G
namespace G
open PySem L2 PySem.Spec PyProof.Rows
end G
namespace G
open PySem L2
end G
namespace G
open PySem L2 PySem.Spec PyProof.Rows
def KN (v d:Addr):HO:=.ext fun h=>h.IsValuesView v d
def Zj9 (td:TE):TE:=fun σ H Q=>td σ H fun x H1=>∃ a kvs,x=.ref a∧Rd H1 a (.dK kvs)∧∀ v,H1 v=none→Q (.ref v) (upd H1 v (KN v a))
theorem Zsk {td:TE}{σ:L2.St}{H:Hp}{Q:VK} (h:td σ H fun x H1=>∃ a kvs,x=.ref a∧Rd H1 a (.dK kvs)∧∀ v,H1 v=none→Q (.ref v) (upd H1 v (KN v a))):Zj9 td σ H Q:=h
theorem Zh7 {X:Cx}{o:Expr}{td:TE}{apos cpos:Pos} (ho:PE X o td) (hbase:attributeBase o "values" X.env (eval o X.env)=eval o X.env:=by rfl) (hline:(apos.endLine == cpos.line)=true:=by rfl):
  PE X (.Call (.Attribute o "values" apos) [] [] cpos) (Zj9 td):=by
 intro pins s σ H Q I h;refine wpAny_Call_method0_late hbase hline (gM (ho pins s σ H _ I h) fun u s1 ⟨x,H1,I1,rx,a,kvs,ex,rd,q⟩=>?_);subst ex;obtain rfl:u=Value.ref a:=rx;obtain ⟨t1,t2,hd⟩:=Zec I1 (.inl ⟨kvs,rd⟩);obtain ⟨z,_,vs,rel,dd⟩:=Dy I1.hok rd;refine ⟨"dict","dict.values",PySem.F.plainAttrs_dict,PySem.F.slot_dict_values,PySem.F.type_dict_values,t1,t2,Calls.callWith_builtin rfl (PySem.evalArgs_none ?_)⟩;refine call_meetsIn PySem.F.slot_dict_values t1 PySem.F.entry_dict_values (PySem.F.args_dict_values_1 _) (meets_dict_values (d7 X.prog X.w) a hd) ⟨⟨vs,dd⟩,?_⟩;have hn:=I1.hok.fresh (Nat.le_refl _);refine ⟨.ref s1.heap.objs.size,_,I1.laid (t':=s1.toks) (fun b u e=>Heap.get?_push_of_some _ e) (Nat.le_refl _) ?_,rfl,q _ hn⟩;exact ⟨⟨_,Heap.get?_push_size _ rfl,rfl,rfl⟩,⟨_,Heap.get?_push_size _ rfl⟩,fun h1 h2 ⟨o,ho,r⟩ k=>⟨o,k o ho,r⟩⟩
def Itv (a:Addr) (o:Obj) (kvs:List (Key×V)):It:=
 ⟨fun i H=>H a=some (.xO o (.dK kvs))∧i < kvs.length,fun i H x H'=>H'=H∧∃ kv,kvs[i]? =some kv∧x=kv.2,fun i H=>H a=some (.xO o (.dK kvs))∧kvs.length≤i⟩
def Zlz (te:TE):TI:=fun σ H R=>te σ H fun x H1=>∃ v a kvs,x=.ref v∧H1 v=some (KN v a)∧H1 a=some (.dK kvs)∧∀ o,R (Itv a o kvs) (upd H1 a (.xO o (.dK kvs)))
theorem Zwf {te:TE}{σ:L2.St}{H:Hp}{R:It→Hp→Prop} (h:te σ H fun x H1=>∃ v a kvs,x=.ref v∧H1 v=some (KN v a)∧H1 a=some (.dK kvs)∧∀ o,R (Itv a o kvs) (upd H1 a (.xO o (.dK kvs)))):Zlz te σ H R:=h
theorem Uu {α β:Type}{R:α→β→Prop}:∀ {xs:List α}{ys:List β},Paired R xs ys→∀ (i:Nat) x y,xs[i]? =some x→ys[i]? =some y→R x y
 | _,_,.nil,_,_,_,h,_=>by simp at h
 | _,_,.cons r rs,0,_,_,h1,h2=>by
  cases h1;cases h2;exact r
 | _,_,.cons r rs,i + 1,_,_,h1,h2=>Uu rs i _ _ (by simpa using h1) (by simpa using h2)
theorem Zgn {P:Program}{w:World}{K:aC}{tg:Expr} (a it:Addr) (o:Obj) (kvs:List (Key×V)) (ep:Nat) (hep:∃ es,o.data=.dict es ep):Turn P w K tg (Itv a o kvs) [it] it (fun i h=>h.IsValIter it a i kvs.length ep) where
  mem:=by simp
  obj:=fun i h st b hb=>by
    have e:b=it:=by simpa using hb
    subst e;obtain ⟨o,e,c,d⟩:=st;exact ⟨o,e,fun v z=>by rw [d] at z;cases z⟩
  keep:=fun i h h' st k=>by
    obtain ⟨o,e,r⟩:=st;exact ⟨o,k it (by simp) o e,r⟩
  item:=by
    intro X hP hw hK hc i pins s σ H E I hf st hg;subst hP hw hK;obtain ⟨hz,hi⟩:=hg;obtain ⟨ho,z,hd,vs,rel,dd⟩:s.heap.get? a=some o∧kvs.length≤sizeLine∧(a == sysModules)=false∧∃ vs,KV kvs vs∧s.heap.DictOf (d7 X.prog X.w) a vs:=I.hok a _ hz;obtain ⟨ep',hm⟩:=dd.dictAt;obtain ⟨es,hes⟩:=hep;have he:ep'=ep:=by
      obtain ⟨o',es',ho',_,hd',_⟩:=id hm;rw [ho] at ho';cases ho';rw [hes] at hd';injection hd' with _ e;exact e.symm
    subst he;have hl:=rel.length;have hv:vs[i]? =some vs[i]:=cj (by omega);have hv2:kvs[i]? =some kvs[i]:=cj hi;have hk:RelV kvs[i].2 vs[i].2:=(Uu rel i _ _ hv2 hv).2;obtain ⟨f0,f1,f2,f3,f4,f5⟩:=hf it (by simp);rw [hl] at st;refine wpAny_pyNext_values_item st hm (k:=vs[i].1) (v:=vs[i].2) (by rw [hv]) fun h' st' sb=>?_;have I1:Inv X pins σ H { s with heap:=h' }:=I.turned (t':=s.toks) (fun b o hb e=>(sb.2 b hb).trans e) f0 f1 f3 f4 f5;obtain ⟨oi,e,c,d⟩:=id st';exact ⟨_,rfl,Zmb (s:={ s with heap:=h' }) e c d (by decide) ⟨kvs[i].2,H,I1,hk,⟨rfl,_,hv2,rfl⟩,by rw [hl];exact st',fun b hb=>(hf b hb).1⟩⟩
  done:=by
    intro X hP hw hK hc i pins s σ H E I hf st hg;subst hP hw hK;obtain ⟨hz,hi⟩:=hg;obtain ⟨ho,z,hd,vs,rel,dd⟩:s.heap.get? a=some o∧kvs.length≤sizeLine∧(a == sysModules)=false∧∃ vs,KV kvs vs∧s.heap.DictOf (d7 X.prog X.w) a vs:=I.hok a _ hz;obtain ⟨ep',hm⟩:=dd.dictAt;obtain ⟨es,hes⟩:=hep;have he:ep'=ep:=by
      obtain ⟨o',es',ho',_,hd',_⟩:=id hm;rw [ho] at ho';cases ho';rw [hes] at hd';injection hd' with _ e;exact e.symm
    subst he;have hl:=rel.length;obtain ⟨f0,f1,f2,f3,f4,f5⟩:=hf it (by simp);rw [hl] at st;exact wpAny_pyNext_values_end (I.ok.hd hc) st hm (by rw [List.getElem?_eq_none];omega) fun h' eb=>⟨rfl,I.turned (t':=s.toks) (fun b o hb e=>eb b o hb e) f0 f1 f3 f4 f5⟩
  self:=fun _ _ _ _ _ st h=>wpAny_pyIter_valiter st h
theorem Zo7 {X:Cx}{tg:Expr}{e:Expr}{te:TE} (he:PE X e te):PI X tg e (Zlz te):=by
 intro pins s σ H R I h;refine gM (he pins s σ H _ I h) fun u s1 ⟨x,H1,I1,r1,q1⟩=>?_;obtain ⟨v,a,kvs,e,hv,hq,q⟩:=q1;subst e;obtain rfl:u=Value.ref v:=r1;have Zv5:s1.heap.IsValuesView v a:=(I1.hok v _ hv).1;obtain ⟨z,hs,vs,rel,dd⟩:=Zr3 I1.hok hq;obtain ⟨ep,hm⟩:=dd.dictAt;obtain ⟨o,es,ho,_,hes,_⟩:=id hm;refine wpAny_pyIter_values Zv5 hm ?_;have I2:=Zmg I1 hq ho;have hne:s1.heap.objs.size≠a:=Nat.ne_of_gt (Heap.lt_size ho);refine ⟨s1.heap.objs.size,[s1.heap.objs.size],_,_,_,rfl,I2.kept (t':=s1.toks) fun b o e=>Heap.get?_push_of_some _ e,Zgn a _ o kvs ep ⟨es,hes⟩,?_,fun b hb=>?_,q o⟩
 ·rw [rel.length];exact ⟨_,Heap.get?_push_size _ rfl,rfl,rfl⟩
 ·have e:b=s1.heap.objs.size:=by simpa using hb
  subst e;exact Zem (I1.Yb (Nat.le_refl _) (I1.hok.fresh (Nat.le_refl _))) hne
theorem Zgq {X:Cx}{pins:List (Addr×Obj)}{σ:L2.St}{H:Hp}{s:Shared}{a:Addr}{o:Obj}{kvs:List (Key×V)} (I:Inv X pins σ H s) (h:H a=some (.xO o (.dK kvs))) (hn:∀ o' u,X.H₀ a≠some (.xO o' u)):Inv X pins σ (upd H a (.dK kvs)) s:=by
 have ne:∀ b u,H b=some u→u≠.xO o (.dK kvs)→b≠a:=fun b u q n z=>n (by rw [z,h] at q;exact (Option.some.inj q).symm);have n0:∀ b,H b=none→upd H a (.dK kvs) b=none:=fun b q=>(aB (fun z=>by rw [z,h] at q;cases q)).trans q;have hs:∀ c u,H c=some u→u≠.xO o (.dK kvs)→upd H a (.dK kvs) c=some u:=fun c u z n=>by rw [aB (ne c u z n)];exact z
 obtain ⟨i1,i2,i3,i4,i5,i6,i7,i8,i9,i10,i11⟩:=I;refine ⟨i1,i2,i3,⟨i4.keep,i4.slot,fun b ob e n hx=>n0 b (i4.free b ob e n hx),i4.there,fun b xs e=>hs b _ (i4.tups b xs e) (fun z=>by cases z),fun b ob u e=>(aB (a:=a) (b:=b) (fun z=>hn ob u (by rw [← z];exact e))).trans (i4.BL b ob u e),fun b ps e=>?_⟩,i5,i6,n0 _ i7,fun x c e=>n0 _ (i8 x c e),fun p hp=>?_,fun b u q=>?_,i11⟩
 ·obtain ⟨more,q⟩:=i4.CQ b ps e;exact ⟨more,hs b _ q (fun z=>by cases z)⟩
 ·obtain ⟨p1,p2,p3⟩:=i9 p hp;exact ⟨p1,n0 _ p2,p3⟩
 ·by_cases hb:b=a
  ·subst hb;rw [aq] at q;cases q;exact (i10 b _ h).2.stay (fun c v _ z=>z) (fun c z=>hs c _ z (fun y=>by cases y)) fun c xs z=>hs c _ z (fun y=>by cases y)
  ·rw [aB hb] at q;exact (i10 b u q).stay (fun c v _ z=>z) (fun c z=>hs c _ z (fun y=>by cases y)) fun c xs z=>hs c _ z (fun y=>by cases y)
def Zja (H0:Hp) (te:TE):TE:=fun σ H Q=>te σ H fun x H1=>∃ a o kvs,H1 a=some (.xO o (.dK kvs))∧(∀ o' u,H0 a≠some (.xO o' u))∧Q x (upd H1 a (.dK kvs))
theorem Zsl {H0:Hp}{te:TE}{σ:L2.St}{H:Hp}{Q:VK} (h:te σ H fun x H1=>∃ a o kvs,H1 a=some (.xO o (.dK kvs))∧(∀ o' u,H0 a≠some (.xO o' u))∧Q x (upd H1 a (.dK kvs))):Zja H0 te σ H Q:=h
theorem Zoe {X:Cx}{e:Expr}{te:TE} (he:PE X e te):PE X e (Zja X.H₀ te):=by
 intro pins s σ H Q I h;refine gM (he pins s σ H _ I h) fun u s1 ⟨x,H1,I1,r1,a,o,kvs,ha,hn,q⟩=>?_;exact ⟨x,_,Zgq I1 ha hn,r1,q⟩
end G
namespace G
open PySem L2 PySem.Spec PyProof.Rows
def Zrc (K:aC) (te:TE):TT:=fun σ H Q=>te σ H fun x H'=>∃ k,Zn1 K x H' k∧Q k H'
theorem Zqx {K:aC}{te:TE}{σ:L2.St}{H:Hp}{Q:Bool→Hp→Prop} (h:te σ H fun x H'=>∃ k,Zn1 K x H' k∧Q k H'):Zrc K te σ H Q:=h
theorem Zu3 {K:aC}{H:Hp}{a:Addr}{xs:List V}{P:Bool→Prop} (h:cU K H a xs) (q:P (!xs.isEmpty)):∃ k,Zn1 K (.ref a) H k∧P k:=⟨_,.inl ⟨xs,h,rfl⟩,q⟩
theorem Zly {i:Nat}{c x:Int}{f:Int→Int→Int}{n:L2.St→Hp→Prop}{r:VK}{b ct:L2.St→Hp→Prop}{σ:L2.St}{H:Hp} (e:σ[i]? =some (some (.int x))) (h:n (σ.set i (some (.int (f x c)))) H):Zrd i (tC (.int c)) (ipI f) ⟨n,r,b,ct⟩ σ H:=⟨_,e,x,c,rfl,rfl,h⟩
def Zmy (K:aC):List V→Hp→VK→Prop:=fun xs H Q=>∃ p ys,xs=[.ref p]∧(cU K H p ys∨gU K H p ys)∧∀ l,H l=none→Q (.ref l) (upd H l (.lst ys))
theorem Zpg {K:aC}{H:Hp}{Q:VK}{p:Addr}{ys:List V} (h1:gU K H p ys) (h:∀ l,H l=none→Q (.ref l) (upd H l (.lst ys))):Zmy K [.ref p] H Q:=⟨p,ys,rfl,.inr h1,h⟩
def Dq (K:aC) (H:Hp):Nat→V→V→Prop
 | 0,x,y=>x=y∧oZ x=true
 | d + 1,x,y=>(x=y∧oZ x=true)∨∃ a b,x=.ref a∧y=.ref b∧(a=b∨∃ xs ys,((cU K H a xs∧cU K H b ys)∨(gU K H a xs∧gU K H b ys))∧Al (Dq K H d) xs ys)
theorem Zq9 {K:aC}{H:Hp}{d:Nat}{x:V} (h:oZ x=true):Dq K H d x x:=by
 cases d with
 | zero=>exact ⟨rfl,h⟩
 | succ d=>exact .inl ⟨rfl,h⟩
theorem Zb8 {K:aC}{H:Hp}{d:Nat}:∀ {xs:List V},xs.all oZ=true→Al (Dq K H d) xs xs
 | [],_=>.nil
 | x :: xs,h=>by
  rw [List.all_cons,Bool.and_eq_true] at h;exact .cons (Zq9 h.1) (Zb8 h.2)
def Zjv (K:aC) (neg:Bool):R2:=fun x y H Q=>∃ a b xs ys,x=.ref a∧y=.ref b∧((cU K H a xs∧cU K H b ys)∨(gU K H a xs∧gU K H b ys))∧Al (Dq K H 6) xs ys∧Q (.bl (!neg)) H
section
variable {X:Cx}
theorem Zb3:∀ {x:V},oZ x=true→eqV x x=true
 | .non,_=>rfl
 | .bl b,_=>by cases b<;>rfl
 | .int i,_=>by simp [eqV]
 | .str z,_=>by simp [eqV]
theorem Zvf {pins:List (Addr×Obj)}{σ:L2.St}{H:Hp}{s:Shared} (I:Inv X pins σ H s):∀ (d:Nat) {A:Around}{x y:V}{u v:Value},A.units + d < cLine→RelV x u→RelV y v→Dq X.K H d x y→SeqAt.EqAt A s u v true:=by
 intro d
 induction d with
 | zero=>
  intro A x y u v hu rx ry h;obtain ⟨rfl,hf⟩:=h;have:=BR (A:=A) (s:=s) rx ry hf hf;rw [Zb3 hf] at this;exact this
 | succ d ih=>
  intro A x y u v hu rx ry h;rcases h with ⟨rfl,hf⟩ | ⟨a,b,rfl,rfl,h⟩
  ·have:=BR (A:=A) (s:=s) rx ry hf hf;rw [Zb3 hf] at this;exact this
  ·obtain rfl:u=Value.ref a:=rx;obtain rfl:v=Value.ref b:=ry
   by_cases e:a=b
   ·subst e;exact SeqAt.EqAt.same _
   rcases h with rfl | ⟨xs,ys,hs,al⟩
   ·exact absurd rfl e
   ·refine SeqAt.EqAt.of_refs e ?_;have hl:=al.length;have hu':A.units < cLine:=by omega
    have item:∀ {us ws:List Value},Vals xs us→Vals ys ws→∀ (j:Nat) (h1:j < us.toArray.size) (h2:j < ws.toArray.size),SeqAt.EqAt A.in1 s us.toArray[j] ws.toArray[j] true:=by
     intro us ws r1 r2 j h1 h2;rw [List.size_toArray] at h1 h2;have l1:=r1.length;have l2:=r2.length;have a1:xs[j]? =some xs[j]:=cj (by omega);have a2:ys[j]? =some ys[j]:=cj (by omega);obtain ⟨u',e1,q1⟩:=r1.get a1;obtain ⟨w',e2,q2⟩:=r2.get a2;rw [cj h1] at e1;rw [cj h2] at e2;cases e1;cases e2;obtain ⟨x',e3,dq⟩:=al.get a2;rw [a1] at e3;cases e3;exact ih (A:=A.in1) (by show A.units + 1 + d < cLine;omega) q1 q2 dq
    rcases hs with ⟨ha,hb⟩ | ⟨ha,hb⟩
    ·obtain ⟨us,r1,pl1,_⟩:=I.list ha;obtain ⟨ws,r2,pl2,_⟩:=I.list hb;have:=SeqAt.RcAt.lists (A:=A) (e:=fun _=>true) pl1.isList pl2.isList (by rw [List.size_toArray,List.size_toArray,← r1.length,← r2.length];exact hl) hu' (fun j h1 h2=>item r1 r2 j h1 h2);rw [show (List.range us.toArray.size).all (fun _=>true)=true from by rw [List.all_eq_true];intros;rfl] at this;exact this
    ·obtain ⟨us,r1,pl1,_⟩:=I.tuple ha;obtain ⟨ws,r2,pl2,_⟩:=I.tuple hb;have e0:us.toArray.size=ws.toArray.size:=by rw [List.size_toArray,List.size_toArray,← r1.length,← r2.length];exact hl
     have:=SeqAt.RcAt.tuples (A:=A) (e:=fun _=>true) pl1 pl2 hu' (fun j h1 h2=>item r1 r2 j h1 h2);rw [show (List.range (min us.toArray.size ws.toArray.size)).all (fun _=>true)=true from by rw [List.all_eq_true];intros;rfl,e0] at this;simpa using this
theorem Vi {pins:List (Addr×Obj)}{σ:L2.St}{H:Hp}{s:Shared} (I:Inv X pins σ H s) {A:Around} (hu:A.units + 8 < cLine) {xs ys:List V}{us ws:List Value} (al:Al (Dq X.K H 6) xs ys) (r1:Vals xs us) (r2:Vals ys ws) (j:Nat) (h1:j < us.toArray.size) (h2:j < ws.toArray.size):SeqAt.EqAt A.in1 s us.toArray[j] ws.toArray[j] true:=by
 rw [List.size_toArray] at h1 h2;have l1:=r1.length;have l2:=r2.length;have a1:xs[j]? =some xs[j]:=cj (by omega);have a2:ys[j]? =some ys[j]:=cj (by omega);obtain ⟨u',e1,q1⟩:=r1.get a1;obtain ⟨w',e2,q2⟩:=r2.get a2;rw [cj h1] at e1;rw [cj h2] at e2;cases e1;cases e2;obtain ⟨x',e3,dq⟩:=al.get a2;rw [a1] at e3;cases e3;exact Zvf I 6 (A:=A.in1) (by show A.units + 1 + 6 < cLine;omega) q1 q2 dq
theorem Zdi (hu:X.A.units + 64 < cLine):zy X (compareOp .Eq) (Zjv X.K false):=by
 intro pins s σ H x y v u Q I rx ry h;obtain ⟨p,q',xs,ys,rfl,rfl,hs,al,q⟩:=h;obtain rfl:v=Value.ref p:=rx;obtain rfl:u=Value.ref q':=ry;have hl:=al.length;rcases hs with ⟨ha,hb⟩ | ⟨ha,hb⟩
 ·obtain ⟨us,r1,pl1,_⟩:=I.list ha;obtain ⟨ws,r2,pl2,_⟩:=I.list hb;refine SeqAt.eq_listAt (e:=fun _=>true) pl1.isList pl2.isList (by rw [List.size_toArray,List.size_toArray,← r1.length,← r2.length];exact hl) (by omega) (Vi I (by omega) al r1 r2) ?_;rw [show (List.range us.toArray.size).all (fun _=>true)=true from by rw [List.all_eq_true];intros;rfl];exact ⟨.bl _,H,I,rfl,q⟩
 ·obtain ⟨us,r1,pl1,_⟩:=I.tuple ha;obtain ⟨ws,r2,pl2,_⟩:=I.tuple hb;have e0:us.toArray.size=ws.toArray.size:=by rw [List.size_toArray,List.size_toArray,← r1.length,← r2.length];exact hl
  refine SeqAt.eq_tupleAt (e:=fun _=>true) pl1 pl2 (by omega) (Vi I (by omega) al r1 r2) ?_;rw [show (List.range (min us.toArray.size ws.toArray.size)).all (fun _=>true)=true from by rw [List.all_eq_true];intros;rfl,e0];simp only [beq_self_eq_true,Bool.and_self];exact ⟨.bl _,H,I,rfl,q⟩
theorem Zlv {K:aC}{neg:Bool}{H:Hp}{Q:VK}{a b:Addr}{xs ys:List V} (hs:(cU K H a xs∧cU K H b ys)∨(gU K H a xs∧gU K H b ys)) (al:Al (Dq K H 6) xs ys) (q:Q (.bl (!neg)) H):Zjv K neg (.ref a) (.ref b) H Q:=⟨a,b,xs,ys,rfl,rfl,hs,al,q⟩
end
end G
local macro_rules | `(tactic| walk_at "g2")=>`(tactic| with_reducible first | refine G.sO ?_ | refine G.Zsz ?_ | refine G.Zg8 ?_ | refine G.Zsw ?_ | refine G.Qm ?_ | refine G.i_C ?_ | refine G.Zee ?_ | refine G.Zwc ?_ | refine G.i_B ?_ | refine G.Zsm ?_ | refine G.Zus ?_ | refine G.Zv3 ?_ | refine G.Zut ?_ | refine G.Zqy ?_ | refine G.Zt5 ?_ | refine G.Zsp ?_ | refine G.Zv4 ?_ | refine G.i_U ?_ | refine G.Zv2 ?_ | refine G.Zv1 ?_ | refine G.Zuw ?_ | refine G.Zuv ?_ | refine G.Zsv ?_ | refine G.Zsu ?_ | refine G.Zst ?_ | refine G.Zpe ?_ | refine G.Zpd ?_ | refine G.Zpc ?_ | refine G.Zeg ?_ | refine G.X4 ?_ | refine G.Zpk ?_ | refine G.Zpl ?_ | refine G.Zuu ?_ | refine G.Zt3 ?_ | refine G.Zux ?_ | refine G.Zup ?_ | refine G.Zt4 ?_ | refine G.Zwq ?_ | refine G.Zsr ?_ | refine G.Zv0 ?_ | refine G.Zsn ?_ | refine G.Zsq ?_ | refine G.Zso ?_ | refine G.Zwe ?_ | refine G.Zwd ?_ | refine G.Zwp ?_ | refine G.Zuz ?_ | refine G.Zwh ?_ | refine G.Zwg ?_ | refine G.Zwb ?_ | refine G.Zwa ?_ | refine G.Zw9 ?_ | refine G.Zed ?_ | refine G.Zw8 ?_ | refine G.Zw7 ?_ | refine G.Zw6 ?_ | refine G.Zw5 ?_ | refine G.Zw4 ?_ | refine G.Zw3 ?_ | refine G.Zwo ?_ | refine G.Zsy ?_ | refine G.Zaw ?_ | refine G.Zpm ?_ | refine G.Zwn ?_ | refine G.Zwm ?_ | refine G.Zwl ?_ | refine G.Zwk ?_ | refine G.Zwj ?_ | refine G.BJ ?_ | refine G.Zpn ?_ | refine G.Zpb ?_ | refine G.Zpo ?_ | refine G.Zuq ?_ | refine G.Zsx ?_ | refine G.Zpf ?_ | refine G.Zur ?_ | refine G.Zt2 ?_ | refine G.Zlw ?_ | refine G.Zt0 ?_ | refine G.Zss ?_ | refine G.Zei ?_ | refine G.Zav ?_ | refine G.Zeh ?_ | refine G.Zsk ?_ | refine G.Zwf ?_ | refine G.Zsl ?_ | refine G.Zqx ?_ | refine G.Zwi ?_ | refine G.Zpj ?_ | refine G.Zt1 ?_)
local macro_rules | `(tactic| walk_at "g1")=>`(tactic| first | (with_reducible refine G.Hg ?_) | walk_at "g2")
local macro_rules | `(tactic| walk_at "ne")=>`(tactic| first | assumption | (exact Ne.symm (by assumption)) | exact L2.aD (by assumption) (by assumption) | exact Ne.symm (L2.aD (by assumption) (by assumption)) | exact Nat.ne_of_lt (by assumption))
local macro_rules | `(tactic| walk_at "hp")=>`(tactic| first | assumption | exact L2.aq | (refine Eq.trans (L2.aB ?hne) ?_;(case hne=>walk_at "ne");walk_at "hp"))
local macro_rules | `(tactic| walk_at "side")=>`(tactic| first | omega | decide | (show (_:Int) < _;decide) | exact ⟨by decide,by decide⟩ | exact ⟨by decide,by decide,by decide⟩ | (unfold L2.QV;omega) | exact .inl (by unfold L2.QV;omega))
local macro_rules | `(tactic| walk_at "ev")=>`(tactic| repeat (first | walk_at "g1" | ((with_reducible refine G.i_I ?hc ?_);(case hc=>walk_at "side"))))
local macro_rules | `(tactic| walk_at "es")=>`(tactic| repeat (first | walk_at "g2" | ((with_reducible refine G.i_I ?hc ?_);(case hc=>walk_at "side"))))
local macro_rules | `(tactic| walk_at "caps")=>`(tactic| simp only [List.map_cons,List.map_nil,G.pick,List.getElem?_cons_zero,List.getElem?_cons_succ])
namespace K32
open PySem L2 G
def mK (birth:Int) (bulk:Int) (tone:Int) (load:Int) (fa:Addr):List (Str×V):=[("birth",.int birth),("bulk",.int bulk),("tone",.int tone),("load",.int load),("fields",.ref fa)]
theorem gA {birth:Int}{bulk:Int}{tone:Int}{load:Int}{fa:Addr}:List.lookup ("birth":Str) (mK birth bulk tone load fa)=some (.int birth:V):=rfl
theorem Dz {birth:Int}{bulk:Int}{tone:Int}{load:Int}{fa:Addr}:List.lookup ("bulk":Str) (mK birth bulk tone load fa)=some (.int bulk:V):=rfl
theorem Tq {birth:Int}{bulk:Int}{tone:Int}{load:Int}{fa:Addr}:List.lookup ("tone":Str) (mK birth bulk tone load fa)=some (.int tone:V):=rfl
theorem wV {birth:Int}{bulk:Int}{tone:Int}{load:Int}{fa:Addr}:List.lookup ("load":Str) (mK birth bulk tone load fa)=some (.int load:V):=rfl
theorem jW {birth:Int}{bulk:Int}{tone:Int}{load:Int}{fa:Addr}:List.lookup ("fields":Str) (mK birth bulk tone load fa)=some (.ref fa:V):=rfl
theorem QB {birth:Int}{bulk:Int}{tone:Int}{load:Int}{fa:Addr} (y:Int):bZ "tone" (.int y) (mK birth bulk tone load fa)=mK birth bulk y load fa:=rfl
theorem QC {birth:Int}{bulk:Int}{tone:Int}{load:Int}{fa:Addr} (y:Int):bZ "load" (.int y) (mK birth bulk tone load fa)=mK birth bulk tone y fa:=rfl
theorem Zmx {birth:Int}{bulk:Int}{tone:Int}{load:Int}{fa:Addr}:(bZ "fields" (.ref fa) (bZ "load" (.int load) (bZ "tone" (.int tone) (bZ "bulk" (.int bulk) (bZ "birth" (.int birth) [])))))=mK birth bulk tone load fa:=rfl
theorem uD {birth:Int}{bulk:Int}{tone:Int}{load:Int}{fa:Addr}:List.lookup ("units":Str) (mK birth bulk tone load fa)=none:=rfl
theorem Ew {birth:Int}{bulk:Int}{tone:Int}{load:Int}{fa:Addr}:List.lookup ("has_field":Str) (mK birth bulk tone load fa)=none:=rfl
def jU (room:Int) (ca:Addr) (used:Int) (born:Int):List (Str×V):=[("room",.int room),("cells",.ref ca),("used",.int used),("born",.int born)]
theorem Dt {room:Int}{ca:Addr}{used:Int}{born:Int}:List.lookup ("room":Str) (jU room ca used born)=some (.int room:V):=rfl
theorem bV {room:Int}{ca:Addr}{used:Int}{born:Int}:List.lookup ("cells":Str) (jU room ca used born)=some (.ref ca:V):=rfl
theorem wK {room:Int}{ca:Addr}{used:Int}{born:Int}:List.lookup ("used":Str) (jU room ca used born)=some (.int used:V):=rfl
theorem Du {room:Int}{ca:Addr}{used:Int}{born:Int}:List.lookup ("born":Str) (jU room ca used born)=some (.int born:V):=rfl
theorem BK {room:Int}{ca:Addr}{used:Int}{born:Int} (y:Int):bZ "used" (.int y) (jU room ca used born)=jU room ca y born:=rfl
theorem Qo {room:Int}{ca:Addr}{used:Int}{born:Int} (y:Int):bZ "born" (.int y) (jU room ca used born)=jU room ca used y:=rfl
theorem Zm6 {room:Int}{ca:Addr}{used:Int}{born:Int}:(bZ "born" (.int born) (bZ "used" (.int used) (bZ "cells" (.ref ca) (bZ "room" (.int room) []))))=jU room ca used born:=rfl
theorem SQ {room:Int}{ca:Addr}{used:Int}{born:Int}:List.lookup ("make":Str) (jU room ca used born)=none:=rfl
theorem X7 {room:Int}{ca:Addr}{used:Int}{born:Int}:List.lookup ("lay":Str) (jU room ca used born)=none:=rfl
theorem S5 {room:Int}{ca:Addr}{used:Int}{born:Int}:List.lookup ("back":Str) (jU room ca used born)=none:=rfl
theorem SX {room:Int}{ca:Addr}{used:Int}{born:Int}:List.lookup ("free":Str) (jU room ca used born)=none:=rfl
theorem Qp {room:Int}{ca:Addr}{used:Int}{born:Int}:List.lookup ("there":Str) (jU room ca used born)=none:=rfl
def P0 (lk:Addr) (tl:Int):List (Str×V):=[("looking",.ref lk),("tells",.int tl)]
theorem m6 {lk:Addr}{tl:Int}:List.lookup ("looking":Str) (P0 lk tl)=some (.ref lk:V):=rfl
theorem Bx {lk:Addr}{tl:Int}:List.lookup ("tells":Str) (P0 lk tl)=some (.int tl:V):=rfl
theorem Zln {lk:Addr}{tl:Int}:(bZ "tells" (.int tl) (bZ "looking" (.ref lk) []))=P0 lk tl:=rfl
def Vh (nm:Str) (sa:Addr):List (Str×V):=[("name",.str nm),("slots",.ref sa)]
theorem S6 {nm:Str}{sa:Addr}:List.lookup ("name":Str) (Vh nm sa)=some (.str nm:V):=rfl
theorem uz {nm:Str}{sa:Addr}:List.lookup ("slots":Str) (Vh nm sa)=some (.ref sa:V):=rfl
theorem Zm9 {nm:Str}{sa:Addr}:(bZ "slots" (.ref sa) (bZ "name" (.str nm) []))=Vh nm sa:=rfl
def zP (hp:Addr) (ki:Addr) (hl:Addr) (nm:Addr) (sw:Addr):List (Str×V):=[("heap",.ref hp),("kind",.ref ki),("hands",.ref hl),("names",.ref nm),("sweeper",.ref sw)]
theorem bC {hp:Addr}{ki:Addr}{hl:Addr}{nm:Addr}{sw:Addr}:List.lookup ("heap":Str) (zP hp ki hl nm sw)=some (.ref hp:V):=rfl
theorem lB {hp:Addr}{ki:Addr}{hl:Addr}{nm:Addr}{sw:Addr}:List.lookup ("kind":Str) (zP hp ki hl nm sw)=some (.ref ki:V):=rfl
theorem eN {hp:Addr}{ki:Addr}{hl:Addr}{nm:Addr}{sw:Addr}:List.lookup ("hands":Str) (zP hp ki hl nm sw)=some (.ref hl:V):=rfl
theorem iW {hp:Addr}{ki:Addr}{hl:Addr}{nm:Addr}{sw:Addr}:List.lookup ("names":Str) (zP hp ki hl nm sw)=some (.ref nm:V):=rfl
theorem bw {hp:Addr}{ki:Addr}{hl:Addr}{nm:Addr}{sw:Addr}:List.lookup ("sweeper":Str) (zP hp ki hl nm sw)=some (.ref sw:V):=rfl
theorem Zgm {hp:Addr}{ki:Addr}{hl:Addr}{nm:Addr}{sw:Addr}:(bZ "sweeper" (.ref sw) (bZ "names" (.ref nm) (bZ "hands" (.ref hl) (bZ "kind" (.ref ki) (bZ "heap" (.ref hp) [])))))=zP hp ki hl nm sw:=rfl
def bY (se:Int) (ph:Str) (gr:Addr) (lo:Int) (tu:Int) (at_:Int) (st:Int) (wa:Int) (ls:Int) (pa:Int) (lx:V):List (Str×V):=[("sense",.int se),("phase",.str ph),("grey",.ref gr),("looked",.int lo),("turn",.int tu),("at",.int at_),("stop",.int st),("walks",.int wa),("looks",.int ls),("passes",.int pa),("loss",lx)]
theorem nR {se:Int}{ph:Str}{gr:Addr}{lo:Int}{tu:Int}{at_:Int}{st:Int}{wa:Int}{ls:Int}{pa:Int}{lx:V}:List.lookup ("sense":Str) (bY se ph gr lo tu at_ st wa ls pa lx)=some (.int se:V):=rfl
theorem mz {se:Int}{ph:Str}{gr:Addr}{lo:Int}{tu:Int}{at_:Int}{st:Int}{wa:Int}{ls:Int}{pa:Int}{lx:V}:List.lookup ("phase":Str) (bY se ph gr lo tu at_ st wa ls pa lx)=some (.str ph:V):=rfl
theorem tZ {se:Int}{ph:Str}{gr:Addr}{lo:Int}{tu:Int}{at_:Int}{st:Int}{wa:Int}{ls:Int}{pa:Int}{lx:V}:List.lookup ("grey":Str) (bY se ph gr lo tu at_ st wa ls pa lx)=some (.ref gr:V):=rfl
theorem jB {se:Int}{ph:Str}{gr:Addr}{lo:Int}{tu:Int}{at_:Int}{st:Int}{wa:Int}{ls:Int}{pa:Int}{lx:V}:List.lookup ("looked":Str) (bY se ph gr lo tu at_ st wa ls pa lx)=some (.int lo:V):=rfl
theorem tY {se:Int}{ph:Str}{gr:Addr}{lo:Int}{tu:Int}{at_:Int}{st:Int}{wa:Int}{ls:Int}{pa:Int}{lx:V}:List.lookup ("turn":Str) (bY se ph gr lo tu at_ st wa ls pa lx)=some (.int tu:V):=rfl
theorem Ft {se:Int}{ph:Str}{gr:Addr}{lo:Int}{tu:Int}{at_:Int}{st:Int}{wa:Int}{ls:Int}{pa:Int}{lx:V}:List.lookup ("at":Str) (bY se ph gr lo tu at_ st wa ls pa lx)=some (.int at_:V):=rfl
theorem N5 {se:Int}{ph:Str}{gr:Addr}{lo:Int}{tu:Int}{at_:Int}{st:Int}{wa:Int}{ls:Int}{pa:Int}{lx:V}:List.lookup ("stop":Str) (bY se ph gr lo tu at_ st wa ls pa lx)=some (.int st:V):=rfl
theorem zF {se:Int}{ph:Str}{gr:Addr}{lo:Int}{tu:Int}{at_:Int}{st:Int}{wa:Int}{ls:Int}{pa:Int}{lx:V}:List.lookup ("walks":Str) (bY se ph gr lo tu at_ st wa ls pa lx)=some (.int wa:V):=rfl
theorem rM {se:Int}{ph:Str}{gr:Addr}{lo:Int}{tu:Int}{at_:Int}{st:Int}{wa:Int}{ls:Int}{pa:Int}{lx:V}:List.lookup ("looks":Str) (bY se ph gr lo tu at_ st wa ls pa lx)=some (.int ls:V):=rfl
theorem xj {se:Int}{ph:Str}{gr:Addr}{lo:Int}{tu:Int}{at_:Int}{st:Int}{wa:Int}{ls:Int}{pa:Int}{lx:V}:List.lookup ("passes":Str) (bY se ph gr lo tu at_ st wa ls pa lx)=some (.int pa:V):=rfl
theorem N6 {se:Int}{ph:Str}{gr:Addr}{lo:Int}{tu:Int}{at_:Int}{st:Int}{wa:Int}{ls:Int}{pa:Int}{lx:V}:List.lookup ("loss":Str) (bY se ph gr lo tu at_ st wa ls pa lx)=some (lx:V):=rfl
theorem Ie {se:Int}{ph:Str}{gr:Addr}{lo:Int}{tu:Int}{at_:Int}{st:Int}{wa:Int}{ls:Int}{pa:Int}{lx:V} (y:Int):bZ "sense" (.int y) (bY se ph gr lo tu at_ st wa ls pa lx)=bY y ph gr lo tu at_ st wa ls pa lx:=rfl
theorem mX {se:Int}{ph:Str}{gr:Addr}{lo:Int}{tu:Int}{at_:Int}{st:Int}{wa:Int}{ls:Int}{pa:Int}{lx:V} (y:Str):bZ "phase" (.str y) (bY se ph gr lo tu at_ st wa ls pa lx)=bY se y gr lo tu at_ st wa ls pa lx:=rfl
theorem LR {se:Int}{ph:Str}{gr:Addr}{lo:Int}{tu:Int}{at_:Int}{st:Int}{wa:Int}{ls:Int}{pa:Int}{lx:V} (y:Addr):bZ "grey" (.ref y) (bY se ph gr lo tu at_ st wa ls pa lx)=bY se ph y lo tu at_ st wa ls pa lx:=rfl
theorem uQ {se:Int}{ph:Str}{gr:Addr}{lo:Int}{tu:Int}{at_:Int}{st:Int}{wa:Int}{ls:Int}{pa:Int}{lx:V} (y:Int):bZ "looked" (.int y) (bY se ph gr lo tu at_ st wa ls pa lx)=bY se ph gr y tu at_ st wa ls pa lx:=rfl
theorem LC {se:Int}{ph:Str}{gr:Addr}{lo:Int}{tu:Int}{at_:Int}{st:Int}{wa:Int}{ls:Int}{pa:Int}{lx:V} (y:Int):bZ "turn" (.int y) (bY se ph gr lo tu at_ st wa ls pa lx)=bY se ph gr lo y at_ st wa ls pa lx:=rfl
theorem Dk {se:Int}{ph:Str}{gr:Addr}{lo:Int}{tu:Int}{at_:Int}{st:Int}{wa:Int}{ls:Int}{pa:Int}{lx:V} (y:Int):bZ "at" (.int y) (bY se ph gr lo tu at_ st wa ls pa lx)=bY se ph gr lo tu y st wa ls pa lx:=rfl
theorem LK {se:Int}{ph:Str}{gr:Addr}{lo:Int}{tu:Int}{at_:Int}{st:Int}{wa:Int}{ls:Int}{pa:Int}{lx:V} (y:Int):bZ "stop" (.int y) (bY se ph gr lo tu at_ st wa ls pa lx)=bY se ph gr lo tu at_ y wa ls pa lx:=rfl
theorem xg {se:Int}{ph:Str}{gr:Addr}{lo:Int}{tu:Int}{at_:Int}{st:Int}{wa:Int}{ls:Int}{pa:Int}{lx:V} (y:Int):bZ "walks" (.int y) (bY se ph gr lo tu at_ st wa ls pa lx)=bY se ph gr lo tu at_ st y ls pa lx:=rfl
theorem pY {se:Int}{ph:Str}{gr:Addr}{lo:Int}{tu:Int}{at_:Int}{st:Int}{wa:Int}{ls:Int}{pa:Int}{lx:V} (y:Int):bZ "looks" (.int y) (bY se ph gr lo tu at_ st wa ls pa lx)=bY se ph gr lo tu at_ st wa y pa lx:=rfl
theorem uP {se:Int}{ph:Str}{gr:Addr}{lo:Int}{tu:Int}{at_:Int}{st:Int}{wa:Int}{ls:Int}{pa:Int}{lx:V} (y:Int):bZ "passes" (.int y) (bY se ph gr lo tu at_ st wa ls pa lx)=bY se ph gr lo tu at_ st wa ls y lx:=rfl
theorem LQ {se:Int}{ph:Str}{gr:Addr}{lo:Int}{tu:Int}{at_:Int}{st:Int}{wa:Int}{ls:Int}{pa:Int}{lx:V} (y:V):bZ "loss" (y) (bY se ph gr lo tu at_ st wa ls pa lx)=bY se ph gr lo tu at_ st wa ls pa y:=rfl
theorem Zgs {se:Int}{ph:Str}{gr:Addr}{lo:Int}{tu:Int}{at_:Int}{st:Int}{wa:Int}{ls:Int}{pa:Int}{lx:V}:(bZ "loss" (lx) (bZ "passes" (.int pa) (bZ "looks" (.int ls) (bZ "walks" (.int wa) (bZ "stop" (.int st) (bZ "at" (.int at_) (bZ "turn" (.int tu) (bZ "looked" (.int lo) (bZ "grey" (.ref gr) (bZ "phase" (.str ph) (bZ "sense" (.int se) [])))))))))))=bY se ph gr lo tu at_ st wa ls pa lx:=rfl
def qt (K:aC):TS:=
 (aL (gO K (ak 0) (ak 1) "birth")
   (aL (gO K (ak 0) (ak 3) "bulk")
   (aL (gO K (ak 0) (ak 4) "tone")
   (aL (gO K (ak 0) (tC (.int 0)) "load")
   (gO K (ak 0) (bA (ZK) (iw (aj (tC .non) aG)) (ak 2)) "fields")))))
def wu (K:aC):TS:=
 (bI (bA (nO fun i j=>.int (i + j)) (bA (nO fun i j=>.int (i + j)) (tC (.int 1)) (zE (G.mD K) (aj (bx K (ak 0) "fields") aG))) (bx K (ak 0) "bulk")))
def pF (K:aC):TS:=
 (bI (NZ (nO fun i j=>.bl (decide (i≤j))) (nO fun i j=>.bl (decide (i < j))) (tC (.int 0)) (ak 1) (zE (G.mD K) (aj (bx K (ak 0) "fields") aG))))
def qm (K:aC):TS:=
 (aL (gO K (ak 0) (ak 1) "room")
   (aL (gO K (ak 0) (iw aG) "cells")
   (aL (gO K (ak 0) (tC (.int 0)) "used")
   (gO K (ak 0) (tC (.int 0)) "born"))))
def yF (K:aC) (aZ bM aW:Addr) (Ij qN VN Zv:Sp) (E:XK):TS:=
 (aL (bD (zB aZ Ij [] E0 (aj (bA (nO fun i j=>.int (i + j)) (bx K (ak 0) "born") (tC (.int 1))) (aj (ak 1) (aj (ak 2) (aj (ak 3) aG))))) (aN 4))
   (aL (fB (cC (bA (nO fun i j=>.bl (decide (j < i))) (lC aZ "units" qN [] E0 (ak 4) aG) (lC aW "free" VN [] E0 (ak 0) aG))) (G.HY bM E (aj (tC (.str "the room does not suffice")) aG)) cL)
   (aL (gO K (ak 0) (bx K (ak 4) "birth") "born")
   (aL (gO K (ak 0) (bA (nO fun i j=>.int (i + j)) (bx K (ak 0) "used") (lC aZ "units" qN [] E0 (ak 4) aG)) "used")
   (bI (lC aW "lay" Zv [] E0 (ak 0) (aj (ak 4) aG)))))))
def Ar (K:aC):TS:=
 (aL (fB (cC (bA (G.Zrn K true) (tC .non) (bx K (ak 0) "cells"))) (aL (uO (tBM K "list" uT (bx K (ak 0) "cells") (aj (ak 1) aG)))
   (bI (bA (nO fun i j=>.int (i - j)) (zE (G.mD K) (aj (bx K (ak 0) "cells") aG)) (tC (.int 1))))) cL)
   (aL (bD (tBM K "list" (G.Zft K) (bx K (ak 0) "cells") (aj (tC .non) aG)) (aN 2))
   (aL (bD (ak 1) (Mz (bx K (ak 0) "cells") (ak 2) Av))
   (bI (ak 2)))))
def yH (K:aC) (aZ:Addr) (qN:Sp):TS:=
 (aL (bD (bA (nH K) (bx K (ak 0) "cells") (ak 1)) (aN 2))
   (aL (gO K (ak 0) (bA (nO fun i j=>.int (i - j)) (bx K (ak 0) "used") (lC aZ "units" qN [] E0 (ak 2) aG)) "used")
   (aL (bD (tC .non) (Mz (bx K (ak 0) "cells") (ak 1) Av))
   (bI (bx K (ak 2) "birth")))))
def yG (K:aC):TS:=
 (bI (bA (nO fun i j=>.int (i - j)) (bx K (ak 0) "room") (bx K (ak 0) "used")))
def wk (K:aC):TS:=
 (bI (G.tLC (Lr (aj (zE (G.mD K) (aj (bx K (ak 0) "cells") aG)) aG)) [0] (cC (bA (G.Dl) (bA (nH K) (bx K (ak 1) "cells") (ak 0)) (tC .non))) (ak 0)))
def Em (K:aC):TS:=
 (aL (fB ((tOr (cC (bA (G.Mq) (ak 1) (tC .non))) (tOr (cC (bA (nO fun i j=>.bl (decide (i < j))) (ak 1) (tC (.int 0)))) (cC (bA (nO fun i j=>.bl (decide (j≤i))) (ak 1) (zE (G.mD K) (aj (bx K (ak 0) "cells") aG))))))) (bI (tC .non)) cL)
   (bI (bA (nH K) (bx K (ak 0) "cells") (ak 1))))
def Aq (K:aC) (jG:Sp):TS:=
 (aL (bD (aR jG [] E0 (aj (ak 0) (aj (ak 1) aG))) (aN 2))
   (aL (fB (cC (bA (G.Mq) (ak 2) (tC .non))) (bI (tC .non)) cL)
   (bI (bx K (ak 2) "birth"))))
def yg (K:aC) (Ur:Sp):TS:=
 (aL (bD (iw aG) (aN 2))
   (aL (Fq (G.Zax K (aj (ak 1) aG)) (Zmd K 2 (Hj (aN 3) (Hj (aN 4) Zme)))
   (uO (tBM K "list" MT (ak 2) (aj (aR Ur [] E0 (aj (ak 0) (aj (ak 4) (aj (fP (aj (ak 3) aG)) aG)))) aG))))
   (aL (bD (Zc5) (aN 5))
   (aL (bD (tC (.int 0)) (aN 6))
   (aL (Zj8 (cC (bA (nO fun i j=>.bl (decide (i < j))) (ak 6) (zE (G.mD K) (aj (ak 2) aG)))) (aL (bD (bA (eZ K) (bA (nH K) (ak 2) (ak 6)) (tC (.int 0))) (aN 7))
   (aL (bD (bA (eZ K) (bA (nH K) (ak 2) (ak 6)) (tC (.int 1))) (aN 8))
   (aL (bD (bA (nO fun i j=>.int (i + j)) (ak 6) (tC (.int 1))) (aN 6))
   (fB (tB (G.Zjd true (ak 7) (ak 5))) (aL (Zfq (ak 5) (ak 7) (ak 8))
   (uO (tBM K "list" MT (ak 2) (aj (aR Ur [] E0 (aj (ak 0) (aj (bx K (bA (nH K) (bx K (ak 0) "cells") (ak 7)) "fields") (aj (ak 8) aG)))) aG)))) cL)))))
   (bI (zE (G.Zfc) (aj (G.Zc4 (ak 5)) aG))))))))
def Cu (K:aC) (jG:Sp):TS:=
 (bI (G.Zjc K (G.Zax K (aj (ak 1) aG)) [0,2] (cC (bA (G.Dl) (aR jG [] E0 (aj (ak 2) (aj (ak 1) aG))) (tC .non))) (fP (aj (ak 1) (aj (bA (Zqq K) (ak 3) (fP (aj (ak 0) aG))) aG)))))
def qp (K:aC):TS:=
 (aL (gO K (ak 0) (ak 1) "name")
   (gO K (ak 0) (bA (ZK) (iw (aj (tC .non) aG)) (ak 2)) "slots"))
def nF (K:aC):TS:=
 (aL (gO K (ak 0) (tC (.int 0)) "sense")
   (aL (gO K (ak 0) (tC (.str "rest")) "phase")
   (aL (gO K (ak 0) (iw aG) "grey")
   (aL (gO K (ak 0) (tC (.int 0)) "looked")
   (aL (gO K (ak 0) (tC (.int 0)) "turn")
   (aL (gO K (ak 0) (tC (.int 0)) "at")
   (aL (gO K (ak 0) (tC (.int 0)) "stop")
   (aL (gO K (ak 0) (tC (.int 0)) "walks")
   (aL (gO K (ak 0) (tC (.int 0)) "looks")
   (aL (gO K (ak 0) (tC (.int 0)) "passes")
   (gO K (ak 0) (tC .non) "loss")))))))))))
def pA (K:aC) (kZ aW bG:Addr) (Ii Ih CT:Sp):TS:=
 (aL (gO K (ak 0) (zB aW Ih [] E0 (aj (ak 1) aG)) "heap")
   (aL (gO K (ak 0) (ak 2) "kind")
   (aL (gO K (ak 0) (G.Zjc K (vp K (ak 3)) [] G.w6 (zB kZ Ii [] E0 (aj (ak 0) (aj (ak 1) aG)))) "hands")
   (aL (gO K (ak 0) (Zc5) "names")
   (gO K (ak 0) (zB bG CT [] E0 aG) "sweeper")))))
def Ws (K:aC):TS:=
 (bI (G.tLC (vp K (bx K (ak 0) "hands")) [] G.w6 (zE (G.Kl K) (aj (bx K (ak 0) "slots") aG))))
def ym (K:aC) (d8:Sp):TS:=
 (bI (G.tLC (vp K (ak 1)) [0] G.w6 (aR d8 [] E0 (aj (ak 1) (aj (ak 0) aG)))))
def yh (K:aC):TS:=
 (bI (bA (Cv) (bA (nO fun i j=>.int (Builtin.bitAnd i j)) (bA (rI (fun _ j=>0≤j) fun i j=>.int (i / 2 ^ j.toNat)) (bx K (bx K (ak 0) "sweeper") "looked") (ak 1)) (tC (.int 1))) (tC (.int 1))))
def yj (K:aC):TS:=
 (bI (bA (Cv) (bx K (ak 1) "tone") (bx K (bx K (ak 0) "sweeper") "sense")))
def vV (K:aC):TS:=
 (bI (bA (rIn K false) (bx K (bx K (ak 0) "sweeper") "phase") (fP (aj (tC (.str "walk")) (aj (tC (.str "lost")) aG)))))
def Ow (K:aC) (eY dI fX:Addr) (FN sS:Sp):TS:=
 (aL (bD (bx K (ak 0) "sweeper") (aN 1))
   (aL (gO K (ak 1) (bA (nO fun i j=>.int (i - j)) (tC (.int 1)) (bx K (ak 1) "sense")) "sense")
   (aL (gO K (ak 1) (bA (nO fun i j=>.int (i + j)) (bx K (ak 1) "turn") (tC (.int 1))) "turn")
   (aL (gO K (ak 1) (tC (.str "walk")) "phase")
   (aL (gO K (ak 1) (iw aG) "grey")
   (aL (gO K (ak 1) (G.Ia (lC dI "at_begin" FN [] E0 (bx K (bx K (ak 0) "kind") "looking") (aj (zE (G.mD K) (aj (bx K (ak 0) "hands") aG)) aG)) (G.Ia (lC eY "at_begin" sS [] E0 (bx K (bx K (ak 0) "kind") "looking") (aj (zE (G.mD K) (aj (bx K (ak 0) "hands") aG)) aG)) (lC fX "at_begin" sS [] E0 (bx K (bx K (ak 0) "kind") "looking") (aj (zE (G.mD K) (aj (bx K (ak 0) "hands") aG)) aG)))) "looked")
   (aL (gO K (ak 1) (tC (.int 0)) "walks")
   (aL (gO K (ak 1) (tC (.int 0)) "looks")
   (gO K (ak 1) (tC (.int 0)) "passes")))))))))
def Wr (K:aC) (jG gh:Sp):TS:=
 (aL (bD (bx K (ak 0) "sweeper") (aN 2))
   (aL (bD (aR jG [] E0 (aj (bx K (ak 0) "heap") (aj (ak 1) aG))) (aN 3))
   (aL (fB ((tOr (cC (bA (rNe) (bx K (ak 2) "phase") (tC (.str "walk")))) (tOr (cC (bA (G.Mq) (ak 3) (tC .non))) (tB (aR gh [] E0 (aj (ak 0) (aj (ak 3) aG))))))) (bI (tC .non)) cL)
   (aL (gO K (ak 3) (bx K (ak 2) "sense") "tone")
   (aL (uO (tBM K "list" uT (bx K (ak 2) "grey") (aj (ak 1) aG)))
   (bI (bx K (ak 3) "birth")))))))
def Am (K:aC) (Znd:Sp):TS:=
 (aL (bD (iw aG) (aN 2))
   (aL (Fq (vp K (ak 1)) (aN 3)
   (aL (bD (aR Znd [] E0 (aj (ak 0) (aj (ak 3) aG))) (aN 4))
   (fB (cC (bA (G.Dl) (ak 4) (tC .non))) (uO (tBM K "list" uT (ak 2) (aj (ak 4) aG))) cL)))
   (bI (ak 2))))
def Wt (K:aC) (jG gh:Sp):TS:=
 (aL (bD (aR jG [] E0 (aj (bx K (ak 0) "heap") (aj (ak 1) aG))) (aN 3))
   (aL (fB ((tOr (cC (bA (G.Mq) (ak 3) (tC .non))) (cC (bA (rNe) (bx K (ak 3) "birth") (ak 2))))) (bI (tC (.bl true))) cL)
   (bI ((Zo (bA (Cv) (bx K (bx K (ak 0) "sweeper") "phase") (tC (.str "give"))) (Zfo (aR gh [] E0 (aj (ak 0) (aj (ak 3) aG)))))))))
def Ov (K:aC) (Vw Zc7:Sp) (H0:Hp):TS:=
 (bI (bA (yI) (aR Vw [] E0 (aj (ak 0) aG)) (iw (aj (G.Zja H0 (G.Zjc K (G.Zlz (G.Zj9 (bx K (ak 0) "names"))) [0] G.w6 (aR Zc7 [] E0 (aj (ak 2) (aj (ak 0) (aj (ak 1) aG)))))) aG))))
def Ec (K:aC) (Vx gh Q6:Sp):TS:=
 (aL (fB (tB (aR Vx [] E0 (aj (ak 0) (aj (ak 1) (aj (ak 2) aG))))) (bI (tC .non)) cL)
   (aL (fB ((Zgr (tB (aR Q6 [] E0 (aj (ak 0) aG))) (DQ (tB (aR gh [] E0 (aj (ak 0) (aj (bA (nH K) (bx K (bx K (ak 0) "heap") "cells") (ak 1)) aG))))))) (bI (tC .non)) cL)
   (bI (ak 1))))
def vU (K:aC) (jZ:Sp):TS:=
 (aL (bD (iw aG) (aN 2))
   (aL (Fq (G.Zax K (aj (bx K (ak 0) "hands") aG)) (Zmd K 2 (Hj (aN 3) (Hj (aN 4) Zme)))
   (fB (cC (bA (Cv) (bA (nO fun i j=>.int (Builtin.bitAnd i j)) (bA (rI (fun _ j=>0≤j) fun i j=>.int (i / 2 ^ j.toNat)) (ak 1) (ak 3)) (tC (.int 1))) (tC (.int 1)))) (uO (tBM K "list" MT (ak 2) (aj (aR jZ [] E0 (aj (ak 0) (aj (bx K (ak 4) "slots") aG))) aG))) cL))
   (bI (ak 2))))
def rY (K:aC) (Zji nP:Sp):TS:=
 (aL (uO (aR Zji [] E0 (aj (ak 0) aG)))
   (aL (bD (aR nP [] E0 (aj (ak 0) (aj (bx K (bx K (ak 0) "sweeper") "looked") aG))) (aN 1))
   (bI (fP (aj (tC (.str "begin")) (aj (bx K (bx K (ak 0) "sweeper") "turn") (aj (ak 1) aG)))))))
def rT (K:aC) (Ob Znb:Sp):TS:=
 (aL (fB (G.Zrc K (bx K (bx K (ak 0) "sweeper") "grey")) (bI (aR Znb [] E0 (aj (ak 0) aG))) cL)
   (bI (aR Ob [] E0 (aj (ak 0) aG))))
def Wo (K:aC) (jZ:Sp):TS:=
 (aL (bD (bx K (ak 0) "sweeper") (aN 1))
   (aL (bD (bA (nH K) (bx K (bx K (ak 0) "heap") "cells") (tBM K "list" Zjt (bx K (ak 1) "grey") (aj (tC (.int 0)) aG))) (aN 2))
   (aL (gO K (ak 1) (bA (nO fun i j=>.int (i + j)) (bx K (ak 1) "walks") (tC (.int 1))) "walks")
   (bI (fP (aj (tC (.str "walk")) (aj (bx K (ak 2) "birth") (aj (aR jZ [] E0 (aj (ak 0) (aj (bx K (ak 2) "fields") aG))) aG))))))))
def nD (K:aC) (eY dI fX:Addr) (qM jC Zcg nP:Sp):TS:=
 (aL (bD (aR nP [] E0 (aj (ak 0) (aj (ak 3) aG))) (aN 4))
   (aL (fB ((tOr (cC (bA (Cv) (ak 3) (tC (.int 0)))) (DQ ((tOr (tB (G.Ia (lC dI "stays" jC [] E0 (ak 2) aG) (G.Ia (lC eY "stays" jC [] E0 (ak 2) aG) (lC fX "stays" qM [] E0 (ak 2) aG)))) (G.Zrc K (ak 4))))))) (bI (aR Zcg [] E0 (aj (ak 0) aG))) cL)
   (aL (gO K (ak 1) (bA (nO fun i j=>.int (i + j)) (bx K (ak 1) "looks") (tC (.int 1))) "looks")
   (aL (fB (tB (G.Ia (lC dI "stays" jC [] E0 (ak 2) aG) (G.Ia (lC eY "stays" jC [] E0 (ak 2) aG) (lC fX "stays" qM [] E0 (ak 2) aG)))) (gO K (ak 1) (bA (nO fun i j=>.int (Builtin.bitOr i j)) (bx K (ak 1) "looked") (ak 3)) "looked") cL)
   (bI (fP (aj (tC (.str "look")) (aj (ak 3) (aj (ak 4) aG)))))))))
def ur (K:aC) (eY dI fX:Addr) (FP FJ qM zT jC Zcg nP:Sp):TS:=
 (aL (bD (bx K (ak 0) "sweeper") (aN 1))
   (aL (bD (bx K (bx K (ak 0) "kind") "looking") (aN 2))
   (aL (bD (G.Ia (lC dI "next_look" zT [] E0 (ak 2) (aj (bx K (ak 1) "looked") (aj (zE (G.mD K) (aj (bx K (ak 0) "hands") aG)) aG))) (G.Ia (lC eY "next_look" FP [] E0 (ak 2) (aj (bx K (ak 1) "looked") (aj (zE (G.mD K) (aj (bx K (ak 0) "hands") aG)) aG))) (lC fX "next_look" FJ [] E0 (ak 2) (aj (bx K (ak 1) "looked") (aj (zE (G.mD K) (aj (bx K (ak 0) "hands") aG)) aG))))) (aN 3))
   (nD K eY dI fX qM jC Zcg nP))))
def Zd4 (K:aC) (Vy Q7 Zt vJ:Sp):TS:=
 (aL (bD (bx K (ak 0) "sweeper") (aN 1))
   (aL (gO K (ak 1) (zE (G.mD K) (aj (bx K (bx K (ak 0) "heap") "cells") aG)) "stop")
   (aL (gO K (ak 1) (tC (.int 0)) "at")
   (aL (bD (aR Q7 [] E0 (aj (ak 0) aG)) (aN 2))
   (aL (fB (cC (bA (G.Dl) (ak 2) (tC .non))) (aL (gO K (ak 1) (tC (.str "lost")) "phase")
   (aL (gO K (ak 1) (ak 2) "loss")
   (bI (aR vJ [] E0 (aj (ak 2) aG))))) cL)
   (aL (gO K (ak 1) (tC (.str "give")) "phase")
   (aL (bD (aR Vy [] E0 (aj (bx K (ak 0) "heap") (aj (aR Zt [] E0 (aj (ak 0) aG)) aG))) (aN 3))
   (bI (fP (aj (tC (.str "cut")) (aj (zE (G.mD K) (aj (ak 3) aG)) (aj (ak 3) aG))))))))))))
def vW (K:aC) (gh Zc8 Zjh:Sp):TS:=
 (aL (Fq (vp K (aR Zc8 [] E0 (aj (bx K (ak 0) "heap") (aj (aR Zjh [] E0 (aj (ak 0) aG)) aG)))) (Zmd K 2 (Hj (aN 1) (Hj (aN 2) Zme)))
   (aL (bD (bA (nH K) (bx K (bx K (ak 0) "heap") "cells") (ak 1)) (aN 3))
   (fB (DQ (tB (aR gh [] E0 (aj (ak 0) (aj (ak 3) aG))))) (bI (fP (aj (tC (.str "lost")) (aj (bx K (ak 3) "birth") (aj (zE (G.Zmy K) (aj (ak 2) aG)) aG))))) cL)))
   (bI (tC .non)))
def An (K:aC) (aW:Addr) (Rb gh:Sp):TS:=
 (aL (bD (bx K (ak 0) "heap") (aN 1))
   (bI (G.tLC (vp K (lC aW "there" Rb [] E0 (ak 1) aG)) [0,1] (DQ (tB (aR gh [] E0 (aj (ak 1) (aj (bA (nH K) (bx K (ak 2) "cells") (ak 0)) aG))))) (ak 0))))
def vQ (K:aC):TS:=
 (bI (fP (aj (bA (eZ K) (ak 0) (tC (.int 0))) (aj (bA (eZ K) (ak 0) (tC (.int 1))) (aj (zE (G.Kl K) (aj (bA (eZ K) (ak 0) (tC (.int 2))) aG)) aG)))))
def rW (K:aC) (Zre Q5:Sp):TS:=
 (aL (fB (cC (bA (nO fun i j=>.bl (decide (i < j))) (bx K (bx K (ak 0) "sweeper") "at") (bx K (bx K (ak 0) "sweeper") "stop"))) (bI (aR Q5 [] E0 (aj (ak 0) aG))) cL)
   (bI (aR Zre [] E0 (aj (ak 0) aG))))
def vR (K:aC) (aW:Addr) (VP jG gh:Sp):TS:=
 (aL (bD (bx K (ak 0) "sweeper") (aN 1))
   (aL (bD (bx K (ak 1) "at") (aN 2))
   (aL (gO K (ak 1) (bA (nO fun i j=>.int (i + j)) (ak 2) (tC (.int 1))) "at")
   (aL (gO K (ak 1) (bA (nO fun i j=>.int (i + j)) (bx K (ak 1) "passes") (tC (.int 1))) "passes")
   (aL (bD (aR jG [] E0 (aj (bx K (ak 0) "heap") (aj (ak 2) aG))) (aN 3))
   (aL (fB ((tOr (cC (bA (G.Mq) (ak 3) (tC .non))) (tB (aR gh [] E0 (aj (ak 0) (aj (ak 3) aG)))))) (bI (fP (aj (tC (.str "pass")) (aj (ak 2) (aj (iw aG) aG))))) cL)
   (bI (fP (aj (tC (.str "back")) (aj (lC aW "back" VP [] E0 (bx K (ak 0) "heap") (aj (ak 2) aG)) (aj (iw (aj (ak 2) aG)) aG)))))))))))
def Zd3 (K:aC):TS:=
 (aL (bD (bx K (ak 0) "sweeper") (aN 1))
   (aL (gO K (ak 1) (tC (.str "rest")) "phase")
   (bI (fP (aj (tC (.str "end")) (aj (bx K (ak 1) "turn") (aj (iw (aj (bx K (ak 1) "walks") (aj (bx K (ak 1) "looks") (aj (bx K (ak 1) "passes") aG)))) aG)))))))
def o8 (K:aC) (vJ:Sp):TS:=
 (bI (aR vJ [] E0 (aj (bx K (bx K (ak 0) "sweeper") "loss") aG)))
def Wq (K:aC) (cI cH cG bO:Addr) (Mj Mi Mh Fy:Sp):TS:=
 (aL (bD (G.Zn9 [("rest",cI),("walk",cG),("give",cH),("lost",bO)] (bx K (bx K (ak 0) "sweeper") "phase")) (aN 1))
   (bI (G.Vu 1 [(cI,Mj),(cG,Mh),(cH,Mi),(bO,Fy)] E0 (aj (ak 0) aG))))
def Ji:TS:=
 (bI (bA (nO fun i j=>.int (i - j)) (bA (rI Zh fun i j=>.int (i * 2 ^ j.toNat)) (tC (.int 1)) (ak 0)) (tC (.int 1))))
def nG:TS:=
 (bI (tC (.int 0)))
def mL:TS:=
 (bI (tC (.int 0)))
def qi:TS:=
 (bI (tC (.bl true)))
def pC (Ig:Sp):TS:=
 (bI (aR Ig [] E0 (aj (ak 1) aG)))
def pD:TS:=
 (aL (Fq (Lr (aj (ak 2) aG)) (aN 3)
   (fB (cC (bA (Cv) (bA (nO fun i j=>.int (Builtin.bitAnd i j)) (bA (rI (fun _ j=>0≤j) fun i j=>.int (i / 2 ^ j.toNat)) (ak 1) (ak 3)) (tC (.int 1))) (tC (.int 0)))) (bI (bA (rI Zh fun i j=>.int (i * 2 ^ j.toNat)) (tC (.int 1)) (ak 3))) cL))
   (bI (tC (.int 0))))
def pB (Ig:Sp):TS:=
 (bI (aR Ig [] E0 (aj (ak 2) aG)))
def wj:TS:=
 (bI (tC (.bl false)))
def qj (K:aC):TS:=
 (aL (gO K (ak 0) (ak 1) "looking")
   (gO K (ak 0) (ak 2) "tells"))
def Ak (K:aC):TS:=
 (bI (bx K (bA (nH K) (bx K (ak 0) "hands") (ak 1)) "slots"))
def El (K:aC) (aK:Addr) (jG cZ:Sp) (E:XK):TS:=
 (aL (bD (aR jG [] E0 (aj (bx K (ak 0) "heap") (aj (bA (nH K) (aR cZ [] E0 (aj (ak 0) (aj (ak 1) aG))) (ak 2)) aG))) (aN 3))
   (aL (fB (cC (bA (G.Mq) (ak 3) (tC .non))) (G.HY aK E (aj (tC (.str "the slot holds no cell")) aG)) cL)
   (bI (ak 3))))
def yl (K:aC) (aZ aQ:Addr) (FQ oF:Sp) (E:XK):TS:=
 (aL (bD (aR oF [] E (aj (ak 0) (aj (ak 1) (aj (ak 2) aG)))) (aN 4))
   (aL (fB (DQ (tB (lC aZ "has_field" FQ [] E0 (ak 4) (aj (ak 3) aG)))) (G.HY aQ E (aj (tC (.str "the cell does not have the field")) aG)) cL)
   (bI (bx K (ak 4) "fields"))))
def um (K:aC):TS:=
 (aL (fB (cC (bA (Cv) (bA (nO fun i j=>.int (Builtin.bitAnd i j)) (bx K (bx K (ak 0) "kind") "tells") (tC (.int 1))) (tC (.int 0)))) (bI (iw aG)) cL)
   (bI (iw (aj (ak 1) aG))))
def uo (K:aC) (Vv:Sp):TS:=
 (aL (fB ((tOr (cC (bA (Cv) (bA (nO fun i j=>.int (Builtin.bitAnd i j)) (bx K (bx K (ak 0) "kind") "tells") (tC (.int 2))) (tC (.int 0)))) (tB (aR Vv [] E0 (aj (ak 0) (aj (ak 1) aG)))))) (bI (iw aG)) cL)
   (bI (iw (aj (ak 2) aG))))
def Eh (K:aC) (aW:Addr) (VM d8 cZ:Sp) (E:XK):TS:=
 (aL (bD (aR cZ [] E0 (aj (ak 0) (aj (bA (eZ K) (ak 1) (tC (.int 1))) aG))) (aN 2))
   (aL (bD (bA (eZ K) (ak 1) (tC (.int 3))) (aN 3))
   (aL (bD (bA (eZ K) (ak 1) (tC (.int 4))) (aN 4))
   (aL (bD (lC aW "make" VM [] E (bx K (ak 0) "heap") (aj (ak 3) (aj (ak 4) (aj (bx K (bx K (ak 0) "sweeper") "sense") aG)))) (aN 5))
   (aL (bD (ak 5) (Mz (ak 2) (bA (eZ K) (ak 1) (tC (.int 2))) Av))
   (bI (fP (aj (tC (.str "made")) (aj (aR d8 [] E0 (aj (bx K (ak 0) "heap") (aj (ak 5) aG))) (aj (iw aG) aG))))))))))
def Jh (K:aC) (d8 xP cZ:Sp) (E:XK):TS:=
 (aL (bD (bA (eZ K) (ak 1) (tC (.int 1))) (aN 2))
   (aL (bD (bA (eZ K) (ak 1) (tC (.int 3))) (aN 3))
   (aL (bD (bA (eZ K) (ak 1) (tC (.int 4))) (aN 4))
   (aL (bD (bA (nH K) (aR xP [] E (aj (ak 0) (aj (ak 2) (aj (ak 3) (aj (ak 4) aG))))) (ak 4)) (aN 5))
   (aL (bD (ak 5) (Mz (aR cZ [] E0 (aj (ak 0) (aj (ak 2) aG))) (bA (eZ K) (ak 1) (tC (.int 2))) Av))
   (bI (fP (aj (tC (.str "got")) (aj (aR d8 [] E0 (aj (bx K (ak 0) "heap") (aj (ak 5) aG))) (aj (iw aG) aG))))))))))
def Jg (K:aC) (d8 xP jZ cZ uc N8:Sp) (E:XK):TS:=
 (aL (bD (bA (eZ K) (ak 1) (tC (.int 1))) (aN 2))
   (aL (bD (bA (eZ K) (ak 1) (tC (.int 3))) (aN 3))
   (aL (bD (aR xP [] E (aj (ak 0) (aj (ak 2) (aj (bA (eZ K) (ak 1) (tC (.int 2))) (aj (ak 3) aG))))) (aN 4))
   (aL (bD (bA (nH K) (ak 4) (ak 3)) (aN 5))
   (aL (bD (bA (nH K) (aR cZ [] E0 (aj (ak 0) (aj (ak 2) aG))) (bA (eZ K) (ak 1) (tC (.int 4)))) (aN 6))
   (aL (bD (ak 6) (Mz (ak 4) (ak 3) Av))
   (aL (bD (aR jZ [] E0 (aj (ak 0) (aj (bA (yI) (aR N8 [] E0 (aj (ak 0) (aj (ak 5) aG))) (aR uc [] E0 (aj (ak 0) (aj (ak 2) (aj (ak 6) aG))))) aG))) (aN 7))
   (bI (fP (aj (tC (.str "put")) (aj (aR d8 [] E0 (aj (bx K (ak 0) "heap") (aj (ak 5) aG))) (aj (ak 7) aG))))))))))))
def Ek (K:aC) (d8 cZ:Sp):TS:=
 (aL (bD (aR cZ [] E0 (aj (ak 0) (aj (bA (eZ K) (ak 1) (tC (.int 1))) aG))) (aN 2))
   (aL (bD (bA (nH K) (ak 2) (bA (eZ K) (ak 1) (tC (.int 3)))) (aN 3))
   (aL (bD (ak 3) (Mz (ak 2) (bA (eZ K) (ak 1) (tC (.int 2))) Av))
   (bI (fP (aj (tC (.str "copied")) (aj (aR d8 [] E0 (aj (bx K (ak 0) "heap") (aj (ak 3) aG))) (aj (iw aG) aG))))))))
def Ej (K:aC) (d8 cZ:Sp):TS:=
 (aL (bD (aR cZ [] E0 (aj (ak 0) (aj (bA (eZ K) (ak 1) (tC (.int 1))) aG))) (aN 2))
   (aL (bD (bA (nH K) (ak 2) (bA (eZ K) (ak 1) (tC (.int 2)))) (aN 3))
   (aL (bD (tC .non) (Mz (ak 2) (bA (eZ K) (ak 1) (tC (.int 2))) Av))
   (bI (fP (aj (tC (.str "dropped")) (aj (aR d8 [] E0 (aj (bx K (ak 0) "heap") (aj (ak 3) aG))) (aj (iw aG) aG))))))))
def Ei (K:aC) (d8 jZ cZ uc:Sp):TS:=
 (aL (bD (bA (eZ K) (ak 1) (tC (.int 1))) (aN 2))
   (aL (bD (bA (eZ K) (ak 1) (tC (.int 3))) (aN 3))
   (aL (bD (bA (nH K) (aR cZ [] E0 (aj (ak 0) (aj (ak 2) aG))) (bA (eZ K) (ak 1) (tC (.int 2)))) (aN 4))
   (aL (bD (ak 4) (Mz (aR cZ [] E0 (aj (ak 0) (aj (ak 3) aG))) (bA (eZ K) (ak 1) (tC (.int 4))) Av))
   (aL (bD (aR jZ [] E0 (aj (ak 0) (aj (aR uc [] E0 (aj (ak 0) (aj (ak 2) (aj (ak 4) aG)))) aG))) (aN 5))
   (bI (fP (aj (tC (.str "given")) (aj (aR d8 [] E0 (aj (bx K (ak 0) "heap") (aj (ak 4) aG))) (aj (ak 5) aG))))))))))
def Ao (K:aC) (oF:Sp) (E:XK):TS:=
 (aL (bD (aR oF [] E (aj (ak 0) (aj (bA (eZ K) (ak 1) (tC (.int 1))) (aj (bA (eZ K) (ak 1) (tC (.int 2))) aG)))) (aN 2))
   (aL (bD (bx K (ak 2) "load") (aN 3))
   (aL (gO K (ak 2) (bA (eZ K) (ak 1) (tC (.int 3))) "load")
   (bI (fP (aj (tC (.str "wrote")) (aj (ak 3) (aj (iw aG) aG))))))))
def Ef (K:aC) (oF:Sp) (E:XK):TS:=
 (aL (bD (aR oF [] E (aj (ak 0) (aj (bA (eZ K) (ak 1) (tC (.int 1))) (aj (bA (eZ K) (ak 1) (tC (.int 2))) aG)))) (aN 2))
   (bI (fP (aj (tC (.str "read")) (aj (bx K (ak 2) "load") (aj (iw aG) aG))))))
def Eg (K:aC) (oF cZ:Sp) (E:XK):TS:=
 (aL (bD (bA (eZ K) (ak 1) (tC (.int 1))) (aN 2))
   (aL (bD (bA (eZ K) (ak 1) (tC (.int 2))) (aN 3))
   (aL (bD (bx K (aR oF [] E (aj (ak 0) (aj (ak 2) (aj (ak 3) aG)))) "birth") (aN 4))
   (aL (Zfq (bx K (ak 0) "names") (bA (eZ K) (ak 1) (tC (.int 3))) (fP (aj (bA (nH K) (aR cZ [] E0 (aj (ak 0) (aj (ak 2) aG))) (ak 3)) (aj (ak 4) aG))))
   (bI (fP (aj (tC (.str "named")) (aj (ak 4) (aj (iw aG) aG)))))))))
def Ed (K:aC) (d8 jZ Oa cZ:Sp) (E:XK):TS:=
 (aL (bD (aR Oa [] E (aj (ak 0) (aj (bA (eZ K) (ak 1) (tC (.int 3))) aG))) (aN 2))
   (aL (bD (ak 2) (Mz (aR cZ [] E0 (aj (ak 0) (aj (bA (eZ K) (ak 1) (tC (.int 1))) aG))) (bA (eZ K) (ak 1) (tC (.int 2))) Av))
   (aL (bD (aR jZ [] E0 (aj (ak 0) (aj (iw (aj (ak 2) aG)) aG))) (aN 3))
   (bI (fP (aj (tC (.str "sought")) (aj (aR d8 [] E0 (aj (bx K (ak 0) "heap") (aj (ak 2) aG))) (aj (ak 3) aG))))))))
def uq (K:aC) (bh:Addr) (Vx:Sp) (E:XK):TS:=
 (aL (fB (tB (Vt (ak 1) (bx K (ak 0) "names"))) (G.HY bh E (aj (tC (.str "the weak name was never given")) aG)) cL)
   (aL (bD (bA (eZ K) (Uq (bx K (ak 0) "names") (ak 1)) (tC (.int 0))) (aN 2))
   (aL (bD (bA (eZ K) (Uq (bx K (ak 0) "names") (ak 1)) (tC (.int 1))) (aN 3))
   (aL (fB (tB (aR Vx [] E0 (aj (ak 0) (aj (ak 2) (aj (ak 3) aG))))) (bI (tC .non)) cL)
   (bI (ak 2))))))
def Zjr (K:aC) (gK gJ jf gH gG gF je gD gB fc:Addr) (Zcf Zce Zgv Zcd Zcc Zcb Zgu Zca Zc9 Zu:Sp) (E:XK):TS:=
 (aL (bD (G.Zn9 [("make",gG),("get",jf),("put",je),("copy",gK),("drop",gJ),("give",gH),("write",fc),("read",gD),("name",gF),("seek",gB)] (bA (eZ K) (ak 1) (tC (.int 0)))) (aN 2))
   (bI (G.Vu 2 [(gG,Zcc),(jf,Zgv),(je,Zgu),(gK,Zcf),(gJ,Zce),(gH,Zcd),(fc,Zu),(gD,Zca),(gF,Zcb),(gB,Zc9)] E (aj (ak 0) (aj (ak 1) aG)))))
def yE (K:aC):TS:=
 (aL (fB (cC (bA (nO fun i j=>.bl (decide (i < j))) (ak 1) (zE (G.mD K) (aj (ak 0) aG)))) (bI (bA (nH K) (ak 0) (ak 1))) cL)
   (bI (tC (.int 0))))
def yC:TS:=
 (bI (bA (rI (fun _ j=>0 < j) fun i j=>.int (i % j)) (bA (rI (fun _ j=>0 < j) fun i j=>.int (i % j)) (bA (rI QV fun i j=>.int (i * j)) (bA (rI (fun _ j=>0 < j) fun i j=>.int (i % j)) (ak 0) (ak 1)) (tC (.int 48271))) (ak 1)) (ak 2)))
def yo:TS:=
 (aL (bD (tC (.str "abcdefghijklmnopqrstuvwxyz")) (aN 2))
   (aL (bD (bA (nO fun i j=>.int (i + j)) (tC (.int 1)) (bA (rI (fun _ j=>0 < j) fun i j=>.int (i % j)) (ak 0) (tC (.int 12)))) (aN 3))
   (aL (bD (bA (rI (fun _ j=>0 < j) fun i j=>.int (i % j)) (bA (rI KJ fun i j=>.int (i / j)) (ak 0) (tC (.int 12))) (ak 3)) (aN 4))
   (aL (bD (bA (Zju) (ak 2) (bA (rI (fun _ j=>0 < j) fun i j=>.int (i % j)) (bA (rI KJ fun i j=>.int (i / j)) (ak 0) (tC (.int 5))) (tC (.int 26)))) (aN 5))
   (aL (bD (bA (Zju) (ak 2) (bA (rI (fun _ j=>0 < j) fun i j=>.int (i % j)) (bA (nO fun i j=>.int (i + j)) (bA (rI KJ fun i j=>.int (i / j)) (ak 0) (tC (.int 7))) (bA (rI QV fun i j=>.int (i * j)) (tC (.int 5)) (ak 1))) (tC (.int 26)))) (aN 6))
   (bI (bA (G.Zjw) (bA (G.Zjw) (bA (G.Zfs) (ak 5) (ak 4)) (ak 6)) (bA (G.Zfs) (ak 5) (bA (nO fun i j=>.int (i - j)) (bA (nO fun i j=>.int (i - j)) (ak 3) (tC (.int 1))) (ak 4))))))))))
def vY (K:aC) (fK bF lO:Sp):TS:=
 (aL (bD (aR fK [] E0 (aj (ak 0) (aj (tC (.int 1)) aG))) (aN 1))
   (aL (bD (iw aG) (aN 2))
   (aL (Fq (Lr (aj (bA (nO fun i j=>.int (i + j)) (tC (.int 1)) (aR bF [] E0 (aj (ak 1) (aj (tC (.int 104729)) (aj (tC (.int 5)) aG))))) aG)) (aN 3)
   (aL (bD (tC (.int 3)) (aN 4))
   (aL (fB (cC (bA (Cv) (bA (rI (fun _ j=>0 < j) fun i j=>.int (i % j)) (ak 1) (tC (.int 3))) (tC (.int 1)))) (bD (bA (nO fun i j=>.int (i + j)) (tC (.int 3)) (aR bF [] E0 (aj (bA (nO fun i j=>.int (i + j)) (ak 1) (bA (rI QV fun i j=>.int (i * j)) (bA (rI QV fun i j=>.int (i * j)) (tC (.int 7)) (ak 3)) (ak 3))) (aj (tC (.int 224737)) (aj (tC (.int 7)) aG))))) (aN 4)) cL)
   (uO (tBM K "list" uT (ak 2) (aj (fP (aj (aR lO [] E0 (aj (ak 1) (aj (ak 3) aG))) (aj (ak 4) aG))) aG))))))
   (bI (ak 2)))))
def yr (fK bF:Sp):TS:=
 (aL (bD (aR fK [] E0 (aj (ak 0) (aj (tC (.int 2)) aG))) (aN 1))
   (aL (fB (cC (bA (Cv) (aR bF [] E0 (aj (ak 1) (aj (tC (.int 7919)) (aj (tC (.int 4)) aG)))) (tC (.int 1)))) (bI (bA (nO fun i j=>.int (i + j)) (tC (.int 4)) (bA (rI (fun _ j=>0 < j) fun i j=>.int (i % j)) (bA (rI KJ fun i j=>.int (i / j)) (ak 1) (tC (.int 4))) (tC (.int 60))))) cL)
   (bI (bA (nO fun i j=>.int (i - j)) (bA (rI Zh fun i j=>.int (i ^ j.toNat)) (tC (.int 10)) (tC (.int 15))) (bA (rI (fun _ j=>0 < j) fun i j=>.int (i % j)) (ak 1) (bA (rI Zh fun i j=>.int (i ^ j.toNat)) (tC (.int 10)) (tC (.int 12))))))))
def yx (eY dI jP fX:Addr) (pZ:Sp):TS:=
 (aL (fB (cC (bA (Cv) (bA (rI (fun _ j=>0 < j) fun i j=>.int (i % j)) (ak 0) (tC (.int 3))) (tC (.int 0)))) (bI (zB jP pZ [] E0 (aj (G.Ib dI) (aj (bA (rI (fun _ j=>0 < j) fun i j=>.int (i % j)) (bA (rI KJ fun i j=>.int (i / j)) (ak 0) (tC (.int 3))) (tC (.int 4))) aG)))) cL)
   (aL (fB (cC (bA (Cv) (bA (rI (fun _ j=>0 < j) fun i j=>.int (i % j)) (ak 0) (tC (.int 3))) (tC (.int 1)))) (bI (zB jP pZ [] E0 (aj (G.Ib eY) (aj (bA (rI (fun _ j=>0 < j) fun i j=>.int (i % j)) (bA (rI KJ fun i j=>.int (i / j)) (ak 0) (tC (.int 3))) (tC (.int 4))) aG)))) cL)
   (bI (zB jP pZ [] E0 (aj (G.Ib fX) (aj (bA (rI (fun _ j=>0 < j) fun i j=>.int (i % j)) (bA (rI KJ fun i j=>.int (i / j)) (ak 0) (tC (.int 3))) (tC (.int 4))) aG))))))
def yu (K:aC) (bF:Sp):TS:=
 (aL (bD (bA (nH K) (iw (aj (tC (.int 1)) (aj (tC (.int 2)) (aj (tC (.int 2)) (aj (tC (.int 3)) (aj (tC (.int 0)) (aj (tC (.int 8)) aG))))))) (aR bF [] E0 (aj (ak 0) (aj (tC (.int 611953)) (aj (tC (.int 6)) aG))))) (aN 3))
   (aL (bD (tC (.int 0)) (aN 4))
   (aL (fB (cC (bA (Cv) (bA (rI (fun _ j=>0 < j) fun i j=>.int (i % j)) (ak 0) (tC (.int 3))) (tC (.int 1)))) (bD (bA (rI (fun _ j=>0 < j) fun i j=>.int (i % j)) (ak 0) (tC (.int 7))) (aN 4)) cL)
   (aL (fB (cC (bA (Cv) (bA (rI (fun _ j=>0 < j) fun i j=>.int (i % j)) (ak 0) (tC (.int 3))) (tC (.int 2)))) (bD (bA (rI (fun _ j=>0 < j) fun i j=>.int (i % j)) (ak 0) (bA (nO fun i j=>.int (i + j)) (bA (rI Zh fun i j=>.int (i ^ j.toNat)) (tC (.int 10)) (tC (.int 12))) (tC (.int 1)))) (aN 4)) cL)
   (bI (fP (aj (tC (.str "make")) (aj (ak 1) (aj (ak 2) (aj (ak 3) (aj (ak 4) aG)))))))))))
def yw:TS:=
 (aL (bD (bA (rI (fun _ j=>0 < j) fun i j=>.int (i % j)) (ak 0) (bA (rI Zh fun i j=>.int (i ^ j.toNat)) (tC (.int 10)) (tC (.int 60)))) (aN 1))
   (aL (fB (cC (bA (Cv) (bA (rI (fun _ j=>0 < j) fun i j=>.int (i % j)) (bA (rI KJ fun i j=>.int (i / j)) (ak 0) (tC (.int 7))) (tC (.int 2))) (tC (.int 1)))) (bI (tUn (rU fun i=>.int (-i)) (ak 1))) cL)
   (bI (ak 1))))
def yD (K:aC) (bF VG VF lO:Sp):TS:=
 (aL (bD (aR bF [] E0 (aj (ak 0) (aj (tC (.int 104729)) (aj (zE (G.mD K) (aj (ak 1) aG)) aG)))) (aN 3))
   (aL (bD (aR bF [] E0 (aj (ak 0) (aj (tC (.int 224737)) (aj (bA (eZ K) (bA (nH K) (ak 1) (ak 3)) (tC (.int 1))) aG)))) (aN 4))
   (aL (bD (aR bF [] E0 (aj (ak 0) (aj (tC (.int 350377)) (aj (bA (eZ K) (bA (nH K) (ak 1) (ak 3)) (tC (.int 1))) aG)))) (aN 5))
   (aL (bD (aR bF [] E0 (aj (ak 0) (aj (tC (.int 479909)) (aj (bA (nH K) (iw (aj (tC (.int 3)) (aj (tC (.int 8)) aG))) (bA (rI KJ fun i j=>.int (i / j)) (bA (rI (fun _ j=>0 < j) fun i j=>.int (i % j)) (ak 0) (tC (.int 5))) (tC (.int 4)))) aG)))) (aN 6))
   (aL (bD (aR bF [] E0 (aj (ak 0) (aj (tC (.int 7919)) (aj (tC (.int 20)) aG)))) (aN 7))
   (aL (fB (cC (bA (nO fun i j=>.bl (decide (i < j))) (ak 7) (tC (.int 5)))) (bI (aR VF [] E0 (aj (ak 0) (aj (ak 3) (aj (ak 4) aG))))) cL)
   (aL (fB (cC (bA (nO fun i j=>.bl (decide (i < j))) (ak 7) (tC (.int 8)))) (bI (fP (aj (tC (.str "get")) (aj (ak 3) (aj (ak 4) (aj (ak 5) (aj (ak 6) aG))))))) cL)
   (aL (fB (cC (bA (nO fun i j=>.bl (decide (i < j))) (ak 7) (tC (.int 11)))) (bI (fP (aj (tC (.str "put")) (aj (ak 3) (aj (ak 5) (aj (ak 6) (aj (ak 4) aG))))))) cL)
   (aL (fB (cC (bA (Cv) (ak 7) (tC (.int 11)))) (bI (fP (aj (tC (.str "copy")) (aj (ak 3) (aj (ak 4) (aj (ak 5) aG)))))) cL)
   (aL (fB (cC (bA (Cv) (ak 7) (tC (.int 12)))) (bI (fP (aj (tC (.str "drop")) (aj (ak 3) (aj (ak 4) aG))))) cL)
   (aL (fB (cC (bA (nO fun i j=>.bl (decide (i < j))) (ak 7) (tC (.int 15)))) (aL (bD (aR bF [] E0 (aj (ak 0) (aj (tC (.int 746773)) (aj (zE (G.mD K) (aj (ak 1) aG)) aG)))) (aN 8))
   (bI (fP (aj (tC (.str "give")) (aj (ak 3) (aj (ak 4) (aj (ak 8) (aj (aR bF [] E0 (aj (ak 0) (aj (tC (.int 882377)) (aj (bA (eZ K) (bA (nH K) (ak 1) (ak 8)) (tC (.int 1))) aG)))) aG)))))))) cL)
   (aL (fB (cC (bA (Cv) (ak 7) (tC (.int 15)))) (bI (fP (aj (tC (.str "write")) (aj (ak 3) (aj (ak 5) (aj (aR VG [] E0 (aj (ak 0) aG)) aG)))))) cL)
   (aL (bD (aR lO [] E0 (aj (ak 2) (aj (aR bF [] E0 (aj (ak 0) (aj (tC (.int 1299709)) (aj (tC (.int 2)) aG)))) aG))) (aN 9))
   (aL (fB (cC (bA (nO fun i j=>.bl (decide (i < j))) (ak 7) (tC (.int 18)))) (bI (fP (aj (tC (.str "name")) (aj (ak 3) (aj (ak 5) (aj (ak 9) aG)))))) cL)
   (bI (fP (aj (tC (.str "seek")) (aj (ak 3) (aj (ak 4) (aj (ak 9) aG))))))))))))))))))))
def v9 (K:aC) (VL bF:Sp):TS:=
 (aL (bD (aR VL [] E0 (aj (ak 0) (aj (ak 1) (aj (ak 2) aG)))) (aN 3))
   (aL (fB ((Zgr (cC (bA (Cv) (bA (eZ K) (ak 3) (tC (.int 0))) (tC (.str "put")))) (cC (bA (Cv) (bA (rI (fun _ j=>0 < j) fun i j=>.int (i % j)) (bA (rI KJ fun i j=>.int (i / j)) (ak 0) (tC (.int 5))) (tC (.int 2))) (tC (.int 0)))))) (bI (iw (aj (ak 3) (aj (fP (aj (tC (.str "drop")) (aj (bA (eZ K) (ak 3) (tC (.int 1))) (aj (bA (eZ K) (ak 3) (tC (.int 4))) aG)))) aG)))) cL)
   (aL (fB ((Zgr (cC (bA (Cv) (bA (eZ K) (ak 3) (tC (.int 0))) (tC (.str "get")))) (cC (bA (Cv) (bA (rI (fun _ j=>0 < j) fun i j=>.int (i % j)) (bA (rI KJ fun i j=>.int (i / j)) (ak 0) (tC (.int 5))) (tC (.int 2))) (tC (.int 0)))))) (bI (iw (aj (ak 3) (aj (fP (aj (tC (.str "put")) (aj (bA (eZ K) (ak 3) (tC (.int 1))) (aj (bA (eZ K) (ak 3) (tC (.int 3))) (aj (bA (eZ K) (ak 3) (tC (.int 4))) (aj (aR bF [] E0 (aj (ak 0) (aj (tC (.int 1159523)) (aj (tC (.int 3)) aG)))) aG)))))) aG)))) cL)
   (bI (iw (aj (ak 3) aG))))))
def oJ (K:aC) (lO:Sp):TS:=
 (aL (Fq (Lr (aj (zE (G.mD K) (aj (ak 0) aG)) aG)) (aN 4)
   (aL (fB (cC (bA (Cv) (ak 5) (tC (.int 1)))) (bD (bA (yI) (ak 3) (iw (aj (fP (aj (tC (.str "get")) (aj (ak 4) (aj (tC (.int 1)) (aj (tC (.int 0)) (aj (bA (rI (fun _ j=>0 < j) fun i j=>.int (i % j)) (ak 4) (tC (.int 2))) aG)))))) (aj (fP (aj (tC (.str "put")) (aj (ak 4) (aj (tC (.int 0)) (aj (bA (rI (fun _ j=>0 < j) fun i j=>.int (i % j)) (ak 4) (tC (.int 2))) (aj (tC (.int 2)) aG)))))) aG)))) (aN 3)) cL)
   (aL (fB (cC (bA (nO fun i j=>.bl (decide (j < i))) (ak 5) (tC (.int 1)))) (bD (bA (yI) (ak 3) (iw (aj (fP (aj (tC (.str "make")) (aj (ak 4) (aj (tC (.int 0)) (aj (tC (.int 1)) (aj (tC (.int 0)) aG)))))) (aj (fP (aj (tC (.str "put")) (aj (ak 4) (aj (tC (.int 0)) (aj (tC (.int 0)) (aj (tC (.int 1)) aG)))))) (aj (fP (aj (tC (.str "drop")) (aj (ak 4) (aj (tC (.int 1)) aG)))) aG))))) (aN 3)) cL)
   (fB (cC (bA (Cv) (ak 5) (tC (.int 3)))) (bD (bA (yI) (ak 3) (iw (aj (fP (aj (tC (.str "name")) (aj (ak 4) (aj (tC (.int 0)) (aj (aR lO [] E0 (aj (ak 2) (aj (bA (rI (fun _ j=>0 < j) fun i j=>.int (i % j)) (ak 4) (tC (.int 2))) aG))) aG))))) (aj (fP (aj (tC (.str "drop")) (aj (ak 4) (aj (tC (.int 0)) aG)))) aG)))) (aN 3)) cL))))
   (bI (ak 3)))
def vX (K:aC) (bF lO:Sp):TS:=
 (aL (bD (iw aG) (aN 3))
   (aL (Fq (Lr (aj (zE (G.mD K) (aj (ak 0) aG)) aG)) (aN 4)
   (aL (bD (bA (yI) (ak 3) (iw (aj (fP (aj (tC (.str "make")) (aj (ak 4) (aj (tC (.int 0)) (aj (tC (.int 2)) (aj (tC (.int 0)) aG)))))) (aj (fP (aj (tC (.str "make")) (aj (ak 4) (aj (tC (.int 1)) (aj (tC (.int 1)) (aj (tC (.int 0)) aG)))))) aG)))) (aN 3))
   (bD (bA (yI) (ak 3) (iw (aj (fP (aj (tC (.str "put")) (aj (ak 4) (aj (tC (.int 0)) (aj (bA (rI (fun _ j=>0 < j) fun i j=>.int (i % j)) (ak 4) (tC (.int 2))) (aj (tC (.int 1)) aG)))))) (aj (fP (aj (tC (.str "drop")) (aj (ak 4) (aj (tC (.int 1)) aG)))) aG)))) (aN 3))))
   (aL (bD (aR bF [] E0 (aj (ak 1) (aj (tC (.int 746773)) (aj (tC (.int 4)) aG)))) (aN 5))
   (aL (fB (cC (bA (nO fun i j=>.bl (decide (j < i))) (ak 5) (tC (.int 1)))) (bD (bA (yI) (ak 3) (G.tLC (Lr (aj (zE (G.mD K) (aj (ak 0) aG)) aG)) [] G.w6 (fP (aj (tC (.str "make")) (aj (ak 0) (aj (tC (.int 1)) (aj (tC (.int 0)) (aj (tC (.int 0)) aG)))))))) (aN 3)) cL)
   (aL (bD (bA (yI) (ak 3) (bA (ZK) (iw (aj (tC .non) aG)) (bA (nO fun i j=>.int (i + j)) (tC (.int 1)) (aR bF [] E0 (aj (ak 1) (aj (tC (.int 882377)) (aj (tC (.int 4)) aG))))))) (aN 3))
   (oJ K lO))))))
def pq (K:aC) (fK vK bF:Sp):TS:=
 (aL (bD (aR fK [] E0 (aj (ak 0) (aj (tC (.int 2)) aG))) (aN 3))
   (aL (bD (tC (.int 0)) (aN 4))
   (aL (Fq (vp K (tSl (Zu9 K) (ak 0) (Zfn (tC (.int 3))) (Zfn (tC (.int 63))))) (aN 5)
   (aL (bD (bA (nO fun i j=>.int (i + j)) (ak 5) (bA (rI QV fun i j=>.int (i * j)) (bA (rI QV fun i j=>.int (i * j)) (ak 4) (ak 4)) (tC (.int 1000003)))) (aN 6))
   (aL (fB (cC (bA (Cv) (aR bF [] E0 (aj (ak 6) (aj (tC (.int 1020379)) (aj (tC (.int 3)) aG)))) (tC (.int 0)))) (bD (bA (yI) (ak 2) (bA (ZK) (iw (aj (tC .non) aG)) (bA (nO fun i j=>.int (i + j)) (tC (.int 1)) (aR bF [] E0 (aj (ak 6) (aj (tC (.int 1159523)) (aj (tC (.int 6)) aG))))))) (aN 2)) (bD (bA (yI) (ak 2) (aR vK [] E0 (aj (ak 6) (aj (ak 1) (aj (ak 3) aG))))) (aN 2)))
   (Zrd 4 (tC (.int 1)) (ipI fun i j=>i + j)))))
   (bI (bA (yI) (ak 2) (bA (ZK) (iw (aj (tC .non) aG)) (bA (nO fun i j=>.int (i + j)) (tC (.int 12)) (aR bF [] E0 (aj (ak 3) (aj (tC (.int 1020379)) (aj (tC (.int 12)) aG)))))))))))
def yq (K:aC) (fK vK bF Q8:Sp):TS:=
 (aL (bD (iw aG) (aN 2))
   (aL (fB (cC (bA (nO fun i j=>.bl (decide (j < i))) (aR bF [] E0 (aj (aR fK [] E0 (aj (ak 0) (aj (tC (.int 0)) aG))) (aj (tC (.int 611953)) (aj (tC (.int 4)) aG)))) (tC (.int 0)))) (bD (aR Q8 [] E0 (aj (ak 1) (aj (aR fK [] E0 (aj (ak 0) (aj (tC (.int 0)) aG))) (aj (aR fK [] E0 (aj (ak 0) (aj (tC (.int 2)) aG))) aG)))) (aN 2)) cL)
   (pq K fK vK bF)))
def uv:TS:=
 (bI ((Zo (zE (G.QF) (aj (ak 0) (aj (tC (.ty "int")) aG))) (Zfo (zE (G.QF) (aj (ak 0) (aj (tC (.ty "bool")) aG)))))))
def vZ (K:aC) (zR:Sp):TS:=
 (aL (fB ((tOr (DQ (tB (zE (G.QF) (aj (ak 0) (aj (tC (.ty "tuple")) aG))))) (tOr (cC (bA (rNe) (zE (G.mD K) (aj (ak 0) aG)) (tC (.int 3)))) (DQ (tB (zE (G.QF) (aj (bA (eZ K) (ak 0) (tC (.int 0))) (aj (tC (.ty "str")) aG)))))))) (bI (tC (.bl false))) cL)
   (aL (fB ((tOr (DQ (tB (aR zR [] E0 (aj (bA (eZ K) (ak 0) (tC (.int 1))) aG)))) (DQ (tB (zE (G.QF) (aj (bA (eZ K) (ak 0) (tC (.int 2))) (aj (tC (.ty "list")) aG))))))) (bI (tC (.bl false))) cL)
   (aL (Fq (vp K (bA (eZ K) (ak 0) (tC (.int 2)))) (aN 2)
   (fB (DQ (tB (aR zR [] E0 (aj (ak 2) aG)))) (bI (tC (.bl false))) cL))
   (bI (bA (G.Zjv K false) (ak 0) (ak 1))))))
def yz (aK bM aQ bh:Addr) (Zu4:Sp):TS:=
 (aL (bD (tC .non) (aN 2))
   (aL (G.Zrb (fun cls=>cls=Value.ref aK∨cls=Value.ref aQ∨cls=Value.ref bM∨cls=Value.ref bh) (fun Ex=>(bD (G.Zc6 Zu4 [] Ex (aj (ak 0) (aj (ak 1) aG))) (aN 2))) (bD (tC .non) (aN 2)))
   (bI (ak 2))))
def wg (K:aC):TS:=
 (aL (bD (iw aG) (aN 1))
   (aL (Fq (vp K (bx K (bx K (ak 0) "heap") "cells")) (aN 2)
   (fB (cC (bA (G.Mq) (ak 2) (tC .non))) (uO (tBM K "list" uT (ak 1) (aj (tC .non) aG))) (uO (tBM K "list" uT (ak 1) (aj (fP (aj (bx K (ak 2) "birth") (aj (bx K (ak 2) "bulk") (aj (bx K (ak 2) "load") (aj (zE (G.Kl K) (aj (bx K (ak 2) "fields") aG)) aG))))) aG)))))
   (bI (ak 1))))
def yt (K:aC) (Vw:Sp):TS:=
 (aL (bD (G.tLC (vp K (zE (G.Zfd) (aj (bx K (ak 0) "names") aG))) [0] G.w6 (fP (aj (ak 0) (aj (Uq (bx K (ak 1) "names") (ak 0)) aG)))) (aN 1))
   (aL (bD (G.tLC (vp K (bx K (ak 0) "hands")) [] G.w6 (bx K (ak 0) "name")) (aN 2))
   (bI (iw (aj (aR Vw [] E0 (aj (ak 0) aG)) (aj (ak 1) (aj (ak 2) (aj (bx K (bx K (ak 0) "heap") "room") (aj (bx K (bx K (ak 0) "heap") "born") aG)))))))))
def o9 (K:aC) (qL sW:Sp):TS:=
 (bI ((Zo (bA (G.Zjv K false) (aR qL [] E0 (aj (ak 0) aG)) (ak 2)) (bA (G.Zjv K false) (aR sW [] E0 (aj (ak 0) aG)) (ak 3)))))
def yp (K:aC) (qL Ra sW Znc:Sp):TS:=
 (aL (bD (aR qL [] E0 (aj (ak 0) aG)) (aN 2))
   (aL (bD (aR sW [] E0 (aj (ak 0) aG)) (aN 3))
   (aL (bD (aR Znc [] E0 (aj (ak 0) aG)) (aN 4))
   (aL (fB (DQ (tB (aR Ra [] E0 (aj (ak 4) (aj (ak 4) aG))))) (bI (tC (.bl false))) cL)
   (aL (fB (cC (bA (Cv) (bA (eZ K) (ak 4) (tC (.int 0))) (tC (.str "back")))) (aL (fB ((tOr (cC (bA (rNe) (zE (G.mD K) (aj (bA (eZ K) (ak 4) (tC (.int 2))) aG)) (tC (.int 1)))) (DQ (cC (NZ (nO fun i j=>.bl (decide (i≤j))) (nO fun i j=>.bl (decide (i < j))) (tC (.int 0)) (bA (nH K) (bA (eZ K) (ak 4) (tC (.int 2))) (tC (.int 0))) (zE (G.mD K) (aj (ak 2) aG))))))) (bI (tC (.bl false))) cL)
   (aL (bD (bA (nH K) (ak 2) (bA (nH K) (bA (eZ K) (ak 4) (tC (.int 2))) (tC (.int 0)))) (aN 5))
   (aL (fB ((tOr (cC (bA (G.Mq) (ak 5) (tC .non))) (cC (bA (rNe) (bA (eZ K) (ak 5) (tC (.int 0))) (bA (eZ K) (ak 4) (tC (.int 1))))))) (bI (tC (.bl false))) cL)
   (bD (tC .non) (Mz (ak 2) (bA (nH K) (bA (eZ K) (ak 4) (tC (.int 2))) (tC (.int 0))) Av))))) cL)
   (o9 K qL sW))))))
def Zd2 (K:aC) (eX:Addr) (Fz fK VJ Q9 VH VD VB Vz:Sp):TS:=
 (aL (bD (bA (rI (fun _ j=>0 < j) fun i j=>.int (i % j)) (aR fK [] E0 (aj (ak 0) (aj (tC (.int 0)) aG))) (tC (.int 12))) (aN 1))
   (aL (bD (aR Q9 [] E0 (aj (ak 0) aG)) (aN 2))
   (aL (bD (zB eX Fz [] E0 (aj (aR VD [] E0 (aj (ak 0) aG)) (aj (aR VH [] E0 (aj (ak 1) aG)) (aj (zE (G.Kl K) (aj (ak 2) aG)) aG)))) (aN 3))
   (aL (Fq (vp K (aR VB [] E0 (aj (ak 0) (aj (ak 2) aG)))) (aN 4)
   (aL (fB (cC (bA (Cv) (bx K (bx K (ak 3) "sweeper") "phase") (tC (.str "lost")))) (bI (tC (.bl true))) cL)
   (fB (cC (bA (G.Dl) (ak 4) (tC .non))) (uO (aR VJ [] E0 (aj (ak 3) (aj (ak 4) aG)))) (fB (DQ (tB (aR Vz [] E0 (aj (ak 3) (aj (bA (rI (fun _ j=>0 < j) fun i j=>.int (i % j)) (ak 1) (tC (.int 3))) aG))))) (bI (tC (.bl false))) cL))))
   (bI (tC (.bl true)))))))
structure TxC (K:aC) (aZ aW:Addr):Prop where
 cP:DN K aZ
 dN:bH K aZ "birth"
 lM:bH K aZ "bulk"
 lK:bH K aZ "tone"
 jj:bH K aZ "load"
 eO:bH K aZ "fields"
 cB:DN K aW
 lJ:bH K aW "room"
 bL:bH K aW "cells"
 iK:bH K aW "used"
 j7:bH K aW "born"
 Nj:EqD K aZ
structure xN (CC:Addr) (H:Hp) (p fa:Addr) (birth bulk tone load:Int) (fl:List V):Prop where
 o:∃ dx,H p=some (.ins CC dx (mK birth bulk tone load fa))
 f:H fa=some (.lst fl)
theorem xN.same {CC:Addr}{H H':Hp}{p fa:Addr}{birth bulk tone load:Int}{fl:List V} (h:xN CC H p fa birth bulk tone load fl) (s:aY H H'):xN CC H' p fa birth bulk tone load fl:=by
 obtain ⟨⟨dx,h1⟩,h2⟩:=h;exact ⟨⟨dx,s _ _ h1⟩,s _ _ h2⟩
structure HpO (CH:Addr) (H:Hp) (hp ca:Addr) (room used born:Int) (cs:List V):Prop where
 o:∃ dx,H hp=some (.ins CH dx (jU room ca used born))
 c:H ca=some (.lst cs)
theorem QD {a b c d e f g:Int}{x y:Addr}:mK a b c d x≠jU e y f g:=fun z=>by
 have:=congrArg List.length z;cases this
def vH (CC:Addr):Sp:=fun vs H Q E=>∃ p birth many bulk tone,vs=[.ref p,.int birth,.int many,.int bulk,.int tone]∧∃ dx,H p=some (.ins CC dx [])∧0≤many∧many≤1000∧
 ∀ fa H',H fa=none→H' p=some (.ins CC dx (mK birth bulk tone 0 fa))→H' fa=some (.lst (List.replicate many.toNat V.non))→(∀ b o,H b=some o→b≠p→H' b=some o)→Q .non H'
def lY (CC:Addr):Sp:=fun vs H Q E=>∃ p,vs=[.ref p]∧∃ fa birth bulk tone load fl,xN CC H p fa birth bulk tone load fl∧Q (.int (1 + fl.length + bulk)) H
def vC (CH:Addr):Sp:=fun vs H Q E=>∃ p room,vs=[.ref p,.int room]∧∃ dx,H p=some (.ins CH dx [])∧
 ∀ ca H',H ca=none→H' p=some (.ins CH dx (jU room ca 0 0))→H' ca=some (.lst [])→(∀ b o,H b=some o→b≠p→H' b=some o)→Q .non H'
def vD (CH:Addr):Sp:=fun vs H Q E=>∃ hp,vs=[.ref hp]∧∃ ca room used born cs,HpO CH H hp ca room used born cs∧Q (.int (room - used)) H
def plc (cs:List V):List Int:=((List.range cs.length).filter fun i=>!decide (cs[i]? =some V.non)).map fun (i:Nat)=>(i:Int)
def tR (CH:Addr):Sp:=fun vs H Q E=>∃ hp,vs=[.ref hp]∧∃ ca room used born cs,HpO CH H hp ca room used born cs∧cs.length≤1000∧∀ l,H l=none→Q (.ref l) (upd H l (.lst ((plc cs).map V.int)))
def putN (cs:List V) (v:V):List V:=if V.non∈cs then cs.set (cs.idxOf V.non) v else cs ++ [v]
def zx (K:aC) (CH:Addr):Sp:=fun vs H Q E=>∃ hp v,vs=[.ref hp,v]∧∃ ca room used born cs,HpO CH H hp ca room used born cs∧OkN K H cs∧cs.length≤1000∧Q (.int (cs.idxOf V.non)) (upd H ca (.lst (putN cs v)))
def rH (CC CH:Addr):Sp:=fun vs H Q E=>∃ hp i,vs=[.ref hp,.int i]∧∃ ca dx room used born cs p fa birth bulk tone load fl,0≤i∧H hp=some (.ins CH dx (jU room ca used born))∧H ca=some (.lst cs)∧cs[i.toNat]? =some (.ref p)∧xN CC H p fa birth bulk tone load fl∧
 Q (.int birth) (upd (upd H hp (.ins CH dx (jU room ca (used - (1 + fl.length + bulk)) born))) ca (.lst (cs.set i.toNat V.non)))
def vB (K:aC) (CC CH CF:Addr):Sp:=fun vs H Q E=>∃ hp many bulk tone,vs=[.ref hp,.int many,.int bulk,.int tone]∧∃ ca dx room used born cs,H hp=some (.ins CH dx (jU room ca used born))∧H ca=some (.lst cs)∧OkN K H cs∧cs.length≤1000∧0≤many∧many≤1000∧
 (room - used < 1 + many + bulk→∀ H',aY H H'→E (.ref CF) none H')∧
 (1 + many + bulk≤room - used→∀ p fa H',H p=none→H fa=none→Fm [hp,ca] H H'→H' hp=some (.ins CH dx (jU room ca (used + (1 + many + bulk)) (born + 1)))→H' ca=some (.lst (putN cs (.ref p)))→
  xN CC H' p fa (born + 1) bulk tone 0 (List.replicate many.toNat V.non)→Q (.int (cs.idxOf V.non)) H')
section
variable {K:aC}{aZ aW bM:Addr}{H:Hp}{Q:VK}{E:XK}{n:St→Hp→Prop}{bk ct:St→Hp→Prop}
theorem TX {p:Addr} (T:TxC K aZ aW) (q:∃ fa birth bulk tone load fl,xN aZ H p fa birth bulk tone load fl∧Q (.int (1 + fl.length + bulk)) H):wu K ⟨n,Q,bk,ct⟩ [some (.ref p)] H:=by
 obtain ⟨fa,birth,bulk,tone,load,fl,⟨⟨dx,h1⟩,h2⟩,h⟩:=q;unfold wu;walk_at "ev";refine aH h1 T.cP T.eO jW ?_;walk_at "ev";refine jV (cU.of h2) ?_;walk_at "ev";refine aH h1 T.cP T.lM Dz ?_;walk_at "ev";exact h
theorem KH {p:Addr}{birth many bulk tone:Int} (T:TxC K aZ aW) (q:∃ dx,H p=some (.ins aZ dx [])∧0≤many∧many≤1000∧
 ∀ fa H',H fa=none→H' p=some (.ins aZ dx (mK birth bulk tone 0 fa))→H' fa=some (.lst (List.replicate many.toNat V.non))→(∀ b o,H b=some o→b≠p→H' b=some o)→Q .non H'):
  qt K ⟨fun _ H'=>Q .non H',Q,bk,ct⟩ [some (.ref p),some (.int birth),some (.int many),some (.int bulk),some (.int tone)] H:=by
 obtain ⟨dx,hp,h0,h1,h⟩:=q;unfold qt;walk_at "ev";refine ⟨p,aZ,dx,[],rfl,hp,T.cP,T.dN,by decide,?_⟩;walk_at "ev";refine ⟨p,aZ,dx,_,rfl,aq,T.cP,T.lM,by show 1 < 1000;decide,?_⟩;rw [dY];walk_at "ev";refine ⟨p,aZ,dx,_,rfl,aq,T.cP,T.lK,by show 2 < 1000;decide,?_⟩;rw [dY];walk_at "ev";refine ⟨p,aZ,dx,_,rfl,aq,T.cP,T.jj,by show 3 < 1000;decide,?_⟩;rw [dY];walk_at "ev";refine ⟨by decide,fun l0 hl0=>?_⟩;walk_at "ev";refine ⟨l0,many,_,rfl,rfl,aq,by omega,by omega,?_,fun fa hfa=>?_⟩
 ·show 1 * many.toNat≤sizeLine;exact aV (by omega)
 have npl:p≠l0:=aD aq hl0;have npf:p≠fa:=aD ((aB npl).trans aq) hfa;walk_at "ev";refine ⟨p,aZ,dx,_,rfl,(aB npf).trans ((aB npl).trans aq),T.cP,T.eO,by show 4 < 1000;decide,?_⟩;have nfa:H fa=none:=by
  have e:=hfa;have n1:fa≠l0:=fun z=>by rw [z,aq] at e;cases e
  rw [aB n1,aB npf.symm] at e;exact e
 refine h fa _ nfa (aq.trans (congrArg (fun l=>some (HO.ins aZ dx l)) Zmx)) ?_ fun b o hb hne=>?_
 ·rw [aB npf.symm,aq];have e:(List.replicate many.toNat [V.non]).flatten=List.replicate many.toNat V.non:=by
   generalize many.toNat=k
   induction k with
   | zero=>rfl
   | succ k ih=>rw [List.replicate_succ,List.replicate_succ,List.flatten_cons,ih];rfl
  rw [e]
 ·have e1:upd H p (HO.ins aZ dx (bZ "load" (V.int 0) (bZ "tone" (V.int tone) (bZ "bulk" (V.int bulk) (bZ "birth" (V.int birth) []))))) b=some o:=(aB hne).trans hb;have n1:b≠l0:=aD e1 hl0;have n2:b≠fa:=aD ((aB n1).trans e1) hfa;rw [aB hne,aB n2,aB n1];exact e1
theorem Kr {p:Addr}{room:Int} (T:TxC K aZ aW) (q:∃ dx,H p=some (.ins aW dx [])∧
 ∀ ca H',H ca=none→H' p=some (.ins aW dx (jU room ca 0 0))→H' ca=some (.lst [])→(∀ b o,H b=some o→b≠p→H' b=some o)→Q .non H'):
  qm K ⟨fun _ H'=>Q .non H',Q,bk,ct⟩ [some (.ref p),some (.int room)] H:=by
 obtain ⟨dx,hp,h⟩:=q;unfold qm;walk_at "ev";refine ⟨p,aW,dx,[],rfl,hp,T.cB,T.lJ,by decide,?_⟩;walk_at "ev";refine ⟨by decide,fun ca hca=>?_⟩;walk_at "ev";have npc:p≠ca:=aD aq hca;refine ⟨p,aW,dx,_,rfl,(aB npc).trans aq,T.cB,T.bL,by show 1 < 1000;decide,?_⟩;walk_at "ev";refine ⟨p,aW,dx,_,rfl,aq,T.cB,T.iK,by show 2 < 1000;decide,?_⟩;rw [dY];walk_at "ev";refine ⟨p,aW,dx,_,rfl,aq,T.cB,T.j7,by show 3 < 1000;decide,?_⟩;rw [dY];have nca:H ca=none:=by
  have e:=hca;rw [aB npc.symm] at e;exact e
 refine h ca _ nca (aq.trans (congrArg (fun l=>some (HO.ins aW dx l)) Zm6)) ?_ fun b o hb hne=>?_
 ·rw [aB npc.symm,aq]
 ·rw [aB hne,aB (aD ((aB hne).trans hb) hca),aB hne];exact hb
theorem Y8 {hp:Addr} (T:TxC K aZ aW) (q:∃ ca room used born cs,HpO aW H hp ca room used born cs∧Q (.int (room - used)) H):yG K ⟨n,Q,bk,ct⟩ [some (.ref hp)] H:=by
 obtain ⟨ca,room,used,born,cs,⟨⟨dx,h1⟩,h2⟩,h⟩:=q;unfold yG;walk_at "ev";refine aH h1 T.cB T.lJ Dt ?_;walk_at "ev";refine aH h1 T.cB T.iK wK ?_;walk_at "ev";exact h
theorem TJ {hp:Addr} (T:TxC K aZ aW) (q:∃ ca room used born cs,HpO aW H hp ca room used born cs∧cs.length≤1000∧∀ l,H l=none→Q (.ref l) (upd H l (.lst ((plc cs).map V.int)))):wk K ⟨n,Q,bk,ct⟩ [some (.ref hp)] H:=by
 obtain ⟨ca,room,used,born,cs,⟨⟨dx,h1⟩,h2⟩,hl,h⟩:=q;unfold wk;walk_at "ev";refine Ql ?_;walk_at "ev";refine aH h1 T.cB T.bL bV ?_;walk_at "ev";refine jV (cU.of h2) ?_;walk_at "ev";refine ⟨_,rfl,by omega,by omega,?_⟩;refine Zlk (n:=cs.length) (by omega) (p:=fun i=>!decide (cs[i]? =some V.non)) (f:=fun i=>.int i) (by omega) ?_ ?_ ?_
 ·intro i hi k hk;walk_at "caps";walk_at "ev";refine aH h1 T.cB T.bL bV ?_;walk_at "ev";refine j9 (cU.of h2) (ie (cj hi)) ?_;walk_at "ev";refine Zef ?_;rw [cj hi] at hk;walk_at "ev";simpa using hk
 ·intro i hi _ k hk;walk_at "caps";walk_at "ev";exact hk
 ·have e:((plc cs).map V.int)=((List.range cs.length).filter fun i=>!decide (cs[i]? =some V.non)).map fun (i:Nat)=>V.int i:=by
   unfold plc;rw [List.map_map];rfl
  rw [← e];exact h
theorem Zbn {hp:Addr}{v:V} (T:TxC K aZ aW) (q:∃ ca room used born cs,HpO aW H hp ca room used born cs∧OkN K H cs∧cs.length≤1000∧Q (.int (cs.idxOf V.non)) (upd H ca (.lst (putN cs v)))):Ar K ⟨n,Q,bk,ct⟩ [some (.ref hp),some v,none] H:=by
 obtain ⟨ca,room,used,born,cs,⟨⟨dx,h1⟩,h2⟩,ho,hl,h⟩:=q;unfold Ar;walk_at "ev";refine aH h1 T.cB T.bL bV ?_;walk_at "ev";refine Zlt (cU.of h2) ho ?_;walk_at "ev";refine SN (fun hn=>?_) (fun hn=>?_)
 ·walk_at "ev";refine aH h1 T.cB T.bL bV ?_;refine ⟨.inl ⟨rfl,_,cU.of h2⟩,?_⟩;walk_at "ev";refine ⟨ca,cs,v,rfl,rfl,h2,Nat.lt_of_le_of_lt hl (by decide),?_⟩;walk_at "ev";have hne:hp≠ca:=pI h1 h2 (fun z=>by cases z);refine aH ((aB hne).trans h1) T.cB T.bL bV ?_;walk_at "ev";refine jV (cU.of aq) ?_;walk_at "ev";have e1:(((cs ++ [v]).length:Int) - 1)=(cs.idxOf V.non:Nat):=by
   rw [List.length_append,List.idxOf_eq_length hn];simp
  have e2:putN cs v=cs ++ [v]:=by unfold putN;rw [if_neg hn]
  rw [e1,← e2];exact h
 ·walk_at "ev";refine aH h1 T.cB T.bL bV ?_;refine ⟨.inl ⟨rfl,_,cU.of h2⟩,?_⟩;walk_at "ev";refine ⟨ca,cs,rfl,rfl,cU.of h2,ho,hn,?_⟩;walk_at "ev";refine aH h1 T.cB T.bL bV ?_;walk_at "ev";have hi:cs.idxOf V.non < cs.length:=List.idxOf_lt_length_iff.mpr hn;refine ⟨ca,cs,_,_,rfl,rfl,h2,qX hi,?_⟩;have e2:putN cs v=cs.set (cs.idxOf V.non) v:=by unfold putN;rw [if_pos hn]
  rw [← e2];walk_at "ev";exact h
theorem Y9 {hp:Addr}{i:Int} (T:TxC K aZ aW) (q:∃ ca dx room used born cs p fa birth bulk tone load fl,0≤i∧H hp=some (.ins aW dx (jU room ca used born))∧H ca=some (.lst cs)∧cs[i.toNat]? =some (.ref p)∧xN aZ H p fa birth bulk tone load fl∧
 Q (.int birth) (upd (upd H hp (.ins aW dx (jU room ca (used - (1 + fl.length + bulk)) born))) ca (.lst (cs.set i.toNat V.non)))):yH K aZ (lY aZ) ⟨n,Q,bk,ct⟩ [some (.ref hp),some (.int i),none] H:=by
 obtain ⟨ca,dx,room,used,born,cs,p,fa,birth,bulk,tone,load,fl,h0,h1,h2,hi,co,h⟩:=q;obtain ⟨⟨dp,c1⟩,c2⟩:=id co;unfold yH;walk_at "ev";refine aH h1 T.cB T.bL bV ?_;walk_at "ev";refine j9 (cU.of h2) (tL h0 hi) ?_;walk_at "ev";refine aH h1 T.cB T.iK wK ?_;walk_at "ev";refine ⟨p,dp,_,rfl,c1,uD,?_⟩;walk_at "ev";refine ⟨p,rfl,fa,birth,bulk,tone,load,fl,co,?_⟩;walk_at "ev";refine ⟨hp,aW,dx,_,rfl,h1,T.cB,T.iK,by show 4 < 1000;decide,?_⟩;rw [BK];have hne:hp≠ca:=pI h1 h2 (fun z=>by cases z);walk_at "ev";refine aH aq T.cB T.bL bV ?_;walk_at "ev";have hlt:i.toNat < cs.length:=(fG hi).1;refine ⟨ca,cs,_,_,rfl,rfl,(aB hne.symm).trans h2,Zp9 h0 hlt,?_⟩;walk_at "ev";refine aH (C:=aZ) (a:=p) (dx:=dp) (fs:=mK birth bulk tone load fa) ?_ T.cP T.dN gA ?_
 ·have n1:p≠ca:=pI c1 h2 (fun z=>by cases z);have n2:p≠hp:=pI c1 h1 (fun z=>by injection z with _ _ z;exact QD z);rw [aB n1,aB n2];exact c1
 exact h
theorem Y7 {hp:Addr}{many bulk tone:Int} (T:TxC K aZ aW) (q:∃ ca dx room used born cs,H hp=some (.ins aW dx (jU room ca used born))∧H ca=some (.lst cs)∧OkN K H cs∧cs.length≤1000∧0≤many∧many≤1000∧
 (room - used < 1 + many + bulk→∀ H',aY H H'→E (.ref bM) none H')∧
 (1 + many + bulk≤room - used→∀ p fa H',H p=none→H fa=none→Fm [hp,ca] H H'→H' hp=some (.ins aW dx (jU room ca (used + (1 + many + bulk)) (born + 1)))→H' ca=some (.lst (putN cs (.ref p)))→
  xN aZ H' p fa (born + 1) bulk tone 0 (List.replicate many.toNat V.non)→Q (.int (cs.idxOf V.non)) H')):
  yF K aZ bM aW (vH aZ) (lY aZ) (vD aW) (zx K aW) E ⟨n,Q,bk,ct⟩ [some (.ref hp),some (.int many),some (.int bulk),some (.int tone),none] H:=by
 obtain ⟨ca,dx,room,used,born,cs,h1,h2,ho,hl,m0,m1,hE,hQ⟩:=q;have hne:hp≠ca:=pI h1 h2 (fun z=>by cases z);unfold yF;walk_at "ev";refine aH h1 T.cB T.j7 Du ?_;walk_at "ev";intro p dp np ndp ned;refine ⟨p,_,many,_,_,rfl,dp,aq,m0,m1,fun fa H1 nfa c1 c2 f3=>⟨rfl,?_⟩⟩;have Zs3:H fa=none:=by
  have e:=nfa
  by_cases z1:fa=p
  ·rw [z1,aq] at e;cases e
  ·rw [aB z1] at e
   by_cases z2:fa=dp
   ·rw [z2,aq] at e;cases e
   ·rw [aB z2] at e;exact e
 have sm:aY H H1:=fun b o hb=>by
  refine f3 b o ?_ (aD hb np);rw [aB (aD hb np),aB (aD hb ndp)];exact hb
 have co:xN aZ H1 p fa (born + 1) bulk tone 0 (List.replicate many.toNat V.non):=⟨⟨dp,c1⟩,c2⟩;have el:((List.replicate many.toNat V.non).length:Int)=many:=by rw [List.length_replicate];omega
 walk_at "ev";refine ⟨p,dp,_,rfl,c1,uD,?_⟩;walk_at "ev";refine ⟨p,rfl,fa,_,_,_,_,_,co,?_⟩;walk_at "ev";refine ⟨hp,dx,_,rfl,sm _ _ h1,SX,?_⟩;walk_at "ev";refine ⟨hp,rfl,ca,room,used,born,cs,⟨⟨dx,sm _ _ h1⟩,sm _ _ h2⟩,?_⟩;walk_at "ev";rw [el];refine wJ (fun hf=>?_) (fun hf=>?_)
 ·walk_at "ev";exact ⟨by decide,hE hf H1 sm⟩
 ·walk_at "ev";refine aH c1 T.cP T.dN gA ?_;walk_at "ev";refine ⟨hp,aW,dx,_,rfl,sm _ _ h1,T.cB,T.j7,by show 4 < 1000;decide,?_⟩;rw [Qo];walk_at "ev";refine aH aq T.cB T.iK wK ?_;walk_at "ev";have n1:p≠hp:=(aD h1 np).symm;have n2:fa≠hp:=(aD h1 Zs3).symm;have n3:p≠ca:=(aD h2 np).symm;have n4:fa≠ca:=(aD h2 Zs3).symm;refine ⟨p,dp,_,rfl,(aB n1).trans c1,uD,?_⟩;walk_at "ev";refine ⟨p,rfl,fa,_,_,_,_,_,⟨⟨dp,(aB n1).trans c1⟩,(aB n2).trans c2⟩,?_⟩;walk_at "ev";rw [el];refine ⟨hp,aW,dx,_,rfl,aq,T.cB,T.iK,by show 4 < 1000;decide,?_⟩;rw [BK,dY];walk_at "ev";refine ⟨hp,dx,_,rfl,aq,X7,?_⟩;walk_at "ev";refine ⟨hp,.ref p,rfl,ca,room,_,_,cs,⟨⟨dx,aq⟩,(aB hne.symm).trans (sm _ _ h2)⟩,?_,hl,?_⟩
  ·intro y hy;rcases ho y hy with e | ⟨a,C,d,fs,e,ha,hc,he⟩
   ·exact .inl e
   ·refine .inr ?_
    by_cases z:a=hp
    ·rw [z] at ha e;rw [h1] at ha;cases ha;exact ⟨hp,_,_,_,e,aq,hc,he⟩
    ·exact ⟨a,C,d,fs,e,(aB z).trans (sm _ _ ha),hc,he⟩
  ·refine hQ (by omega) p fa _ np Zs3 ?_ ((aB hne).trans aq) aq ⟨⟨dp,?_⟩,?_⟩
   ·intro b o hb hn;have b1:b≠hp:=fun z=>hn (by rw [z];exact List.mem_cons_self);have b2:b≠ca:=fun z=>hn (by rw [z];exact List.mem_cons_of_mem _ List.mem_cons_self);rw [aB b2,aB b1];exact sm _ _ hb
   ·rw [aB n3,aB n1];exact c1
   ·rw [aB n4,aB n2];exact c2
end
structure Ce where
 birth:Int
 bulk:Int
 tone:Int
 load:Int
 fl:List (Option Int)
 deriving DecidableEq
structure Sw where
 sense:Int
 phase:Str
 grey:List Int
 looked:Int
 turn:Int
 at':Int
 stop:Int
 walks:Int
 looks:Int
 passes:Int
 loss:V
structure Wm where
 room:Int
 used:Int
 born:Int
 cells:List (Option Ce)
 hands:List (Str×List (Option Int))
 names:List (Str×(Int×Int))
 w:Int
 tells:Int
 sw:Sw
structure Wa where
 wo:Addr
 hp:Addr
 ca:Addr
 ki:Addr
 lk:Addr
 hl:Addr
 nm:Addr
 sw:Addr
 gr:Addr
 hs:List (Addr×Addr)
 cs:List (Option (Addr×Addr))
 ns:List Addr
def oV:Option Int→V
 | none=>.non
 | some i=>.int i
def pV:Option (Addr×Addr)→V
 | none=>.non
 | some p=>.ref p.1
structure wZ (s:Nat) (t0:Nat→Prop) (H H':Hp) (T T':Tg):Prop where
 kp:∀ b o,H b=some o→(T b).1=s→¬ t0 (T b).2→H' b=some o
 tg:∀ b o,H b=some o→T' b=T b
section
variable {CHd CC:Addr}{H H':Hp}{T T':Tg}{s j i:Nat}{t0:Nat→Prop}
theorem wZ.at {a:Addr}{o:HO}{m:Nat} (f:wZ s t0 H H' T T') (ht:T a=(s,m)) (n:¬ t0 m) (h:H a=some o):H' a=some o:=f.kp a o h (by rw [ht]) (by rw [ht];exact n)
theorem wZ.tag {a:Addr}{o:HO}{x:Nat×Nat} (f:wZ s t0 H H' T T') (h:H a=some o) (ht:T a=x):T' a=x:=(f.tg a o h).trans ht
theorem wZ.Br {a:Addr}{o:HO}{m:Nat} (ht:T a=(s,m)):wZ s (·=m) H (upd H a o) T T:=⟨fun b u h e n=>by
  have:b≠a:=fun z=>n (by rw [z,ht]);rw [aB this];exact h,fun _ _ _=>rfl⟩
theorem wZ.of_same (e:aY H H'):wZ s (fun _=>False) H H' T T:=⟨fun b o h _ _=>e b o h,fun _ _ _=>rfl⟩
theorem wZ.Zkl {s':Nat} (e:iU s' H H' T T') (n:s≠s'):wZ s (fun _=>False) H H' T T':=⟨fun b o h z _=>e.kp b o h (by rw [z];exact n),e.tg⟩
structure HdO (CHd:Addr) (H:Hp) (T:Tg) (s j:Nat) (p:Addr×Addr) (m:Str×List (Option Int)):Prop where
 t1:T p.1=(s,20 + 2 * j)
 t2:T p.2=(s,21 + 2 * j)
 o1:∃ dx,H p.1=some (.ins CHd dx (Vh m.1 p.2))
 o2:H p.2=some (.lst (m.2.map oV))
theorem HdO.mv {p:Addr×Addr}{m:Str×List (Option Int)} (h:HdO CHd H T s j p m) (f:wZ s t0 H H' T T') (n1:¬ t0 (20 + 2 * j)) (n2:¬ t0 (21 + 2 * j)):HdO CHd H' T' s j p m:=by
 obtain ⟨a1,a2,⟨dx,b1⟩,b2⟩:=h;exact ⟨f.tag b1 a1,f.tag b2 a2,⟨dx,f.at a1 n1 b1⟩,f.at a2 n2 b2⟩
structure QZ (CC:Addr) (H:Hp) (T:Tg) (s i:Nat) (p:Addr×Addr) (c:Ce):Prop where
 t1:T p.1=(s,100 + 2 * i)
 t2:T p.2=(s,101 + 2 * i)
 o1:∃ dx,H p.1=some (.ins CC dx (mK c.birth c.bulk c.tone c.load p.2))
 o2:H p.2=some (.lst (c.fl.map oV))
theorem QZ.mv {p:Addr×Addr}{c:Ce} (h:QZ CC H T s i p c) (f:wZ s t0 H H' T T') (n1:¬ t0 (100 + 2 * i)) (n2:¬ t0 (101 + 2 * i)):QZ CC H' T' s i p c:=by
 obtain ⟨a1,a2,⟨dx,b1⟩,b2⟩:=h;exact ⟨f.tag b1 a1,f.tag b2 a2,⟨dx,f.at a1 n1 b1⟩,f.at a2 n2 b2⟩
def CeP (CC:Addr) (H:Hp) (T:Tg) (s i:Nat):Option (Addr×Addr)→Option Ce→Prop
 | none,none=>True
 | some p,some c=>QZ CC H T s i p c
 | _,_=>False
theorem CeP.mv {p:Option (Addr×Addr)}{c:Option Ce} (h:CeP CC H T s i p c) (f:wZ s t0 H H' T T') (n1:¬ t0 (100 + 2 * i)) (n2:¬ t0 (101 + 2 * i)):CeP CC H' T' s i p c:=by
 cases p with
 | none=>cases c with
  | none=>trivial
  | some c=>exact h.elim
 | some p=>cases c with
  | none=>exact h.elim
  | some c=>exact QZ.mv h f n1 n2
end
def NmO (H:Hp) (T:Tg) (t:Addr) (m:Str×(Int×Int)):Prop:=T t=(0,0)∧H t=some (.tup [.int m.2.1,.int m.2.2])
structure Cs where
 W:Addr
 H:Addr
 C:Addr
 K:Addr
 D:Addr
 S:Addr
 F:Addr
 E:Addr
 L:Addr
structure WB (X:Cs) (H:Hp) (T:Tg) (s:Nat) (A:Wa) (w tells:Int):Prop where
 tw:T A.wo=(s,0)
 tk:T A.ki=(0,0)
 tl:T A.lk=(0,0)
 tn:T A.hl=(s,5)
 ow:∃ dx,H A.wo=some (.ins X.W dx (zP A.hp A.ki A.hl A.nm A.sw))
 ok:∃ dx,H A.ki=some (.ins X.K dx (P0 A.lk tells))
 ol:∃ dx,(w=0∧H A.lk=some (.ins X.F dx []))∨(w=1∧H A.lk=some (.ins X.E dx []))∨(w=2∧H A.lk=some (.ins X.L dx []))
 on:H A.hl=some (.lst (A.hs.map fun p=>V.ref p.1))
structure WH (X:Cs) (H:Hp) (T:Tg) (s:Nat) (A:Wa) (room used born:Int):Prop where
 th:T A.hp=(s,1)
 tc:T A.ca=(s,2)
 oh:∃ dx,H A.hp=some (.ins X.H dx (jU room A.ca used born))
 oc:H A.ca=some (.lst (A.cs.map pV))
def yS (M:List (Str×(Int×Int))) (ns:List Addr):List ((Int ⊕ Str)×V):=List.zipWith (fun (m:Str×(Int×Int)) (t:Addr)=>(Sum.inr m.1,V.ref t)) M ns
structure WN (H:Hp) (T:Tg) (s:Nat) (A:Wa) (names:List (Str×(Int×Int))):Prop where
 tm:T A.nm=(s,6)
 om:H A.nm=some (.dK (yS names A.ns))
 nms:Al (NmO H T) A.ns names
structure WS (X:Cs) (H:Hp) (T:Tg) (s:Nat) (A:Wa) (S:Sw):Prop where
 ts:T A.sw=(s,7)
 tg:T A.gr=(s,8)
 os:∃ dx,H A.sw=some (.ins X.S dx (bY S.sense S.phase A.gr S.looked S.turn S.at' S.stop S.walks S.looks S.passes S.loss))
 og:H A.gr=some (.lst (S.grey.map V.int))
structure WD (X:Cs) (H:Hp) (T:Tg) (s:Nat) (hs:List (Addr×Addr)) (hands:List (Str×List (Option Int))):Prop where
 lh:hs.length=hands.length
 l5:hs.length≤30
 hd:∀ (j:Nat) p m,hs[j]? =some p→hands[j]? =some m→HdO X.D H T s j p m
structure WC (X:Cs) (H:Hp) (T:Tg) (s:Nat) (cs:List (Option (Addr×Addr))) (cells:List (Option Ce)):Prop where
 lc:cs.length=cells.length
 ce:∀ (i:Nat) p c,cs[i]? =some p→cells[i]? =some c→CeP X.C H T s i p c
structure WJ (X:Cs) (H:Hp) (T:Tg) (s:Nat) (A:Wa) (M:Wm):Prop where
 jb:WB X H T s A M.w M.tells
 jh:WH X H T s A M.room M.used M.born
 jn:WN H T s A M.names
 js:WS X H T s A M.sw
 jd:WD X H T s A.hs M.hands
 jc:WC X H T s A.cs M.cells
section
variable {X:Cs}{H H':Hp}{T T':Tg}{s:Nat}{t0:Nat→Prop}{A:Wa}{M:Wm}
theorem WB.mv {w tells:Int} (j:WB X H T s A w tells) (f:wZ s t0 H H' T T') (f0:∀ b o,H b=some o→T b=(0,0)→H' b=some o) (n0:¬ t0 0) (n5:¬ t0 5):WB X H' T' s A w tells:=by
 obtain ⟨tw,tk,tl,tn,⟨d1,ow⟩,⟨d3,ok⟩,⟨d4,ol⟩,on⟩:=j;have hlk:∃ o,H A.lk=some o:=by
  rcases ol with ⟨_,e⟩ | ⟨_,e⟩ | ⟨_,e⟩
  ·exact ⟨_,e⟩
  ·exact ⟨_,e⟩
  ·exact ⟨_,e⟩
 obtain ⟨olk,elk⟩:=hlk;refine ⟨f.tag ow tw,f.tag ok tk,f.tag elk tl,f.tag on tn,⟨d1,f.at tw n0 ow⟩,⟨d3,f0 _ _ ok tk⟩,⟨d4,?_⟩,f.at tn n5 on⟩;rcases ol with ⟨z,e⟩ | ⟨z,e⟩ | ⟨z,e⟩
 ·exact .inl ⟨z,f0 _ _ e tl⟩
 ·exact .inr (.inl ⟨z,f0 _ _ e tl⟩)
 ·exact .inr (.inr ⟨z,f0 _ _ e tl⟩)
theorem WH.mv {room used born:Int} (j:WH X H T s A room used born) (f:wZ s t0 H H' T T') (n1:¬ t0 1) (n2:¬ t0 2):WH X H' T' s A room used born:=by
 obtain ⟨th,tc,⟨d,oh⟩,oc⟩:=j;exact ⟨f.tag oh th,f.tag oc tc,⟨d,f.at th n1 oh⟩,f.at tc n2 oc⟩
theorem WN.mv {names:List (Str×(Int×Int))} (j:WN H T s A names) (f:wZ s t0 H H' T T') (f0:∀ b o,H b=some o→T b=(0,0)→H' b=some o) (n6:¬ t0 6):WN H' T' s A names:=by
 obtain ⟨tm,om,nms⟩:=j;exact ⟨f.tag om tm,f.at tm n6 om,nms.mono fun t m ⟨z1,z2⟩=>⟨f.tag z2 z1,f0 _ _ z2 z1⟩⟩
theorem WS.mv {S:Sw} (j:WS X H T s A S) (f:wZ s t0 H H' T T') (n7:¬ t0 7) (n8:¬ t0 8):WS X H' T' s A S:=by
 obtain ⟨ts,tg,⟨d,os⟩,og⟩:=j;exact ⟨f.tag os ts,f.tag og tg,⟨d,f.at ts n7 os⟩,f.at tg n8 og⟩
theorem WD.mv {hs:List (Addr×Addr)}{hands:List (Str×List (Option Int))} (j:WD X H T s hs hands) (f:wZ s t0 H H' T T') (n:∀ k,20≤k→k < 100→¬ t0 k):WD X H' T' s hs hands:=by
 obtain ⟨lh,l5,hd⟩:=j;refine ⟨lh,l5,fun j p m e1 e2=>?_⟩;have hl:j < hs.length:=(fG e1).1;exact (hd j p m e1 e2).mv f (n _ (by omega) (by omega)) (n _ (by omega) (by omega))
theorem WC.mv {cs:List (Option (Addr×Addr))}{cells:List (Option Ce)} (j:WC X H T s cs cells) (f:wZ s t0 H H' T T') (n:∀ k,100≤k→¬ t0 k):WC X H' T' s cs cells:=by
 obtain ⟨lc,ce⟩:=j;exact ⟨lc,fun i p c e1 e2=>(ce i p c e1 e2).mv f (n _ (by omega)) (n _ (by omega))⟩
theorem WJ.mv (j:WJ X H T s A M) (f:wZ s (fun _=>False) H H' T T') (f0:∀ b o,H b=some o→T b=(0,0)→H' b=some o):WJ X H' T' s A M:=
 ⟨j.jb.mv f f0 id id,j.jh.mv f id id,j.jn.mv f f0 id,j.js.mv f id id,j.jd.mv f fun _ _ _=>id,j.jc.mv f fun _ _=>id⟩
theorem WJ.same (j:WJ X H T s A M) (e:aY H H'):WJ X H' T s A M:=j.mv (wZ.of_same e) fun b o h _=>e b o h
theorem WJ.other {s':Nat} (j:WJ X H T s A M) (e:iU s' H H' T T') (n:s≠s') (n0:s'≠0):WJ X H' T' s A M:=j.mv (wZ.Zkl e n) fun b o h t=>e.kp b o h (by rw [t];exact fun z=>n0 z.symm)
theorem oO {a:Addr}{o':HO}{m:Nat} (h0:s≠0) (ta:T a=(s,m)):∀ b o,H b=some o→T b=(0,0)→upd H a o' b=some o:=fun b o e t=>by
 rw [aB (Pq t ta (fun z=>h0 (congrArg Prod.fst z).symm))];exact e
theorem WJ.slot (j:WJ X H T s A M) (w:WT H T) (h0:s≠0) {h k:Nat}{p:Addr×Addr}{m:Str×List (Option Int)}{x:Option Int} (hp:A.hs[h]? =some p) (hm:M.hands[h]? =some m):
  iU s H (upd H p.2 (.lst ((m.2.map oV).set k (oV x)))) T T∧WJ X (upd H p.2 (.lst ((m.2.map oV).set k (oV x)))) T s A { M with hands:=M.hands.set h (m.1,m.2.set k x) }:=by
 have hl:=j.jd.l5;have hh:h < A.hs.length:=(fG hp).1;have hh':h < M.hands.length:=(fG hm).1;have d:=j.jd.hd h p m hp hm;refine ⟨iU.upd w d.o2 (by rw [d.t2]),?_⟩;have f:wZ s (·=21 + 2 * h) H (upd H p.2 (.lst ((m.2.map oV).set k (oV x)))) T T:=wZ.Br d.t2;have b2:upd H p.2 (.lst ((m.2.map oV).set k (oV x))) p.2=some (.lst ((m.2.set k x).map oV)):=by rw [aq,List.map_set]
 refine ⟨j.jb.mv f (oO h0 d.t2) (by omega) (by omega),j.jh.mv f (by omega) (by omega),j.jn.mv f (oO h0 d.t2) (by omega),j.js.mv f (by omega) (by omega),⟨by rw [List.length_set];exact j.jd.lh,hl,fun j' p' m' e1 e2=>?_⟩,j.jc.mv f fun _ _=>by omega⟩
 by_cases hj:j'=h
 ·subst hj;dsimp only at e2;rw [List.getElem?_set_self hh'] at e2;rw [hp] at e1;cases e1;cases e2;obtain ⟨dd,o1⟩:=d.o1;exact ⟨d.t1,d.t2,⟨dd,f.at d.t1 (by omega) o1⟩,b2⟩
 ·dsimp only at e2;rw [List.getElem?_set_ne (fun z=>hj z.symm)] at e2;exact (j.jd.hd j' p' m' e1 e2).mv f (by omega) (by omega)
theorem WC.at (j:WC X H T s A.cs M.cells) {i:Nat}{c:Ce} (h:M.cells[i]? =some (some c)):∃ p,A.cs[i]? =some (some p)∧QZ X.C H T s i p c:=by
 have hl:i < A.cs.length:=by rw [j.lc];exact (fG h).1
 have e:=j.ce i _ _ (cj hl) h;cases hg:A.cs[i] with
 | none=>rw [hg] at e;exact e.elim
 | some g=>rw [hg] at e;exact ⟨g,by rw [cj hl,hg],e⟩
theorem WC.at0 (j:WC X H T s A.cs M.cells) {i:Nat} (h:M.cells[i]? =some none):A.cs[i]? =some none:=by
 have hl:i < A.cs.length:=by rw [j.lc];exact (fG h).1
 have e:=j.ce i _ _ (cj hl) h;cases hg:A.cs[i] with
 | none=>rw [cj hl,hg]
 | some g=>rw [hg] at e;exact e.elim
theorem WC.chg (j:WC X H T s A.cs M.cells) {i:Nat}{p:Addr×Addr}{c':Ce} (f:wZ s t0 H H' T T') (hp:A.cs[i]? =some (some p)) (n:∀ k,100≤k→k≠100 + 2 * i→k≠101 + 2 * i→¬ t0 k) (e:QZ X.C H' T' s i p c'):
  WC X H' T' s A.cs (M.cells.set i (some c')):=by
 have hl:i < A.cs.length:=(fG hp).1;refine ⟨by rw [List.length_set];exact j.lc,fun k g c e1 e2=>?_⟩
 by_cases hk:k=i
 ·subst hk;rw [List.getElem?_set_self (by rw [← j.lc];exact hl)] at e2;rw [hp] at e1;cases e1;cases e2;exact e
 ·rw [List.getElem?_set_ne (fun z=>hk z.symm)] at e2;exact (j.ce k g c e1 e2).mv f (n _ (by omega) (by omega) (by omega)) (n _ (by omega) (by omega) (by omega))
theorem WJ.field (j:WJ X H T s A M) (w:WT H T) (h0:s≠0) {i k:Nat}{p:Addr×Addr}{c:Ce}{x:Option Int} (hp:A.cs[i]? =some (some p)) (e:QZ X.C H T s i p c):
  iU s H (upd H p.2 (.lst ((c.fl.map oV).set k (oV x)))) T T∧WJ X (upd H p.2 (.lst ((c.fl.map oV).set k (oV x)))) T s A { M with cells:=M.cells.set i (some { c with fl:=c.fl.set k x }) }:=by
 refine ⟨iU.upd w e.o2 (by rw [e.t2]),?_⟩;have f:wZ s (·=101 + 2 * i) H (upd H p.2 (.lst ((c.fl.map oV).set k (oV x)))) T T:=wZ.Br e.t2;have b2:upd H p.2 (.lst ((c.fl.map oV).set k (oV x))) p.2=some (.lst ((c.fl.set k x).map oV)):=by rw [aq,List.map_set]
 obtain ⟨dd,o1⟩:=e.o1;exact ⟨j.jb.mv f (oO h0 e.t2) (by omega) (by omega),j.jh.mv f (by omega) (by omega),j.jn.mv f (oO h0 e.t2) (by omega),j.js.mv f (by omega) (by omega),j.jd.mv f fun _ _ _=>by omega,
  j.jc.chg f hp (fun k _ _ n2 z=>n2 z) ⟨e.t1,e.t2,⟨dd,f.at e.t1 (by omega) o1⟩,b2⟩⟩
theorem WJ.cell (j:WJ X H T s A M) (w:WT H T) (h0:s≠0) {i:Nat}{p:Addr×Addr}{c:Ce}{dx:Addr}{tone load:Int} (hp:A.cs[i]? =some (some p)) (e:QZ X.C H T s i p c):
  iU s H (upd H p.1 (.ins X.C dx (mK c.birth c.bulk tone load p.2))) T T∧WJ X (upd H p.1 (.ins X.C dx (mK c.birth c.bulk tone load p.2))) T s A { M with cells:=M.cells.set i (some { c with tone:=tone,load:=load }) }:=by
 obtain ⟨dd,o1⟩:=e.o1;refine ⟨iU.upd w o1 (by rw [e.t1]),?_⟩;have f:wZ s (·=100 + 2 * i) H (upd H p.1 (.ins X.C dx (mK c.birth c.bulk tone load p.2))) T T:=wZ.Br e.t1;exact ⟨j.jb.mv f (oO h0 e.t1) (by omega) (by omega),j.jh.mv f (by omega) (by omega),j.jn.mv f (oO h0 e.t1) (by omega),j.js.mv f (by omega) (by omega),j.jd.mv f fun _ _ _=>by omega,
  j.jc.chg f hp (fun k _ n1 _ z=>n1 z) ⟨e.t1,e.t2,⟨dx,aq⟩,f.at e.t2 (by omega) e.o2⟩⟩
theorem WJ.sweep (j:WJ X H T s A M) (w:WT H T) (h0:s≠0) {dx:Addr} (S:Sw) (e9:S.grey=M.sw.grey):
  iU s H (upd H A.sw (.ins X.S dx (bY S.sense S.phase A.gr S.looked S.turn S.at' S.stop S.walks S.looks S.passes S.loss))) T T∧
  WJ X (upd H A.sw (.ins X.S dx (bY S.sense S.phase A.gr S.looked S.turn S.at' S.stop S.walks S.looks S.passes S.loss))) T s A { M with sw:=S }:=by
 obtain ⟨ts,tg,⟨dd,os⟩,og⟩:=j.js;refine ⟨iU.upd w os (by rw [ts]),?_⟩;have f:wZ s (·=7) H (upd H A.sw (.ins X.S dx (bY S.sense S.phase A.gr S.looked S.turn S.at' S.stop S.walks S.looks S.passes S.loss))) T T:=wZ.Br ts;exact ⟨j.jb.mv f (oO h0 ts) (by omega) (by omega),j.jh.mv f (by omega) (by omega),j.jn.mv f (oO h0 ts) (by omega),⟨ts,tg,⟨dx,aq⟩,by rw [e9];exact f.at tg (by omega) og⟩,j.jd.mv f fun _ _ _=>by omega,j.jc.mv f fun _ _=>by omega⟩
theorem WJ.Zqz (j:WJ X H T s A M) (w:WT H T) (h0:s≠0) {g:List Int}:iU s H (upd H A.gr (.lst (g.map V.int))) T T∧WJ X (upd H A.gr (.lst (g.map V.int))) T s A { M with sw:={ M.sw with grey:=g } }:=by
 obtain ⟨ts,tg,⟨dd,os⟩,og⟩:=j.js;refine ⟨iU.upd w og (by rw [tg]),?_⟩;have f:wZ s (·=8) H (upd H A.gr (.lst (g.map V.int))) T T:=wZ.Br tg;exact ⟨j.jb.mv f (oO h0 tg) (by omega) (by omega),j.jh.mv f (by omega) (by omega),j.jn.mv f (oO h0 tg) (by omega),⟨ts,tg,⟨dd,f.at ts (by omega) os⟩,aq⟩,j.jd.mv f fun _ _ _=>by omega,j.jc.mv f fun _ _=>by omega⟩
theorem WJ.back (j:WJ X H T s A M) (w:WT H T) (h0:s≠0) {i:Nat}{dx:Addr}{used':Int} (hi:i < A.cs.length) (H':Hp) (kp:∀ b o,H b=some o→b≠A.hp→b≠A.ca→H' b=some o) (a1:H' A.hp=some (.ins X.H dx (jU M.room A.ca used' M.born))) (a2:H' A.ca=some (.lst ((A.cs.map pV).set i V.non))):
  iU s H H' T T∧WJ X H' T s { A with cs:=A.cs.set i none } { M with used:=used',cells:=M.cells.set i none }:=by
 obtain ⟨th,tc,⟨dd,oh⟩,oc⟩:=j.jh;have al:∀ b o,H b=some o→∃ o',H' b=some o':=fun b o h=>by
  by_cases z1:b=A.hp
  ·exact ⟨_,by rw [z1];exact a1⟩
  ·by_cases z2:b=A.ca
   ·exact ⟨_,by rw [z2];exact a2⟩
   ·exact ⟨o,kp b o h z1 z2⟩
 have f:wZ s (fun k=>k=1∨k=2) H H' T T:=⟨fun b o h e n=>kp b o h (fun z=>n (.inl (by rw [z,th]))) (fun z=>n (.inr (by rw [z,tc]))),fun _ _ _=>rfl⟩;have f0:∀ b o,H b=some o→T b=(0,0)→H' b=some o:=fun b o h t=>kp b o h (Pq t th (fun z=>h0 (congrArg Prod.fst z).symm)) (Pq t tc (fun z=>h0 (congrArg Prod.fst z).symm));refine ⟨⟨fun b o h n=>kp b o h (fun z=>n (by rw [z,th])) (fun z=>n (by rw [z,tc])),al,fun _ _ _=>rfl,fun b h=>w b ?_⟩,?_⟩
 ·cases z:H b with
  | none=>rfl
  | some o=>obtain ⟨o',z'⟩:=al b o z;rw [h] at z';cases z'
 ·refine ⟨?_,⟨th,tc,⟨dx,a1⟩,by rw [List.map_set];exact a2⟩,?_,?_,j.jd.mv f fun _ _ _=>by omega,⟨by rw [List.length_set,List.length_set];exact j.jc.lc,fun k g c e1 e2=>?_⟩⟩
  ·obtain ⟨b1,b2,b3,b4,b5,b6,b7,b8⟩:=j.jb.mv f f0 (by omega) (by omega);exact ⟨b1,b2,b3,b4,b5,b6,b7,b8⟩
  ·obtain ⟨b1,b2,b3⟩:=j.jn.mv f f0 (by omega);exact ⟨b1,b2,b3⟩
  ·obtain ⟨b1,b2,b3,b4⟩:=j.js.mv f (by omega) (by omega);exact ⟨b1,b2,b3,b4⟩
  ·by_cases hk:k=i
   ·subst hk;dsimp only at e1 e2;rw [List.getElem?_set_self hi] at e1;rw [List.getElem?_set_self (by rw [← j.jc.lc];exact hi)] at e2;cases e1;cases e2
    trivial
   ·dsimp only at e1 e2;rw [List.getElem?_set_ne (fun z=>hk z.symm)] at e1 e2;exact (j.jc.ce k g c e1 e2).mv f (by omega) (by omega)
end
def mC {α:Type}:List (Option α)→Nat
 | []=>0
 | none :: _=>0
 | some _ :: l=>mC l + 1
def rA {α:Type} (l:List (Option α)) (x:α):List (Option α):=if mC l < l.length then l.set (mC l) (some x) else l ++ [some x]
theorem Zg9 {α:Type} (l:List (Option α)):mC l≤l.length:=by
 induction l with
 | nil=>exact Nat.le_refl _
 | cons a l ih=>cases a with
  | none=>exact Nat.zero_le _
  | some a=>exact Nat.succ_le_succ ih
theorem Zq1 {α:Type}{l:List (Option α)} (h:mC l < l.length):l[mC l]? =some none:=by
 induction l with
 | nil=>exact absurd h (Nat.lt_irrefl _)
 | cons a l ih=>cases a with
  | none=>rfl
  | some a=>exact ih (Nat.lt_of_succ_lt_succ h)
theorem Zaz {α:Type}{f:Option α→V} (hf:∀ x,f x=V.non↔x=none) (l:List (Option α)):(l.map f).idxOf V.non=mC l∧(V.non∈l.map f↔mC l < l.length):=by
 induction l with
 | nil=>exact ⟨rfl,⟨fun z=>(nomatch z),fun z=>absurd z (Nat.lt_irrefl _)⟩⟩
 | cons a l ih=>
  rw [List.map_cons,List.idxOf_cons];cases a with
  | none=>
   have e:f none=V.non:=(hf none).mpr rfl;rw [e];exact ⟨rfl,⟨fun _=>Nat.zero_lt_succ _,fun _=>List.mem_cons_self⟩⟩
  | some a=>
   have e:f (some a)≠V.non:=fun z=>by cases (hf (some a)).mp z
   have b:(f (some a) == V.non)=false:=beq_eq_false_iff_ne.mpr e;rw [b];refine ⟨congrArg (· + 1) ih.1,?_⟩;show _↔mC l + 1 < l.length + 1;rw [List.mem_cons,ih.2];constructor
   ·rintro (z | z)
    ·exact absurd z.symm e
    ·omega
   ·intro z;exact .inr (by omega)
theorem Zjx {α:Type}{f:Option α→V} (hf:∀ x,f x=V.non↔x=none) (l:List (Option α)) (x:α):putN (l.map f) (f (some x))=(rA l x).map f:=by
 obtain ⟨e1,e2⟩:=Zaz hf l;unfold putN rA
 by_cases z:mC l < l.length
 ·rw [if_pos z,if_pos (e2.mpr z),List.map_set];exact congrArg (fun k=>(l.map f).set k (f (some x))) e1
 ·rw [if_neg z,if_neg (fun w=>z (e2.mp w)),List.map_append];rfl
theorem Zkf (p:Option (Addr×Addr)):pV p=V.non↔p=none:=by cases p<;>simp [pV]
theorem Ww {α:Type} (l:List (Option α)) (x:α):(rA l x)[mC l]? =some (some x):=by
 unfold rA
 by_cases z:mC l < l.length
 ·rw [if_pos z,List.getElem?_set_self z]
 ·have e:mC l=l.length:=Nat.le_antisymm (Zg9 l) (by omega);rw [if_neg z,e,List.getElem?_append_right (Nat.le_refl _),Nat.sub_self];rfl
theorem Zfu {α:Type}{l:List (Option α)}{x:α}{i:Nat}{y:Option α} (hi:i≠mC l) (h:(rA l x)[i]? =some y):l[i]? =some y:=by
 unfold rA at h
 by_cases z:mC l < l.length
 ·rw [if_pos z,List.getElem?_set_ne (fun w=>hi w.symm)] at h;exact h
 ·rw [if_neg z] at h;have e:mC l=l.length:=Nat.le_antisymm (Zg9 l) (by omega);have hl:=(fG h).1;rw [List.length_append,List.length_singleton] at hl;rw [List.getElem?_append_left (by omega)] at h;exact h
theorem Zjy {α β:Type}{l:List (Option α)}{m:List (Option β)}{x:α}{y:β} (hl:l.length=m.length) (hf:mC l=mC m):(rA l x).length=(rA m y).length:=by
 unfold rA
 by_cases z:mC l < l.length
 ·rw [if_pos z,if_pos (by omega),List.length_set,List.length_set];exact hl
 ·rw [if_neg z,if_neg (by omega),List.length_append,List.length_append,hl];rfl
theorem Znx {α:Type} (l:List (Option α)) (x:α):(rA l x).length≤l.length + 1:=by
 unfold rA
 by_cases z:mC l < l.length
 ·rw [if_pos z,List.length_set];omega
 ·rw [if_neg z,List.length_append];exact Nat.le_refl _
theorem Zq0 {α β:Type}:∀ (l:List (Option α)) (m:List (Option β)),l.length=m.length→(∀ (i:Nat) x y,l[i]? =some x→m[i]? =some y→(x=none↔y=none))→mC l=mC m:=by
 intro l
 induction l with
 | nil=>
  intro m hl _;cases m with
  | nil=>rfl
  | cons b m=>simp at hl
 | cons a l ih=>
  intro m hl h;cases m with
  | nil=>simp at hl
  | cons b m=>
   have ih':=ih m (by simpa using hl) fun i x y h1 h2=>h (i + 1) x y (by simpa using h1) (by simpa using h2);have e:=h 0 a b rfl rfl;cases a with
   | none=>rw [e.mp rfl];rfl
   | some a=>cases b with
    | none=>exact absurd (e.mpr rfl) (fun z=>by cases z)
    | some b=>exact congrArg (· + 1) ih'
section
variable {X:Cs}{H H':Hp}{T T':Tg}{s:Nat}{A:Wa}{M:Wm}
theorem WC.fst (j:WC X H T s A.cs M.cells):mC A.cs=mC M.cells:=Zq0 _ _ j.lc fun i p c e1 e2=>by
 have e:=j.ce i p c e1 e2;cases p with
 | none=>cases c with
  | none=>exact ⟨fun _=>rfl,fun _=>rfl⟩
  | some c=>exact e.elim
 | some p=>cases c with
  | none=>exact e.elim
  | some c=>exact ⟨fun z=>(by cases z),fun z=>(by cases z)⟩
theorem WJ.put (j:WJ X H T s A M) (w:WT H T) (h0:s≠0) {dx:Addr}{used':Int}{p fa:Addr}{c:Ce} (kp:∀ b o,H b=some o→b≠A.hp→b≠A.ca→H' b=some o) (a1:H' A.hp=some (.ins X.H dx (jU M.room A.ca used' (M.born + 1)))) (a2:H' A.ca=some (.lst (putN (A.cs.map pV) (.ref p))))
  (n1:H p=none) (n2:H fa=none) (m1:p≠fa) (o1:∃ dx,H' p=some (.ins X.C dx (mK c.birth c.bulk c.tone c.load fa))) (o2:H' fa=some (.lst (c.fl.map oV))):
  ∃ T',iU s H H' T T'∧WJ X H' T' s { A with cs:=rA A.cs (p,fa) } { M with used:=used',born:=M.born + 1,cells:=rA M.cells c }:=by
 obtain ⟨th,tc,⟨dd,oh⟩,oc⟩:=j.jh;have i1:=j.jc.fst
 let k:=mC A.cs
 let T':Tg:=fM (fM T p (s,100 + 2 * k)) fa (s,101 + 2 * k)
 have told:∀ b o,H b=some o→T' b=T b:=fun b o h=>by
  show fM _ _ _ b=_;rw [gZ (aD h n2),gZ (aD h n1)]
 have t1:T' p=(s,100 + 2 * k):=by show fM _ _ _ p=_;rw [gZ m1,fD]
 have t2:T' fa=(s,101 + 2 * k):=by show fM _ _ _ fa=_;rw [fD]
 have al:∀ b o,H b=some o→∃ o',H' b=some o':=fun b o h=>by
  by_cases z1:b=A.hp
  ·exact ⟨_,by rw [z1];exact a1⟩
  ·by_cases z2:b=A.ca
   ·exact ⟨_,by rw [z2];exact a2⟩
   ·exact ⟨o,kp b o h z1 z2⟩
 have f:wZ s (fun k=>k=1∨k=2) H H' T T':=⟨fun b o h e n=>kp b o h (fun z=>n (.inl (by rw [z,th]))) (fun z=>n (.inr (by rw [z,tc]))),told⟩;have f0:∀ b o,H b=some o→T b=(0,0)→H' b=some o:=fun b o h t=>kp b o h (Pq t th (fun z=>h0 (congrArg Prod.fst z).symm)) (Pq t tc (fun z=>h0 (congrArg Prod.fst z).symm));refine ⟨T',⟨fun b o h nn=>kp b o h (fun z=>nn (by rw [z,th])) (fun z=>nn (by rw [z,tc])),al,told,fun b h=>?_⟩,?_⟩
 ·have b1:b≠p:=fun e=>by obtain ⟨d,z⟩:=o1;rw [e,z] at h;cases h
  have b2:b≠fa:=fun e=>by rw [e,o2] at h;cases h
  have hb:H b=none:=by
   cases z:H b with
   | none=>rfl
   | some o=>obtain ⟨o',z'⟩:=al b o z;rw [h] at z';cases z'
  show fM _ _ _ b=_;rw [gZ b2,gZ b1];exact w b hb
 ·refine ⟨?_,⟨f.tag oh th,f.tag oc tc,⟨dx,a1⟩,?_⟩,?_,?_,j.jd.mv f fun _ _ _=>by omega,⟨Zjy j.jc.lc i1,fun i g cc e1 e2=>?_⟩⟩
  ·obtain ⟨b1,b2,b3,b4,b5,b6,b7,b8⟩:=j.jb.mv f f0 (by omega) (by omega);exact ⟨b1,b2,b3,b4,b5,b6,b7,b8⟩
  ·show H' A.ca=some (.lst ((rA A.cs (p,fa)).map pV));rw [← Zjx Zkf];exact a2
  ·obtain ⟨b1,b2,b3⟩:=j.jn.mv f f0 (by omega);exact ⟨b1,b2,b3⟩
  ·obtain ⟨b1,b2,b3,b4⟩:=j.js.mv f (by omega) (by omega);exact ⟨b1,b2,b3,b4⟩
  ·dsimp only at e1 e2
   by_cases hk:i=mC A.cs
   ·subst hk;rw [Ww] at e1;rw [i1,Ww] at e2;cases e1;cases e2;exact ⟨t1,t2,o1,o2⟩
   ·exact (j.jc.ce i g cc (Zfu hk e1) (Zfu (by rw [← i1];exact hk) e2)).mv f (by omega) (by omega)
end
def cellAt (M:Wm) (x:Int):Option Ce:=if 0≤x then (M.cells[x.toNat]?).join else none
def DG (M:Wm):Option Int→Option Int
 | none=>none
 | some x=>(cellAt M x).map (·.birth)
def aU (M:Wm) (h k:Nat):Option Int:=((M.hands[h]?).bind fun m=>m.2[k]?).join
def setSlot (M:Wm) (h k:Nat) (x:Option Int):Wm:={ M with hands:=M.hands.modify h fun m=>(m.1,m.2.set k x) }
def setCell (M:Wm) (i:Int) (c:Ce):Wm:={ M with cells:=M.cells.set i.toNat (some c) }
def cN (M:Wm):Option Int→Option Int×Wm
 | none=>(none,M)
 | some i=>match cellAt M i with
  | none=>(none,M)
  | some c=>if M.sw.phase="walk"∧c.tone≠M.sw.sense then (some c.birth,{ setCell M i { c with tone:=M.sw.sense } with sw:={ M.sw with grey:=M.sw.grey ++ [i] } }) else (none,M)
def dJ (M:Wm) (h:Nat):Bool:=decide (M.sw.looked / 2 ^ h % 2=1)
def rE (M:Wm) (place birth:Int):Bool:=match cellAt M place with
 | none=>true
 | some c=>if c.birth=birth then decide (M.sw.phase="give"∧c.tone≠M.sw.sense) else true
def uV (l:List (Str×(Int×Int))) (k:Str) (v:Int×Int):List (Str×(Int×Int)):=if (l.any fun m=>decide (m.1=k))=true then l.map (fun m=>if m.1=k then (m.1,v) else m) else l ++ [(k,v)]
def rF (l:List (Str×(Int×Int))) (k:Str):Option (Int×Int):=(l.find? fun m=>decide (m.1=k)).map (·.2)
inductive Rf where
 | full | empty | qR | Pk
 deriving DecidableEq
structure Ev where
 word:Str
 thing:Option Int
 notes:List Int
inductive oU where
 | make (h s:Nat) (many bulk:Int)
 | get (h s t f:Nat)
 | put (h t f s:Nat)
 | copy (h s t:Nat)
 | drop (h s:Nat)
 | give (h s g t:Nat)
 | write (h t:Nat) (load:Int)
 | read (h t:Nat)
 | name (h t:Nat) (word:Str)
 | seek (h s:Nat) (word:Str)
def old? (M:Wm):Bool:=decide (M.tells % 2=1)
def qG (M:Wm):Bool:=decide (M.tells / 2 % 2=1)
def ofN:Option Int→List Int
 | none=>[]
 | some b=>[b]
def bz (M:Wm):List (Option Int)→List Int×Wm
 | []=>([],M)
 | x :: l=>(ofN (cN M x).1 ++ (bz (cN M x).2 l).1,(bz (cN M x).2 l).2)
def CG (M:Wm):oU→Except Rf (Ev×Wm)
 | .make h s many bulk=>
  if M.used + (1 + many + bulk)≤M.room then
   .ok (⟨"made",some (M.born + 1),[]⟩,setSlot { M with used:=M.used + (1 + many + bulk),born:=M.born + 1,cells:=rA M.cells ⟨M.born + 1,bulk,M.sw.sense,0,List.replicate many.toNat none⟩ } h s (some (mC M.cells)))
  else .error .full
 | .get h s t f=>match aU M h t with
  | none=>.error .empty
  | some x=>match cellAt M x with
   | none=>.error .empty
   | some c=>match c.fl[f]? with
    | none=>.error .qR
    | some v=>.ok (⟨"got",DG M v,[]⟩,setSlot M h s v)
 | .put h t f s=>match aU M h t with
  | none=>.error .empty
  | some x=>match cellAt M x with
   | none=>.error .empty
   | some c=>match c.fl[f]? with
    | none=>.error .qR
    | some v=>
     let M1:=setCell M x { c with fl:=c.fl.set f (aU M h s) }
     let r:=bz M1 ((if old? M=true then [v] else []) ++ if (qG M && !dJ M h)=true then [aU M h s] else [])
     .ok (⟨"put",DG M v,r.1⟩,r.2)
 | .copy h s t=>.ok (⟨"copied",DG M (aU M h t),[]⟩,setSlot M h s (aU M h t))
 | .drop h s=>.ok (⟨"dropped",DG M (aU M h s),[]⟩,setSlot M h s none)
 | .give h s g t=>
  let r:=bz (setSlot M g t (aU M h s)) (if (qG M && !dJ M h)=true then [aU M h s] else [])
  .ok (⟨"given",DG M (aU M h s),r.1⟩,r.2)
 | .write h t load=>match aU M h t with
  | none=>.error .empty
  | some x=>match cellAt M x with
   | none=>.error .empty
   | some c=>.ok (⟨"wrote",some c.load,[]⟩,setCell M x { c with load:=load })
 | .read h t=>match aU M h t with
  | none=>.error .empty
  | some x=>match cellAt M x with
   | none=>.error .empty
   | some c=>.ok (⟨"read",some c.load,[]⟩,M)
 | .name h t word=>match aU M h t with
  | none=>.error .empty
  | some x=>match cellAt M x with
   | none=>.error .empty
   | some c=>.ok (⟨"named",some c.birth,[]⟩,{ M with names:=uV M.names word (x,c.birth) })
 | .seek h s word=>match rF M.names word with
  | none=>.error .Pk
  | some (p,b)=>
   if rE M p b=true then .ok (⟨"sought",none,[]⟩,setSlot M h s none)
   else
    let r:=bz (setSlot M h s (some p)) [some p]
    .ok (⟨"sought",some b,r.1⟩,r.2)
def dV:oU→List V
 | .make h s many bulk=>[.str "make",.int h,.int s,.int many,.int bulk]
 | .get h s t f=>[.str "get",.int h,.int s,.int t,.int f]
 | .put h t f s=>[.str "put",.int h,.int t,.int f,.int s]
 | .copy h s t=>[.str "copy",.int h,.int s,.int t]
 | .drop h s=>[.str "drop",.int h,.int s]
 | .give h s g t=>[.str "give",.int h,.int s,.int g,.int t]
 | .write h t load=>[.str "write",.int h,.int t,.int load]
 | .read h t=>[.str "read",.int h,.int t]
 | .name h t word=>[.str "name",.int h,.int t,.str word]
 | .seek h s word=>[.str "seek",.int h,.int s,.str word]
def zO (M:Wm) (h s:Nat):Prop:=∃ m,M.hands[h]? =some m∧s < m.2.length
def okD (M:Wm):oU→Prop
 | .make h s many bulk=>zO M h s∧0≤many∧many≤1000∧0≤bulk
 | .get h s t _=>zO M h s∧zO M h t
 | .put h t _ s=>zO M h t∧zO M h s
 | .copy h s t=>zO M h s∧zO M h t
 | .drop h s=>zO M h s
 | .give h s g t=>zO M h s∧zO M g t
 | .write h t _=>zO M h t
 | .read h t=>zO M h t
 | .name h t _=>zO M h t
 | .seek h s _=>zO M h s
structure Ok (M:Wm):Prop where
 sl:∀ m∈M.hands,∀ x,some x∈m.2→∃ c,cellAt M x=some c
 fl:∀ c,some c∈M.cells→∀ x,some x∈c.fl→∃ d,cellAt M x=some d
 tn:∀ c,some c∈M.cells→c.tone=0∨c.tone=1
def zN (Zvs Zu0 Zn5 Zql:Addr):Rf→Addr
 | .full=>Zvs
 | .empty=>Zu0
 | .qR=>Zn5
 | .Pk=>Zql
def EvN (H0 H:Hp) (a:Addr) (e:Ev):Prop:=∃ l,H0 l=none∧H a=some (.tup [.str e.word,oV e.thing,.ref l])∧H l=some (.lst (e.notes.map V.int))
def bW (X:Cs) (rf:Rf→Addr) (P:oU→Prop):Sp:=fun vs H Q E=>∃ wo dd,vs=[.ref wo,.ref dd]∧∃ T s A M d,P d∧WT H T∧s≠0∧WJ X H T s A M∧A.wo=wo∧H dd=some (.tup (dV d))∧okD M d∧M.cells.length≤900∧(M.sw.phase="walk"→M.sw.grey.length≤10000)∧(0≤M.tells∧M.tells < 4)∧M.names.length≤1000∧
 (∀ r,CG M d=.error r→∀ H',aY H H'→E (.ref (rf r)) none H')∧
 (∀ e M',CG M d=.ok (e,M')→∀ H' T' A' a,iU s H H' T T'→WJ X H' T' s A' M'→A'.wo=wo→EvN H H' a e→Q (.ref a) H')
abbrev ZDt (X:Cs) (rf:Rf→Addr):Sp:=bW X rf fun _=>True
theorem Zh3 {α:Type}{l:List (Option α)}{x a:α}{i:Nat} (h:l[i]? =some (some a)):(rA l x)[i]? =some (some a):=by
 have hl:=(fG h).1;unfold rA
 by_cases z:mC l < l.length
 ·have hi:i≠mC l:=fun e=>by rw [e,Zq1 z] at h;cases h
  rw [if_pos z,List.getElem?_set_ne (fun w=>hi w.symm)];exact h
 ·rw [if_neg z,List.getElem?_append_left hl];exact h
theorem fU {M:Wm}{x:Int}{c:Ce}:cellAt M x=some c↔0≤x∧M.cells[x.toNat]? =some (some c):=by
 unfold cellAt
 by_cases z:0≤x
 ·rw [if_pos z];cases e:M.cells[x.toNat]? with
  | none=>simp
  | some y=>cases y with
   | none=>simp
   | some d=>simp [z]
 ·rw [if_neg z];simp [z]
theorem zb {M:Wm}{x:Int}{c:Ce} (h:cellAt M x=some c):some c∈M.cells:=List.mem_of_getElem? (fU.mp h).2
theorem Zf8 {M:Wm}{x u b:Int}{c d:Ce} (h:cellAt M x=some d):cellAt { M with used:=u,born:=b,cells:=rA M.cells c } x=some d:=by
 obtain ⟨h0,h1⟩:=fU.mp h;exact fU.mpr ⟨h0,Zh3 h1⟩
theorem Zf9 {M:Wm}{u b:Int}{c:Ce}:cellAt { M with used:=u,born:=b,cells:=rA M.cells c } (mC M.cells)=some c:=
 fU.mpr ⟨by omega,by rw [Int.toNat_natCast];exact Ww _ _⟩
theorem Zl0 {α:Type}{l:List (Option α)}{x:α}{y:Option α} (h:y∈rA l x):y∈l∨y=some x:=by
 unfold rA at h
 by_cases z:mC l < l.length
 ·rw [if_pos z] at h;rcases List.mem_or_eq_of_mem_set h with h | h
  ·exact .inl h
  ·exact .inr h
 ·rw [if_neg z] at h;rcases List.mem_append.mp h with h | h
  ·exact .inl h
  ·exact .inr (List.mem_singleton.mp h)
theorem Zgw {M:Wm}{h k:Nat}{m:Str×List (Option Int)}{x:Option Int} (hm:M.hands[h]? =some m) (hk:m.2[k]? =some x):aU M h k=x:=by
 unfold aU;rw [hm];show (m.2[k]?).join=x;rw [hk];rfl
theorem Z8 {M:Wm}{h k:Nat} (o:zO M h k):∃ m,M.hands[h]? =some m∧m.2[k]? =some (aU M h k)∧k < m.2.length:=by
 obtain ⟨m,hm,hk⟩:=o;refine ⟨m,hm,?_,hk⟩;rw [Zgw hm (cj hk)];exact cj hk
theorem Rg {M:Wm}{h k:Nat}{x:Option Int}{m:Str×List (Option Int)} (hm:M.hands[h]? =some m):(setSlot M h k x).hands=M.hands.set h (m.1,m.2.set k x):=by
 show M.hands.modify h _=_;apply List.ext_getElem?;intro i;rw [List.getElem?_modify]
 by_cases e:h=i
 ·subst e;rw [List.getElem?_set_self (fG hm).1,hm];simp
 ·rw [List.getElem?_set_ne e];simp [e]
theorem o5 {M:Wm}{h k:Nat}{x:Option Int}{y:Option Int}:DG (setSlot M h k x) y=DG M y:=by cases y<;>rfl
theorem Zdv {M:Wm} (h:M.sw.phase≠"walk") (x:Option Int):cN M x=(none,M):=by
 cases x with
 | none=>rfl
 | some x=>
  unfold cN;dsimp only;cases cellAt M x with
  | none=>rfl
  | some c=>
   dsimp only;rw [if_neg (fun z=>h z.1)]
theorem Zba {M:Wm}{h s:Nat}{many bulk:Int} (hf:M.used + (1 + many + bulk)≤M.room):CG M (.make h s many bulk)=.ok (⟨"made",some (M.born + 1),[]⟩,setSlot { M with used:=M.used + (1 + many + bulk),born:=M.born + 1,cells:=rA M.cells ⟨M.born + 1,bulk,M.sw.sense,0,List.replicate many.toNat none⟩ } h s (some (mC M.cells))):=by
 show (if _ then _ else _)=_;rw [if_pos hf]
structure q8 (K:aC) (X:Cs):Prop where
 c:TxC K X.C X.H
 cW:DN K X.W
 M8:bH K X.W "heap"
 nWk:bH K X.W "kind"
 nWd:bH K X.W "hands"
 nWn:bH K X.W "names"
 RZ:bH K X.W "sweeper"
 cD:DN K X.D
 nDn:bH K X.D "name"
 nDs:bH K X.D "slots"
 cK:DN K X.K
 nKl:bH K X.K "looking"
 nKt:bH K X.K "tells"
 cS:DN K X.S
 n1:bH K X.S "sense"
 n2:bH K X.S "phase"
 n3:bH K X.S "grey"
 n4:bH K X.S "looked"
 n5:bH K X.S "turn"
 n6:bH K X.S "at"
 n7:bH K X.S "stop"
 n8:bH K X.S "walks"
 n9:bH K X.S "looks"
 n10:bH K X.S "passes"
 n11:bH K X.S "loss"
structure YZ (X:Cs) (H:Hp) (T:Tg) (s:Nat) (A:Wa) (M:Wm):Prop where
 jb:WB X H T s A M.w M.tells
 jh:WH X H T s A M.room M.used M.born
 js:WS X H T s A M.sw
 jd:WD X H T s A.hs M.hands
 jc:WC X H T s A.cs M.cells
theorem WJ.w0 {X:Cs}{H:Hp}{T:Tg}{s:Nat}{A:Wa}{M:Wm} (j:WJ X H T s A M):YZ X H T s A M:=⟨j.jb,j.jh,j.js,j.jd,j.jc⟩
theorem WJ.names {X:Cs}{H:Hp}{T:Tg}{s:Nat}{A:Wa}{M:Wm}{o:HO} (j:WJ X H T s A M) (h0:s≠0):YZ X (upd H A.nm o) T s A M:=by
 have f:wZ s (·=6) H (upd H A.nm o) T T:=wZ.Br j.jn.tm;exact ⟨j.jb.mv f (oO h0 j.jn.tm) (by omega) (by omega),j.jh.mv f (by omega) (by omega),j.js.mv f (by omega) (by omega),j.jd.mv f fun _ _ _=>by omega,j.jc.mv f fun _ _=>by omega⟩
theorem YZ.same {X:Cs}{H H':Hp}{T:Tg}{s:Nat}{A:Wa}{M:Wm} (j:YZ X H T s A M) (e:aY H H'):YZ X H' T s A M:=by
 have f:wZ s (fun _=>False) H H' T T:=wZ.of_same e;exact ⟨j.jb.mv f (fun b o h _=>e b o h) id id,j.jh.mv f id id,j.js.mv f id id,j.jd.mv f fun _ _ _=>id,j.jc.mv f fun _ _=>id⟩
def atO (cs:List V):V→V
 | .int i=>if 0≤i then (cs[i.toNat]?).getD .non else .non
 | _=>.non
def dO (CH:Addr):Sp:=fun vs H Q E=>∃ hp pl,vs=[.ref hp,pl]∧(pl=.non∨∃ i,pl=.int i)∧∃ ca room used born cs,HpO CH H hp ca room used born cs∧Q (atO cs pl) H
def cO (M:Wm) (x:Option Int):Option Ce:=x.bind (cellAt M)
def cA (X:Cs):Sp:=fun vs H Q E=>∃ hp pl,vs=[.ref hp,pl]∧∃ x,pl=oV x∧∃ T s A M,WJ X H T s A M∧A.hp=hp∧Q (oV (DG M x)) H
def vz (X:Cs):Sp:=fun vs H Q E=>∃ p f,vs=[.ref p,.int f]∧∃ T s i q c,QZ X.C H T s i q c∧q.1=p∧Q (.bl (decide (0≤f) && decide (f < c.fl.length))) H
def bU (X:Cs):Sp:=fun vs H Q E=>∃ wo h,vs=[.ref wo,.int h]∧∃ T s A M k p,WJ X H T s A M∧A.wo=wo∧h=((k:Nat):Int)∧A.hs[k]? =some p∧Q (.ref p.2) H
def cT (X:Cs):Sp:=fun vs H Q E=>∃ wo p,vs=[.ref wo,.ref p]∧∃ T s A M i q c,YZ X H T s A M∧A.wo=wo∧QZ X.C H T s i q c∧q.1=p∧Q (.bl (decide (c.tone=M.sw.sense))) H
def vq (X:Cs):Sp:=fun vs H Q E=>∃ wo h,vs=[.ref wo,.int h]∧∃ T s A M k,WJ X H T s A M∧A.wo=wo∧h=((k:Nat):Int)∧Q (.bl (dJ M k)) H
def zp (X:Cs):Sp:=fun vs H Q E=>∃ wo v,vs=[.ref wo,v]∧∃ T s A M,WJ X H T s A M∧A.wo=wo∧(0≤M.tells∧M.tells < 4)∧∀ l,H l=none→Q (.ref l) (upd H l (.lst (if old? M=true then [v] else [])))
def oR (X:Cs):Sp:=fun vs H Q E=>∃ wo h v,vs=[.ref wo,.int h,v]∧∃ T s A M k,WJ X H T s A M∧A.wo=wo∧(0≤M.tells∧M.tells < 4)∧h=((k:Nat):Int)∧∀ l,H l=none→Q (.ref l) (upd H l (.lst (if (qG M && !dJ M k)=true then [v] else [])))
def jE (X:Cs) (CE:Addr):Sp:=fun vs H Q E=>∃ wo h t,vs=[.ref wo,.int h,.int t]∧∃ T s A M hn tn,WJ X H T s A M∧A.wo=wo∧h=((hn:Nat):Int)∧t=((tn:Nat):Int)∧zO M hn tn∧
 (cO M (aU M hn tn)=none→E (.ref CE) none H)∧
 (∀ i c p,aU M hn tn=some i→0≤i→cellAt M i=some c→A.cs[i.toNat]? =some (some p)→QZ X.C H T s i.toNat p c→Q (.ref p.1) H)
def mU (X:Cs) (CE CF:Addr):Sp:=fun vs H Q E=>∃ wo h t f,vs=[.ref wo,.int h,.int t,.int f]∧∃ T s A M hn tn fn,WJ X H T s A M∧A.wo=wo∧h=((hn:Nat):Int)∧t=((tn:Nat):Int)∧f=((fn:Nat):Int)∧zO M hn tn∧
 (cO M (aU M hn tn)=none→E (.ref CE) none H)∧
 (∀ i c,aU M hn tn=some i→0≤i→cellAt M i=some c→c.fl[fn]? =none→E (.ref CF) none H)∧
 (∀ i c p,aU M hn tn=some i→0≤i→cellAt M i=some c→A.cs[i.toNat]? =some (some p)→QZ X.C H T s i.toNat p c→fn < c.fl.length→Q (.ref p.2) H)
def Y4 (X:Cs):Sp:=fun vs H Q E=>∃ wo pl,vs=[.ref wo,pl]∧∃ x,pl=oV x∧∃ T s A M,WT H T∧s≠0∧WJ X H T s A M∧A.wo=wo∧(M.sw.phase="walk"→M.sw.grey.length≤20000)∧
 ∀ H',iU s H H' T T→WJ X H' T s A (cN M x).2→Q (oV (cN M x).1) H'
def PlO (H:Hp) (T:Tg) (A:Wa) (M:Wm) (pl:Addr) (xs:List (Option Int)):Prop:=(H pl=some (.lst (xs.map oV))∧T pl=(0,0))∨(∃ (k:Nat) (p:Addr×Addr) (m:Str×List (Option Int)),A.hs[k]? =some p∧M.hands[k]? =some m∧pl=p.2∧xs=m.2)∨(∃ (k:Nat) (p:Addr×Addr) (c:Ce),A.cs[k]? =some (some p)∧M.cells[k]? =some (some c)∧pl=p.2∧xs=c.fl)
theorem PlO.get {X:Cs}{H:Hp}{T:Tg}{s:Nat}{A:Wa}{M:Wm}{pl:Addr}{xs:List (Option Int)} (h:PlO H T A M pl xs) (j:WJ X H T s A M):H pl=some (.lst (xs.map oV)):=by
 rcases h with ⟨h,_⟩ | ⟨k,p,m,h1,h2,rfl,rfl⟩ | ⟨k,p,c,h1,h2,rfl,rfl⟩
 ·exact h
 ·exact (j.jd.hd k p m h1 h2).o2
 ·have e:=j.jc.ce k _ _ h1 h2;exact (show QZ X.C H T s k p c from e).o2
def fj (X:Cs):Sp:=fun vs H Q E=>∃ wo pl,vs=[.ref wo,.ref pl]∧∃ xs T s A M,WT H T∧s≠0∧WJ X H T s A M∧A.wo=wo∧PlO H T A M pl xs∧xs.length≤100∧(M.sw.phase="walk"→M.sw.grey.length≤10000)∧
 ∀ H' T' l,iU s H H' T T'→WJ X H' T' s A (bz M xs).2→H' l=some (.lst ((bz M xs).1.map V.int))→H l=none→Q (.ref l) H'
def EY (X:Cs):Sp:=fun vs H Q E=>∃ wo p b,vs=[.ref wo,.int p,.int b]∧∃ T s A M,YZ X H T s A M∧A.wo=wo∧Q (.bl (rE M p b)) H
def rz (X:Cs) (CN:Addr):Sp:=fun vs H Q E=>∃ wo z,vs=[.ref wo,.str z]∧∃ T s A M,WJ X H T s A M∧A.wo=wo∧(rF M.names z=none→E (.ref CN) none H)∧(∀ p b,rF M.names z=some (p,b)→Q (if rE M p b=true then .non else .int p) H)
theorem xq (x:Option Int):oV x=.non∨∃ i,oV x=.int i:=by cases x with
 | none=>exact .inl rfl
 | some i=>exact .inr ⟨i,rfl⟩
section
variable {X:Cs}{H H':Hp}{T T':Tg}{s:Nat}{A:Wa}{M:Wm}
theorem YZ.hpO (j:YZ X H T s A M):HpO X.H H A.hp A.ca M.room M.used M.born (A.cs.map pV):=⟨j.jh.oh,j.jh.oc⟩
theorem YZ.look (j:YZ X H T s A M) (x:Option Int):(cO M x=none∧atO (A.cs.map pV) (oV x)=.non)∨∃ i c p,x=some i∧0≤i∧cellAt M i=some c∧M.cells[i.toNat]? =some (some c)∧A.cs[i.toNat]? =some (some p)∧atO (A.cs.map pV) (oV x)=.ref p.1∧QZ X.C H T s i.toNat p c:=by
 cases x with
 | none=>exact .inl ⟨rfl,rfl⟩
 | some i=>
  show (cellAt M i=none∧atO _ (.int i)=_)∨_
  by_cases h0:0≤i
  ·cases hc:M.cells[i.toNat]? with
   | none=>
    have hl:A.cs[i.toNat]? =none:=by
     rw [List.getElem?_eq_none_iff] at hc ⊢;rw [j.jc.lc];exact hc
    refine .inl ⟨by unfold cellAt;rw [if_pos h0,hc];rfl,?_⟩;show (if 0≤i then _ else _)=_;rw [if_pos h0,dz,hl];rfl
   | some y=>cases y with
    | none=>
     refine .inl ⟨by unfold cellAt;rw [if_pos h0,hc];rfl,?_⟩;show (if 0≤i then _ else _)=_;rw [if_pos h0,dz,j.jc.at0 hc];rfl
    | some c=>
     obtain ⟨p,hp,e⟩:=j.jc.at hc;refine .inr ⟨i,c,p,rfl,h0,by unfold cellAt;rw [if_pos h0,hc];rfl,hc,hp,?_,e⟩;show (if 0≤i then _ else _)=_;rw [if_pos h0,dz,hp];rfl
  ·refine .inl ⟨by unfold cellAt;rw [if_neg h0],?_⟩;show (if 0≤i then _ else _)=_;rw [if_neg h0]
theorem WJ.hpO (j:WJ X H T s A M):HpO X.H H A.hp A.ca M.room M.used M.born (A.cs.map pV):=j.w0.hpO
theorem WJ.look (j:WJ X H T s A M) (x:Option Int):(cO M x=none∧atO (A.cs.map pV) (oV x)=.non)∨∃ i c p,x=some i∧0≤i∧cellAt M i=some c∧M.cells[i.toNat]? =some (some c)∧A.cs[i.toNat]? =some (some p)∧atO (A.cs.map pV) (oV x)=.ref p.1∧QZ X.C H T s i.toNat p c:=j.w0.look x
theorem WJ.hand (j:WJ X H T s A M) {k:Nat}{p:Addr×Addr} (hp:A.hs[k]? =some p):∃ m,M.hands[k]? =some m∧HdO X.D H T s k p m:=by
 have hl:k < M.hands.length:=by rw [← j.jd.lh];exact (fG hp).1
 exact ⟨_,cj hl,j.jd.hd k p _ hp (cj hl)⟩
theorem WJ.handOf (j:WJ X H T s A M) {h t:Nat} (o:zO M h t):∃ p m,A.hs[h]? =some p∧M.hands[h]? =some m∧m.2[t]? =some (aU M h t)∧t < m.2.length∧HdO X.D H T s h p m:=by
 obtain ⟨m,hm,hk,hl⟩:=Z8 o;have hh:h < A.hs.length:=by rw [j.jd.lh];exact (fG hm).1
 exact ⟨_,m,cj hh,hm,hk,hl,j.jd.hd h _ m (cj hh) hm⟩
theorem WJ.fresh (j:WJ X H T s A M) {l:Addr}{o:HO}{v:Nat×Nat} (h:H l=none):WJ X (upd H l o) (fM T l v) s A M:=
 j.mv (H':=upd H l o) (T':=fM T l v) ⟨fun b u e _ _=>by rw [aB (aD e h)];exact e,fun b u e=>gZ (aD e h)⟩ fun b u e _=>by rw [aB (aD e h)];exact e
end
theorem Zvn {t:Int} (h:0≤t∧t < 4):Builtin.bitAnd t 1=t % 2∧(Builtin.bitAnd t 2=0↔¬ t / 2 % 2=1):=by
 have:t=0∨t=1∨t=2∨t=3:=by omega
 rcases this with rfl | rfl | rfl | rfl<;>decide
section
variable {K:aC}{X:Cs}{H:Hp}{Q:VK}{E:XK}{n:St→Hp→Prop}{bk ct:St→Hp→Prop}
theorem Zf7 {hp:Addr}{pl:V} (T:q8 K X) (q:(pl=.non∨∃ i,pl=.int i)∧∃ ca room used born cs,HpO X.H H hp ca room used born cs∧Q (atO cs pl) H):Em K ⟨n,Q,bk,ct⟩ [some (.ref hp),some pl] H:=by
 obtain ⟨hpl,ca,room,used,born,cs,⟨⟨dx,h1⟩,h2⟩,q⟩:=q;unfold Em;rcases hpl with rfl | ⟨i,rfl⟩
 ·walk_at "ev";exact q
 ·walk_at "ev";refine wJ (fun z=>?_) (fun z=>?_)
  ·walk_at "ev";rw [show atO cs (.int i)=.non from if_neg (by omega)] at q;exact q
  ·rw [show atO cs (.int i)=(cs[i.toNat]?).getD .non from if_pos (by omega)] at q;walk_at "ev";refine aH h1 T.c.cB T.c.bL bV ?_;walk_at "ev";refine jV (cU.of h2) ?_;walk_at "ev";refine wJ (fun y=>?_) (fun y=>?_)
   ·walk_at "ev";rw [List.getElem?_eq_none_iff.mpr (by omega)] at q;exact q
   ·walk_at "ev";refine aH h1 T.c.cB T.c.bL bV ?_;walk_at "ev";have hl:i.toNat < cs.length:=by omega
    refine j9 (cU.of h2) (tL (by omega) (cj hl)) ?_;rw [cj hl] at q;exact q
theorem Zbh {hp:Addr}{pl:V} (T:q8 K X) (q:∃ x,pl=oV x∧∃ T s A M,WJ X H T s A M∧A.hp=hp∧Q (oV (DG M x)) H):Aq K (dO X.H) ⟨n,Q,bk,ct⟩ [some (.ref hp),some pl,none] H:=by
 obtain ⟨x,rfl,Tg,s,A,M,j,rfl,q⟩:=q;unfold Aq;walk_at "ev";refine ⟨_,_,rfl,xq x,_,_,_,_,_,j.hpO,?_⟩;rcases j.look x with ⟨e1,e2⟩ | ⟨i,c,p,rfl,h0,ec,_,_,e2,⟨t1,t2,⟨dx,o1⟩,o2⟩⟩
 ·rw [e2];have:DG M x=none:=by
   cases x with
   | none=>rfl
   | some i=>show (cellAt M i).map _=none;rw [show cellAt M i=none from e1];rfl
  rw [this] at q;walk_at "ev";exact q
 ·rw [e2];have:DG M (some i)=some c.birth:=by show (cellAt M i).map _=_;rw [ec];rfl
  rw [this] at q;walk_at "ev";refine aH o1 T.c.cP T.c.dN gA ?_;exact q
theorem HW {p:Addr}{f:Int} (T:q8 K X) (q:∃ T s i q c,QZ X.C H T s i q c∧q.1=p∧Q (.bl (decide (0≤f) && decide (f < c.fl.length))) H):pF K ⟨n,Q,bk,ct⟩ [some (.ref p),some (.int f)] H:=by
 obtain ⟨Tg,s,i,r,c,⟨t1,t2,⟨dx,o1⟩,o2⟩,rfl,q⟩:=q;unfold pF;walk_at "ev";refine wJ (fun z=>?_) (fun z=>?_)
 ·rw [decide_eq_true z,Bool.true_and] at q;walk_at "ev";refine aH o1 T.c.cP T.c.eO jW ?_;walk_at "ev";refine jV (cU.of o2) ?_;walk_at "ev";rw [bu];exact q
 ·rw [decide_eq_false z,Bool.false_and] at q;walk_at "ev";exact q
theorem Zw {wo:Addr}{h:Int} (T:q8 K X) (q:∃ T s A M k p,WJ X H T s A M∧A.wo=wo∧h=((k:Nat):Int)∧A.hs[k]? =some p∧Q (.ref p.2) H):Ak K ⟨n,Q,bk,ct⟩ [some (.ref wo),some (.int h)] H:=by
 obtain ⟨Tg,s,A,M,k,p,j,rfl,rfl,hp,q⟩:=q;obtain ⟨d1,ow⟩:=j.jb.ow;obtain ⟨m,hm,⟨t1,t2,⟨dx,o1⟩,o2⟩⟩:=j.hand hp;unfold Ak;walk_at "ev";refine aH ow T.cW T.nWd eN ?_;walk_at "ev";refine j9 (cU.of j.jb.on) (ie (v:=.ref p.1) (by rw [dz,hp];rfl)) ?_;refine aH o1 T.cD T.nDs uz ?_;exact q
theorem X8 {wo p:Addr} (T:q8 K X) (q:∃ T s A M i q c,YZ X H T s A M∧A.wo=wo∧QZ X.C H T s i q c∧q.1=p∧Q (.bl (decide (c.tone=M.sw.sense))) H):yj K ⟨n,Q,bk,ct⟩ [some (.ref wo),some (.ref p)] H:=by
 obtain ⟨Tg,s,A,M,i,r,c,j,rfl,⟨t1,t2,⟨dx,o1⟩,o2⟩,rfl,q⟩:=q;obtain ⟨d1,ow⟩:=j.jb.ow;obtain ⟨d2,os⟩:=j.js.os;unfold yj;walk_at "ev";refine aH o1 T.c.cP T.c.lK Tq ?_;walk_at "ev";refine aH ow T.cW T.RZ bw ?_;walk_at "ev";refine aH os T.cS T.n1 nR ?_;walk_at "ev";exact q
end
theorem Ztl {y:Int}:Builtin.bitAnd y 1=y % 2:=by
 unfold Builtin.bitAnd
 by_cases h:0≤y
 ·rw [decide_eq_true h,decide_eq_true (show (0:Int)≤1 by decide)];show ((y.toNat &&& 1:Nat):Int)=_;rw [Nat.and_one_is_mod];omega
 ·rw [decide_eq_false h,decide_eq_true (show (0:Int)≤1 by decide)];show (1:Int) - ((1 &&& (Builtin.bitNot y).toNat:Nat):Int)=_;rw [Nat.and_comm,Nat.and_one_is_mod];unfold Builtin.bitNot;omega
section
variable {K:aC}{X:Cs}{H:Hp}{Q:VK}{E:XK}{n:St→Hp→Prop}{bk ct:St→Hp→Prop}{CE CF CN:Addr}
theorem Xi {wo:Addr}{h:Int} (T:q8 K X) (q:∃ T s A M k,WJ X H T s A M∧A.wo=wo∧h=((k:Nat):Int)∧Q (.bl (dJ M k)) H):yh K ⟨n,Q,bk,ct⟩ [some (.ref wo),some (.int h)] H:=by
 obtain ⟨Tg,s,A,M,k,j,rfl,rfl,q⟩:=q;obtain ⟨d1,ow⟩:=j.jb.ow;obtain ⟨d2,os⟩:=j.js.os;unfold yh;walk_at "ev";refine aH ow T.cW T.RZ bw ?_;walk_at "ev";refine aH os T.cS T.n4 jB ?_;walk_at "ev";rw [Ztl,Int.toNat_natCast];exact q
theorem NP {wo:Addr}{v:V} (T:q8 K X) (q:∃ T s A M,WJ X H T s A M∧A.wo=wo∧(0≤M.tells∧M.tells < 4)∧∀ l,H l=none→Q (.ref l) (upd H l (.lst (if old? M=true then [v] else [])))):
  um K ⟨n,Q,bk,ct⟩ [some (.ref wo),some v] H:=by
 obtain ⟨Tg,s,A,M,j,rfl,ht,q⟩:=q;obtain ⟨d1,ow⟩:=j.jb.ow;obtain ⟨d2,ok⟩:=j.jb.ok;obtain ⟨b1,_⟩:=Zvn ht;unfold um;walk_at "ev";refine aH ow T.cW T.nWk lB ?_;walk_at "ev";refine aH ok T.cK T.nKt Bx ?_;walk_at "ev";rw [b1];refine wJ (fun z=>?_) (fun z=>?_)
 ·walk_at "ev";refine ⟨aV (by simp),fun l hl=>?_⟩;have:=q l hl;rw [if_neg (by unfold old?;rw [decide_eq_true_iff];omega)] at this;exact this
 ·walk_at "ev";refine ⟨aV (by simp),fun l hl=>?_⟩;have:=q l hl;rw [if_pos (by unfold old?;rw [decide_eq_true_iff];omega)] at this;exact this
theorem NQ {wo:Addr}{h:Int}{v:V} (T:q8 K X) (q:∃ T s A M k,WJ X H T s A M∧A.wo=wo∧(0≤M.tells∧M.tells < 4)∧h=((k:Nat):Int)∧∀ l,H l=none→Q (.ref l) (upd H l (.lst (if (qG M && !dJ M k)=true then [v] else [])))):
  uo K (vq X) ⟨n,Q,bk,ct⟩ [some (.ref wo),some (.int h),some v] H:=by
 obtain ⟨Tg,s,A,M,k,j,rfl,ht,rfl,q⟩:=q;obtain ⟨d1,ow⟩:=j.jb.ow;obtain ⟨d2,ok⟩:=j.jb.ok;obtain ⟨_,b1⟩:=Zvn ht;unfold uo;walk_at "ev";refine aH ow T.cW T.nWk lB ?_;walk_at "ev";refine aH ok T.cK T.nKt Bx ?_;walk_at "ev";refine wJ (fun z=>?_) (fun z=>?_)
 ·walk_at "ev";refine ⟨aV (by simp),fun l hl=>?_⟩;have:=q l hl;have e:qG M=false:=by unfold qG;exact decide_eq_false (b1.mp z)
  rw [e,Bool.false_and,if_neg (by decide)] at this;exact this
 ·have e:qG M=true:=by unfold qG;exact decide_eq_true (Decidable.not_not.mp fun w=>z (b1.mpr w))
  rw [e,Bool.true_and] at q;walk_at "ev";refine ⟨_,_,rfl,Tg,s,A,M,k,j,rfl,rfl,?_⟩;cases hl:dJ M k with
  | true=>
   rw [hl] at q;walk_at "ev";refine ⟨aV (by simp),fun l hl=>?_⟩;exact q l hl
  | false=>
   rw [hl] at q;walk_at "ev";refine ⟨aV (by simp),fun l hl=>?_⟩;exact q l hl
theorem Zf6 {wo:Addr}{h t:Int} (T:q8 K X) (q:∃ T s A M hn tn,WJ X H T s A M∧A.wo=wo∧h=((hn:Nat):Int)∧t=((tn:Nat):Int)∧zO M hn tn∧
 (cO M (aU M hn tn)=none→E (.ref CE) none H)∧
 (∀ i c p,aU M hn tn=some i→0≤i→cellAt M i=some c→A.cs[i.toNat]? =some (some p)→QZ X.C H T s i.toNat p c→Q (.ref p.1) H)):
  El K CE (dO X.H) (bU X) E ⟨n,Q,bk,ct⟩ [some (.ref wo),some (.int h),some (.int t),none] H:=by
 obtain ⟨Tg,s,A,M,hn,tn,j,rfl,rfl,rfl,ok,hE,hQ⟩:=q;obtain ⟨d1,ow⟩:=j.jb.ow;obtain ⟨p,m,hp,hm,hs,hl,⟨t1,t2,o1,o2⟩⟩:=j.handOf ok;unfold El;walk_at "ev";refine aH ow T.cW T.M8 bC ?_;walk_at "ev";refine ⟨_,_,rfl,Tg,s,A,M,hn,p,j,rfl,rfl,hp,?_⟩;walk_at "ev";refine j9 (cU.of o2) (ie (v:=oV (aU M hn tn)) (by rw [dz,hs];rfl)) ?_;walk_at "ev";refine ⟨_,_,rfl,xq _,_,_,_,_,_,j.hpO,?_⟩;rcases j.look (aU M hn tn) with ⟨e1,e2⟩ | ⟨i,c,p',e0,h0,ec,_,hp',e2,ce⟩
 ·rw [e2];walk_at "ev";exact ⟨by decide,hE e1⟩
 ·rw [e2];walk_at "ev";exact hQ i c p' e0 h0 ec hp' ce
theorem Yd {wo:Addr}{h t f:Int} (T:q8 K X) (q:∃ T s A M hn tn fn,WJ X H T s A M∧A.wo=wo∧h=((hn:Nat):Int)∧t=((tn:Nat):Int)∧f=((fn:Nat):Int)∧zO M hn tn∧
 (cO M (aU M hn tn)=none→E (.ref CE) none H)∧
 (∀ i c,aU M hn tn=some i→0≤i→cellAt M i=some c→c.fl[fn]? =none→E (.ref CF) none H)∧
 (∀ i c p,aU M hn tn=some i→0≤i→cellAt M i=some c→A.cs[i.toNat]? =some (some p)→QZ X.C H T s i.toNat p c→fn < c.fl.length→Q (.ref p.2) H)):
  yl K X.C CF (vz X) (jE X CE) E ⟨n,Q,bk,ct⟩ [some (.ref wo),some (.int h),some (.int t),some (.int f),none] H:=by
 obtain ⟨Tg,s,A,M,hn,tn,fn,j,rfl,rfl,rfl,rfl,ok,hE,hF,hQ⟩:=q;unfold yl;walk_at "ev";refine ⟨_,_,_,rfl,Tg,s,A,M,hn,tn,j,rfl,rfl,rfl,ok,hE,fun i c p e0 h0 ec hp ce=>?_⟩;obtain ⟨t1,t2,⟨dx,o1⟩,o2⟩:=id ce;walk_at "ev";refine ⟨p.1,dx,_,rfl,o1,Ew,?_⟩;walk_at "ev";refine ⟨_,_,rfl,Tg,s,_,p,c,ce,rfl,?_⟩
 by_cases z:fn < c.fl.length
 ·rw [show (decide ((0:Int)≤(fn:Int)) && decide ((fn:Int) < c.fl.length))=true from by simp;omega];walk_at "ev";refine aH o1 T.c.cP T.c.eO jW ?_;exact hQ i c p e0 h0 ec hp ce z
 ·rw [show (decide ((0:Int)≤(fn:Int)) && decide ((fn:Int) < c.fl.length))=false from by simp;omega];walk_at "ev";exact ⟨by decide,hF i c e0 h0 ec (List.getElem?_eq_none_iff.mpr (by omega))⟩
theorem Zpy {wo:Addr}{pl b:Int} (T:q8 K X) (q:∃ T s A M,YZ X H T s A M∧A.wo=wo∧Q (.bl (rE M pl b)) H):Wt K (dO X.H) (cT X) ⟨n,Q,bk,ct⟩ [some (.ref wo),some (.int pl),some (.int b),none] H:=by
 obtain ⟨Tg,s,A,M,j,rfl,q⟩:=q;obtain ⟨d1,ow⟩:=j.jb.ow;obtain ⟨d2,os⟩:=j.js.os;unfold Wt;walk_at "ev";refine aH ow T.cW T.M8 bC ?_;walk_at "ev";refine ⟨_,_,rfl,xq (some pl),_,_,_,_,_,j.hpO,?_⟩;unfold rE at q;rcases j.look (some pl) with ⟨e1,e2⟩ | ⟨i,c,p,ei,h0,ec,_,hp,e2,ce⟩
 ·rw [show atO (A.cs.map pV) (.int pl)=.non from e2];rw [show cellAt M pl=none from e1] at q;walk_at "ev";exact q
 ·cases ei;rw [show atO (A.cs.map pV) (.int pl)=.ref p.1 from e2];rw [ec] at q;dsimp only at q;obtain ⟨t1,t2,⟨dx,o1⟩,o2⟩:=id ce;walk_at "ev";refine aH o1 T.c.cP T.c.dN gA ?_;walk_at "ev";refine SN (fun z=>?_) (fun z=>?_)
  ·rw [if_neg z] at q;walk_at "ev";exact q
  ·rw [if_pos z] at q;walk_at "ev";refine aH ow T.cW T.RZ bw ?_;walk_at "ev";refine aH os T.cS T.n2 mz ?_;walk_at "ev";refine wJ (fun y=>?_) (fun y=>?_)
   ·walk_at "ev";refine ⟨_,_,rfl,Tg,s,A,M,_,p,c,j,rfl,ce,rfl,?_⟩;walk_at "ev";have:decide (M.sw.phase="give"∧c.tone≠M.sw.sense)=!decide (c.tone=M.sw.sense):=by simp [y]
    rw [this] at q;exact q
   ·have:decide (M.sw.phase="give"∧c.tone≠M.sw.sense)=false:=decide_eq_false fun w=>y w.1;rw [this] at q;exact q
theorem Zou {wo:Addr}{pl:V} (T:q8 K X) (q:∃ x,pl=oV x∧∃ T s A M,WT H T∧s≠0∧WJ X H T s A M∧A.wo=wo∧(M.sw.phase="walk"→M.sw.grey.length≤20000)∧
 ∀ H',iU s H H' T T→WJ X H' T s A (cN M x).2→Q (oV (cN M x).1) H'):Wr K (dO X.H) (cT X) ⟨n,Q,bk,ct⟩ [some (.ref wo),some pl,none,none] H:=by
 obtain ⟨x,rfl,Tg,s,A,M,w,s0,j,rfl,hg,q⟩:=q;obtain ⟨d1,ow⟩:=j.jb.ow;obtain ⟨d2,os⟩:=j.js.os;unfold Wr;walk_at "ev";refine aH ow T.cW T.RZ bw ?_;walk_at "ev";refine aH ow T.cW T.M8 bC ?_;walk_at "ev";refine ⟨_,_,rfl,xq x,_,_,_,_,_,j.hpO,?_⟩;walk_at "ev";refine aH os T.cS T.n2 mz ?_;walk_at "ev";have stay:cN M x=(none,M)→Q .non H:=fun e=>by
  have:=q H (iU.refl w);rw [e] at this;exact this j
 refine SN (fun z=>?_) (fun z=>?_)
 ·walk_at "ev";exact stay (Zdv z x)
 ·rcases j.look x with ⟨e1,e2⟩ | ⟨i,c,p,rfl,h0,ec,hc,hp,e2,ce⟩
  ·rw [e2];walk_at "ev";refine stay ?_;cases x with
   | none=>rfl
   | some i=>unfold cN;dsimp only;rw [show cellAt M i=none from e1]
  ·rw [e2];obtain ⟨t1,t2,⟨dx,o1⟩,o2⟩:=id ce;walk_at "ev";refine ⟨_,_,rfl,Tg,s,A,M,_,p,c,j.w0,rfl,ce,rfl,?_⟩
   by_cases y:c.tone=M.sw.sense
   ·rw [decide_eq_true y];walk_at "ev";refine stay ?_;unfold cN;dsimp only;rw [ec];dsimp only;rw [if_neg fun w=>w.2 y]
   ·rw [decide_eq_false y];have en:cN M (some i)=(some c.birth,{ setCell M i { c with tone:=M.sw.sense } with sw:={ M.sw with grey:=M.sw.grey ++ [i] } }):=by
     unfold cN;dsimp only;rw [ec];dsimp only;rw [if_pos ⟨z,y⟩]
    rw [en] at q;walk_at "ev";refine aH os T.cS T.n1 nR ?_;walk_at "ev";refine ⟨p.1,X.C,dx,_,rfl,o1,T.c.cP,T.c.lK,by show 5 < 1000;decide,?_⟩;rw [QB];obtain ⟨st1,j1⟩:=j.cell w s0 (dx:=dx) (tone:=M.sw.sense) (load:=c.load) hp ce;generalize upd H p.1 (.ins X.C dx (mK c.birth c.bulk M.sw.sense c.load p.2))=H1 at st1 j1 ⊢;obtain ⟨d3,os1⟩:=j1.js.os;obtain ⟨p1,hp1,ce1⟩:=j1.jc.at (i:=i.toNat) (c:={ c with tone:=M.sw.sense,load:=c.load }) (by rw [List.getElem?_set_self (fG hc).1]);rw [hp] at hp1;cases hp1;walk_at "ev";refine aH os1 T.cS T.n3 tZ ?_;walk_at "ev";have hgl:=hg z;refine ⟨.inl ⟨rfl,_,cU.of j1.js.og⟩,?_⟩;walk_at "ev";refine ⟨_,_,_,rfl,rfl,j1.js.og,?_,?_⟩
    ·rw [bu];exact Nat.lt_of_le_of_lt hgl (by decide)
    obtain ⟨st2,j2⟩:=j1.Zqz st1.wt s0 (g:=M.sw.grey ++ [i]);have eg:(M.sw.grey.map V.int ++ [V.int i])=(M.sw.grey ++ [i]).map V.int:=by rw [List.map_append];rfl
    show bI _ _ _ (upd H1 A.gr (.lst (M.sw.grey.map V.int ++ [oV (some i)])));rw [show (M.sw.grey.map V.int ++ [oV (some i)])=(M.sw.grey ++ [i]).map V.int from eg];generalize upd H1 A.gr (.lst ((M.sw.grey ++ [i]).map V.int))=H2 at st2 j2 ⊢;obtain ⟨p2,hp2,ce2⟩:=j2.jc.at (i:=i.toNat) (c:={ c with tone:=M.sw.sense,load:=c.load }) (by show (M.cells.set _ _)[_]? =_;rw [List.getElem?_set_self (fG hc).1]);rw [hp] at hp2;cases hp2;obtain ⟨_,_,⟨dx2,o3⟩,_⟩:=ce2;walk_at "ev";refine aH o3 T.c.cP T.c.dN gA ?_;exact q H2 (st1.trans st2) j2
theorem Zkt {Tg:Tg}{z:Str}:∀ {ns:List Addr}{names:List (Str×(Int×Int))},Al (NmO H Tg) ns names→(rF names z=none∧rK (yS names ns) (Sum.inr z)=none)∨∃ p b t,rF names z=some (p,b)∧rK (yS names ns) (Sum.inr z)=some (.ref t)∧H t=some (.tup [.int p,.int b])∧Tg t=(0,0):=by
 intro ns names h
 induction h with
 | nil=>exact .inl ⟨rfl,rfl⟩
 | @cons t m ns names h1 _ ih=>
  by_cases e:m.1=z
  ·refine .inr ⟨m.2.1,m.2.2,t,?_,?_,h1.2,h1.1⟩
   ·unfold rF;rw [List.find?_cons_of_pos (by simpa using e)];rfl
   ·show (List.find? _ ((Sum.inr m.1,V.ref t) :: yS names ns)).map _=_;rw [List.find?_cons_of_pos (by simpa using e)];rfl
  ·have g:rF (m :: names) z=rF names z:=by unfold rF;rw [List.find?_cons_of_neg (by simpa using e)]
   have v:rK (yS (m :: names) (t :: ns)) (Sum.inr z)=rK (yS names ns) (Sum.inr z):=by
    show (List.find? _ ((Sum.inr m.1,V.ref t) :: yS names ns)).map _=_;rw [List.find?_cons_of_neg (by simpa using e)];rfl
   rw [g,v];exact ih
theorem OD {wo:Addr}{z:Str} (T:q8 K X) (q:∃ T s A M,WJ X H T s A M∧A.wo=wo∧(rF M.names z=none→E (.ref CN) none H)∧(∀ p b,rF M.names z=some (p,b)→Q (if rE M p b=true then .non else .int p) H)):
  uq K CN (EY X) E ⟨n,Q,bk,ct⟩ [some (.ref wo),some (.str z),none,none] H:=by
 obtain ⟨Tg,s,A,M,j,rfl,hE,hQ⟩:=q;obtain ⟨d1,ow⟩:=j.jb.ow;obtain ⟨tm,om,nms⟩:=j.jn;unfold uq;walk_at "ev";refine aH ow T.cW T.nWn iW ?_;refine ⟨_,_,rfl,Zgb om,?_⟩;rcases Zkt (z:=z) nms with ⟨e1,e2⟩ | ⟨p,b,t,e1,e2,ot,_⟩
 ·rw [e2];walk_at "ev";exact ⟨by decide,hE e1⟩
 ·rw [e2,show (!(some (V.ref t)).isSome)=false from rfl];walk_at "ev";refine aH ow T.cW T.nWn iW ?_;walk_at "ev";refine ⟨_,_,rfl,by have:=Zgb (z:=z) om;rw [e2] at this;exact this,?_⟩;walk_at "ev";refine ⟨t,_,0,_,rfl,rfl,gU.of ot,rfl,?_⟩;walk_at "ev";refine aH ow T.cW T.nWn iW ?_;walk_at "ev";refine ⟨_,_,rfl,by have:=Zgb (z:=z) om;rw [e2] at this;exact this,?_⟩;walk_at "ev";refine ⟨t,_,1,_,rfl,rfl,gU.of ot,rfl,?_⟩;walk_at "ev";refine ⟨_,_,_,rfl,Tg,s,A,M,j.w0,rfl,?_⟩;have:=hQ p b e1;cases hg:rE M p b with
  | true=>
   rw [hg] at this;walk_at "ev";exact this
  | false=>
   rw [hg] at this;walk_at "ev";exact this
theorem iU.new {s:Nat}{H Hx:Hp}{T Tx:Tg}{l:Addr}{o o0:HO} (e:iU s H Hx T Tx) (hl:H l=none) (hx:Hx l=some o0):iU s H (upd Hx l o) T Tx where
 kp:=fun b u h z=>by rw [aB (aD h hl)];exact e.kp b u h z
 al:=fun b u h=>by rw [aB (aD h hl)];exact e.al b u h
 tg:=e.tg
 wt:=fun b h=>e.wt b (by
  by_cases z:b=l
  ·rw [z,aq] at h;cases h
  ·rw [aB z] at h;exact h)
theorem iU.fresh {s:Nat}{H:Hp}{T:Tg}{l:Addr}{o:HO}{v:Nat×Nat} (w:WT H T) (hl:H l=none):iU s H (upd H l o) T (fM T l v) where
 kp:=fun b u h z=>by rw [aB (aD h hl)];exact h
 al:=fun b u h=>⟨u,by rw [aB (aD h hl)];exact h⟩
 tg:=fun b u h=>gZ (aD h hl)
 wt:=fun b h=>by
  by_cases z:b=l
  ·rw [z,aq] at h;cases h
  ·rw [aB z] at h;rw [gZ z];exact w b h
theorem Zdw {M:Wm}{x:Option Int}:(cN M x).2.sw.phase=M.sw.phase∧(cN M x).2.sw.grey.length≤M.sw.grey.length + 1∧(cN M x).2.tells=M.tells∧(cN M x).2.names=M.names:=by
 cases x with
 | none=>exact ⟨rfl,Nat.le_succ _,rfl,rfl⟩
 | some i=>
  unfold cN;dsimp only;cases cellAt M i with
  | none=>exact ⟨rfl,Nat.le_succ _,rfl,rfl⟩
  | some c=>
   dsimp only
   by_cases z:M.sw.phase="walk"∧c.tone≠M.sw.sense
   ·rw [if_pos z];exact ⟨rfl,by show (M.sw.grey ++ [i]).length≤_;rw [List.length_append];exact Nat.le_refl _,rfl,rfl⟩
   ·rw [if_neg z];exact ⟨rfl,Nat.le_succ _,rfl,rfl⟩
theorem KY {M:Wm}{x:Option Int}:(cN M x).2.hands=M.hands:=by
 cases x with
 | none=>rfl
 | some i=>
  unfold cN;dsimp only;cases cellAt M i with
  | none=>rfl
  | some c=>
   dsimp only;split<;>rfl
theorem Zdx {M:Wm}{x:Option Int}{k:Nat}{c:Ce} (h:M.cells[k]? =some (some c)):∃ c',(cN M x).2.cells[k]? =some (some c')∧c'.fl=c.fl∧c'.birth=c.birth∧c'.bulk=c.bulk∧c'.load=c.load:=by
 cases x with
 | none=>exact ⟨c,h,rfl,rfl,rfl,rfl⟩
 | some i=>
  unfold cN;dsimp only;cases hc:cellAt M i with
  | none=>exact ⟨c,h,rfl,rfl,rfl,rfl⟩
  | some d=>
   dsimp only;split
   ·show ∃ c',(M.cells.set i.toNat _)[k]? =_∧_
    by_cases z:i.toNat=k
    ·subst z;obtain ⟨_,hd⟩:=fU.mp hc;rw [h] at hd;cases hd;exact ⟨_,List.getElem?_set_self (fG h).1,rfl,rfl,rfl,rfl⟩
    ·rw [List.getElem?_set_ne z];exact ⟨c,h,rfl,rfl,rfl,rfl⟩
   ·exact ⟨c,h,rfl,rfl,rfl,rfl⟩
theorem kW:∀ {l:List (Option Int)}{M:Wm}{x:Option Int},bz M (l ++ [x])=((bz M l).1 ++ ofN (cN (bz M l).2 x).1,(cN (bz M l).2 x).2)
 | [],M,x=>by
  show (ofN (cN M x).1 ++ [],(cN M x).2)=([] ++ ofN (cN M x).1,(cN M x).2);rw [List.append_nil,List.nil_append]
 | y :: l,M,x=>by
  show (ofN (cN M y).1 ++ (bz (cN M y).2 (l ++ [x])).1,(bz (cN M y).2 (l ++ [x])).2)=_;rw [kW];show _=((ofN (cN M y).1 ++ (bz (cN M y).2 l).1) ++ _,_);rw [List.append_assoc];rfl
theorem u6:∀ {l:List (Option Int)}{M:Wm},(bz M l).2.sw.phase=M.sw.phase∧(bz M l).2.sw.grey.length≤M.sw.grey.length + l.length
 | [],M=>⟨rfl,Nat.le_refl _⟩
 | y :: l,M=>by
  obtain ⟨a,b,_⟩:=Zdw (M:=M) (x:=y);obtain ⟨c,d⟩:=u6 (l:=l) (M:=(cN M y).2);refine ⟨c.trans a,?_⟩;show (bz (cN M y).2 l).2.sw.grey.length≤_;rw [List.length_cons];omega
theorem yQ:∀ {l:List (Option Int)}{M:Wm},(bz M l).1.length≤l.length
 | [],M=>Nat.le_refl _
 | y :: l,M=>by
  have:=yQ (l:=l) (M:=(cN M y).2);show (ofN (cN M y).1 ++ (bz (cN M y).2 l).1).length≤_;rw [List.length_append,List.length_cons];have:(ofN (cN M y).1).length≤1:=by cases (cN M y).1<;>simp [ofN]
  omega
theorem Z9 {wo pl:Addr} (T:q8 K X) (q:∃ xs T s A M,WT H T∧s≠0∧WJ X H T s A M∧A.wo=wo∧PlO H T A M pl xs∧xs.length≤100∧(M.sw.phase="walk"→M.sw.grey.length≤10000)∧
 ∀ H' T' l,iU s H H' T T'→WJ X H' T' s A (bz M xs).2→H' l=some (.lst ((bz M xs).1.map V.int))→H l=none→Q (.ref l) H'):Am K (Y4 X) ⟨n,Q,bk,ct⟩ [some (.ref wo),some (.ref pl),none,none,none] H:=by
 obtain ⟨xs,Tg,s,A,M,w,s0,j,rfl,plo,hx,hg,q⟩:=q;have opl:=plo.get j;unfold Am;walk_at "ev";refine ⟨aV (by simp),fun l hl=>?_⟩;have npl:pl≠l:=aD opl hl;have st1:iU s H (upd H l (.lst [])) Tg (fM Tg l (s + 1,0)):=iU.fresh w hl;have j1:WJ X (upd H l (.lst [])) (fM Tg l (s + 1,0)) s A M:=j.fresh hl;have g1:upd H l (.lst []) l=some (.lst []):=aq;have tl:fM Tg l (s + 1,0) l=(s + 1,0):=fD;have po1:PlO (upd H l (.lst [])) (fM Tg l (s + 1,0)) A M pl xs:=by
  rcases plo with ⟨h1,h2⟩ | h
  ·exact .inl ⟨(aB npl).trans h1,(gZ npl).trans h2⟩
  ·exact .inr h
 have op1:upd H l (.lst []) pl=some (.lst (xs.map oV)):=(aB npl).trans opl;generalize upd H l (.lst [])=H1 at st1 j1 g1 op1 po1 ⊢;generalize fM Tg l (s + 1,0)=T1 at st1 j1 tl po1;walk_at "ev";refine ⟨pl,rfl,⟨_,cU.of op1⟩,forL (xs.map oV) (fun i σ Hx=>∃ v3 v4,σ=[some (.ref A.wo),some (.ref pl),some (.ref l),v3,v4]∧iU s H Hx Tg T1∧WJ X Hx T1 s A (bz M (xs.take i)).2∧Hx l=some (.lst ((bz M (xs.take i)).1.map V.int))∧PlO Hx T1 A (bz M (xs.take i)).2 pl xs) ⟨_,_,rfl,st1,j1,g1,po1⟩ (fun _ _ _ _ ⟨_,_,_,_,j,_,e⟩=>cU.of (e.get j)) ?_ ?_⟩
 ·rintro i x σ Hx hi ⟨v3,v4,rfl,st2,j2,g2,op2⟩;obtain ⟨y,hy,rfl⟩:∃ y,xs[i]? =some y∧oV y=x:=by
   rw [dz] at hi;obtain ⟨y,a,b⟩:=Option.map_eq_some_iff.mp hi;exact ⟨y,a,b⟩
  have il:=(fG hy).1;have et:xs.take (i + 1)=xs.take i ++ [y]:=by
   rw [List.take_add_one,hy];rfl
  obtain ⟨gp,gl⟩:=u6 (l:=xs.take i) (M:=M);have nl:=yQ (l:=xs.take i) (M:=M);have tk:(xs.take i).length≤100:=by rw [List.length_take];omega
  walk_at "ev";refine ⟨_,_,rfl,y,rfl,T1,s,A,_,st2.wt,s0,j2,rfl,fun z=>?_,fun Hy sty jy=>?_⟩
  ·have:=hg (gp.symm.trans z);omega
  have gy:Hy l=some (.lst ((bz M (xs.take i)).1.map V.int)):=sty.kp _ _ g2 (by rw [tl];show s + 1≠s;omega);have oy:PlO Hy T1 A (cN (bz M (xs.take i)).2 y).2 pl xs:=by
   rcases op2 with ⟨h1,h2⟩ | ⟨k,p,m,h1,h2,h3,h4⟩ | ⟨k,p,c,h1,h2,h3,h4⟩
   ·exact .inl ⟨sty.kp _ _ h1 (by rw [h2];exact fun z=>s0 z.symm),h2⟩
   ·exact .inr (.inl ⟨k,p,m,h1,by rw [KY];exact h2,h3,h4⟩)
   ·obtain ⟨c',e1,e2,_⟩:=Zdx (x:=y) h2;exact .inr (.inr ⟨k,p,c',h1,e1,h3,by rw [e2];exact h4⟩)
  have stt:=st2.trans sty;walk_at "ev";cases hn:(cN (bz M (xs.take i)).2 y).1 with
  | none=>
   dsimp only [oV];walk_at "ev";refine ⟨_,_,rfl,stt,?_,?_,by rw [et,kW];exact oy⟩
   ·rw [et,kW];exact jy
   ·rw [et,kW];show Hy l=some (.lst (((bz M (xs.take i)).1 ++ ofN (cN (bz M (xs.take i)).2 y).1).map V.int));rw [hn];show Hy l=some (.lst (((bz M (xs.take i)).1 ++ []).map V.int));rw [List.append_nil];exact gy
  | some b=>
   dsimp only [oV];walk_at "ev";refine ⟨.inl ⟨rfl,_,cU.of gy⟩,?_⟩;walk_at "ev";refine ⟨_,_,_,rfl,rfl,gy,?_,?_⟩
   ·rw [bu];exact Nat.lt_of_le_of_lt (show _≤100 by omega) (by decide)
   walk_at "ev";refine ⟨_,_,rfl,iU.new stt hl gy,?_,?_,?_⟩
   ·rw [et,kW];exact jy.other (s':=s + 1) (iU.upd sty.wt gy (by rw [tl])) (by omega) (by omega)
   ·rw [et,kW,aq];show some (HO.lst _)=some (HO.lst (((bz M (xs.take i)).1 ++ ofN (cN (bz M (xs.take i)).2 y).1).map V.int));rw [hn,List.map_append];rfl
   ·rw [et,kW];rcases oy with ⟨h1,h2⟩ | h
    ·exact .inl ⟨by rw [aB npl];exact h1,h2⟩
    ·exact .inr h
 ·rintro σ Hx ⟨v3,v4,rfl,st2,j2,g2,op2⟩;walk_at "ev";rw [show (xs.map oV).length=xs.length from bu _,List.take_length] at j2 g2;exact q Hx T1 l st2 j2 g2 hl
end
theorem p6 {M:Wm}{h k:Nat}{x:Option Int}{m:Str×List (Option Int)} (hm:M.hands[h]? =some m):{ M with hands:=M.hands.set h (m.1,m.2.set k x) }=setSlot M h k x:=by
 have e:=Rg (k:=k) (x:=x) hm;show _={ M with hands:=_ };rw [show (M.hands.modify h fun m=>(m.1,m.2.set k x))=M.hands.set h (m.1,m.2.set k x) from e]
def J0 (d:oU):Prop:=∃ h s many bulk,d=.make h s many bulk
def UW (d:oU):Prop:=∃ h s t f,d=.get h s t f
def UT (d:oU):Prop:=∃ h t f s,d=.put h t f s
def J7 (d:oU):Prop:=∃ h s t,d=.copy h s t
def J4 (d:oU):Prop:=∃ h s,d=.drop h s
def J3 (d:oU):Prop:=∃ h s g t,d=.give h s g t
def Cz (d:oU):Prop:=∃ h t load,d=.write h t load
def JZ (d:oU):Prop:=∃ h t,d=.read h t
def isName (d:oU):Prop:=∃ h t word,d=.name h t word
def JX (d:oU):Prop:=∃ h s word,d=.seek h s word
abbrev Cq (X:Cs) (rf:Rf→Addr) (P:oU→Prop) (wo dd:Addr) (H:Hp) (Q:VK) (E:XK):Prop:=∃ T s A M d,P d∧WT H T∧s≠0∧WJ X H T s A M∧A.wo=wo∧H dd=some (.tup (dV d))∧okD M d∧M.cells.length≤900∧(M.sw.phase="walk"→M.sw.grey.length≤10000)∧(0≤M.tells∧M.tells < 4)∧M.names.length≤1000∧
 (∀ r,CG M d=.error r→∀ H',aY H H'→E (.ref (rf r)) none H')∧
 (∀ e M',CG M d=.ok (e,M')→∀ H' T' A' a,iU s H H' T T'→WJ X H' T' s A' M'→A'.wo=wo→EvN H H' a e→Q (.ref a) H')
section
variable {X:Cs}{H Hx:Hp}{T Tx:Tg}{s:Nat}{A Ax:Wa}{M M':Wm}{d:oU}{e:Ev}{wo:Addr}{Q:VK}
theorem iU.free {s:Nat}{H Hx:Hp}{T Tx:Tg}{l:Addr} (e:iU s H Hx T Tx) (h:Hx l=none):H l=none:=by
 cases z:H l with
 | none=>rfl
 | some o=>obtain ⟨o',z'⟩:=e.al l o z;rw [h] at z';cases z'
theorem ev0 (hQ:∀ e M',CG M d=.ok (e,M')→∀ H' T' A' a,iU s H H' T T'→WJ X H' T' s A' M'→A'.wo=wo→EvN H H' a e→Q (.ref a) H') (he:CG M d=.ok (e,M')) (hn:e.notes=[]) (st:iU s H Hx T Tx) (j:WJ X Hx Tx s Ax M') (aw:Ax.wo=wo) {l a:Addr} (hl:Hx l=none) (ha:upd Hx l (.lst []) a=none):
  Q (.ref a) (upd (upd Hx l (.lst [])) a (.tup [.str e.word,oV e.thing,.ref l])):=by
 have s1:=aO hl (.lst []);have s2:=aO ha (.tup [.str e.word,oV e.thing,.ref l]);have s3:=s1.trans s2;refine hQ e M' he _ Tx Ax a (st.trans (iU.same st.wt s3)) (j.same s3) aw ⟨l,iU.free st hl,aq,?_⟩;rw [hn];exact s2 _ _ aq
theorem ev1 {l a:Addr} (hl0:H l=none) (hQ:∀ e M',CG M d=.ok (e,M')→∀ H' T' A' a,iU s H H' T T'→WJ X H' T' s A' M'→A'.wo=wo→EvN H H' a e→Q (.ref a) H') (he:CG M d=.ok (e,M')) (st:iU s H Hx T Tx) (j:WJ X Hx Tx s Ax M') (aw:Ax.wo=wo) (hl:Hx l=some (.lst (e.notes.map V.int))) (ha:Hx a=none):
  Q (.ref a) (upd Hx a (.tup [.str e.word,oV e.thing,.ref l])):=by
 have s2:=aO ha (.tup [.str e.word,oV e.thing,.ref l]);exact hQ e M' he _ Tx Ax a (st.trans (iU.same st.wt s2)) (j.same s2) aw ⟨l,hl0,aq,s2 _ _ hl⟩
end
theorem KR {M:Wm}{i:Int}{c c':Ce} (h:cellAt M i=some c) (hb:c'.birth=c.birth) (x:Option Int):DG (setCell M i c') x=DG M x:=by
 cases x with
 | none=>rfl
 | some y=>
  obtain ⟨h0,h1⟩:=fU.mp h;show (cellAt (setCell M i c') y).map _=(cellAt M y).map _
  by_cases e:y=i
  ·subst e;rw [h,show cellAt (setCell M y c') y=some c' from fU.mpr ⟨h0,by show (M.cells.set _ _)[_]? =_;rw [List.getElem?_set_self (fG h1).1]⟩];show some c'.birth=some c.birth;rw [hb]
  ·have:cellAt (setCell M i c') y=cellAt M y:=by
    unfold cellAt setCell
    by_cases z:0≤y
    ·rw [if_pos z,if_pos z];show ((M.cells.set _ _)[_]?).join=_;rw [List.getElem?_set_ne (by omega)]
    ·rw [if_neg z,if_neg z]
   rw [this]
theorem Zhh {M:Wm}{y:Option Int} (x:Option Int):DG (cN M y).2 x=DG M x:=by
 cases y with
 | none=>rfl
 | some i=>
  unfold cN;dsimp only;cases hc:cellAt M i with
  | none=>rfl
  | some c=>
   dsimp only
   by_cases z:M.sw.phase="walk"∧c.tone≠M.sw.sense
   ·rw [if_pos z];have e:=KR (M:=M) (i:=i) (c:=c) (c':={ c with tone:=M.sw.sense }) hc rfl x;cases x with
    | none=>rfl
    | some y=>exact e
   ·rw [if_neg z]
theorem yR:∀ {l:List (Option Int)}{M:Wm} (x:Option Int),DG (bz M l).2 x=DG M x
 | [],_,_=>rfl
 | y :: l,M,x=>(yR (l:=l) (M:=(cN M y).2) x).trans (Zhh x)
theorem Zlr {b:Bool}{x:Option Int}:(if b=true then [oV x] else [])=(if b=true then [x] else []).map oV:=by cases b<;>rfl
section
variable {K:aC}{X:Cs}{H:Hp}{Q:VK}{E:XK}{n:St→Hp→Prop}{bk ct:St→Hp→Prop}{rf:Rf→Addr}
theorem Zf2 {wo dd:Addr} (T:q8 K X) (q:Cq X rf J7 wo dd H Q E):Ek K (cA X) (bU X) ⟨n,Q,bk,ct⟩ [some (.ref wo),some (.ref dd),none,none] H:=by
 obtain ⟨Tg,s,A,M,_,⟨h,sl,t,rfl⟩,w,s0,j,rfl,od,⟨o1,o2⟩,hc,hg,ht,hn,hE,hQ⟩:=q;obtain ⟨p,m,hp,hm,hs,hl,hd⟩:=j.handOf o2;obtain ⟨m',hm',_,hl'⟩:=Z8 o1;rw [hm] at hm';cases hm';unfold Ek;walk_at "ev";refine ⟨dd,_,1,_,rfl,rfl,gU.of od,rfl,?_⟩;walk_at "ev";refine ⟨_,_,rfl,Tg,s,A,M,h,p,j,rfl,rfl,hp,?_⟩;walk_at "ev";refine ⟨dd,_,3,_,rfl,rfl,gU.of od,rfl,?_⟩;refine j9 (cU.of hd.o2) (ie (v:=oV (aU M h t)) (by rw [dz,hs];rfl)) ?_;walk_at "ev";refine ⟨dd,_,2,_,rfl,rfl,gU.of od,rfl,?_⟩;refine ⟨p.2,_,_,sl,rfl,rfl,hd.o2,qX (by rw [bu];exact hl'),?_⟩;obtain ⟨st1,j1⟩:=j.slot w s0 (k:=sl) (x:=aU M h t) hp hm;rw [p6 hm] at j1;generalize upd H p.2 (.lst ((m.2.map oV).set sl (oV (aU M h t))))=H1 at st1 j1 ⊢;obtain ⟨d1,ow⟩:=j1.jb.ow;walk_at "ev";refine aH ow T.cW T.M8 bC ?_;walk_at "ev";refine ⟨_,_,rfl,aU M h t,rfl,Tg,s,A,_,j1,rfl,?_⟩;rw [o5];walk_at "ev";refine ⟨aV (by simp),fun l hl=>⟨aV (by simp),fun a ha=>?_⟩⟩;exact ev0 hQ (d:=.copy h sl t) rfl rfl st1 j1 rfl hl ha
theorem Zf1 {wo dd:Addr} (T:q8 K X) (q:Cq X rf J4 wo dd H Q E):Ej K (cA X) (bU X) ⟨n,Q,bk,ct⟩ [some (.ref wo),some (.ref dd),none,none] H:=by
 obtain ⟨Tg,s,A,M,_,⟨h,sl,rfl⟩,w,s0,j,rfl,od,o1,hc,hg,ht,hn,hE,hQ⟩:=q;obtain ⟨p,m,hp,hm,hs,hl,hd⟩:=j.handOf o1;unfold Ej;walk_at "ev";refine ⟨dd,_,1,_,rfl,rfl,gU.of od,rfl,?_⟩;walk_at "ev";refine ⟨_,_,rfl,Tg,s,A,M,h,p,j,rfl,rfl,hp,?_⟩;walk_at "ev";refine ⟨dd,_,2,_,rfl,rfl,gU.of od,rfl,?_⟩;refine j9 (cU.of hd.o2) (ie (v:=oV (aU M h sl)) (by rw [dz,hs];rfl)) ?_;walk_at "ev";refine ⟨dd,_,2,_,rfl,rfl,gU.of od,rfl,?_⟩;refine ⟨p.2,_,_,sl,rfl,rfl,hd.o2,qX (by rw [bu];exact hl),?_⟩;obtain ⟨st1,j1⟩:=j.slot w s0 (k:=sl) (x:=none) hp hm;rw [p6 hm] at j1;show bI _ _ _ (upd H p.2 (.lst ((m.2.map oV).set sl (oV none))));generalize upd H p.2 (.lst ((m.2.map oV).set sl (oV none)))=H1 at st1 j1 ⊢;obtain ⟨d1,ow⟩:=j1.jb.ow;walk_at "ev";refine aH ow T.cW T.M8 bC ?_;walk_at "ev";refine ⟨_,_,rfl,aU M h sl,rfl,Tg,s,A,_,j1,rfl,?_⟩;rw [o5];walk_at "ev";refine ⟨aV (by simp),fun l hl=>⟨aV (by simp),fun a ha=>?_⟩⟩;exact ev0 hQ (d:=.drop h sl) rfl rfl st1 j1 rfl hl ha
theorem Zf0 {wo dd:Addr} (T:q8 K X) (q:Cq X rf J3 wo dd H Q E):Ei K (cA X) (fj X) (bU X) (oR X) ⟨n,Q,bk,ct⟩ [some (.ref wo),some (.ref dd),none,none,none,none] H:=by
 obtain ⟨Tg,s,A,M,_,⟨h,sl,g,t,rfl⟩,w,s0,j,rfl,od,⟨o1,o2⟩,hc,hg,ht,hn,hE,hQ⟩:=q;obtain ⟨p,m,hp,hm,hs,hl,hd⟩:=j.handOf o1;obtain ⟨p',m',hp',hm',hs',hl',hd'⟩:=j.handOf o2;unfold Ei;walk_at "ev";refine ⟨dd,_,1,_,rfl,rfl,gU.of od,rfl,?_⟩;walk_at "ev";refine ⟨dd,_,3,_,rfl,rfl,gU.of od,rfl,?_⟩;walk_at "ev";refine ⟨_,_,rfl,Tg,s,A,M,h,p,j,rfl,rfl,hp,?_⟩;walk_at "ev";refine ⟨dd,_,2,_,rfl,rfl,gU.of od,rfl,?_⟩;refine j9 (cU.of hd.o2) (ie (v:=oV (aU M h sl)) (by rw [dz,hs];rfl)) ?_;walk_at "ev";refine ⟨_,_,rfl,Tg,s,A,M,g,p',j,rfl,rfl,hp',?_⟩;walk_at "ev";refine ⟨dd,_,4,_,rfl,rfl,gU.of od,rfl,?_⟩;refine ⟨p'.2,_,_,t,rfl,rfl,hd'.o2,qX (by rw [bu];exact hl'),?_⟩;obtain ⟨st1,j1⟩:=j.slot w s0 (k:=t) (x:=aU M h sl) hp' hm';rw [p6 hm'] at j1;generalize upd H p'.2 (.lst ((m'.2.map oV).set t (oV (aU M h sl))))=H1 at st1 j1 ⊢;walk_at "ev";refine ⟨_,_,_,rfl,Tg,s,A,_,h,j1,rfl,ht,rfl,fun l1 hl1=>?_⟩;rw [show (qG (setSlot M g t (aU M h sl)) && !dJ (setSlot M g t (aU M h sl)) h)=(qG M && !dJ M h) from rfl,Zlr];have s1:=aO hl1 (.lst ((if (qG M && !dJ M h)=true then [aU M h sl] else []).map oV));have g1:upd H1 l1 (.lst ((if (qG M && !dJ M h)=true then [aU M h sl] else []).map oV)) l1=some (.lst ((if (qG M && !dJ M h)=true then [aU M h sl] else []).map oV)):=aq;generalize upd H1 l1 (.lst ((if (qG M && !dJ M h)=true then [aU M h sl] else []).map oV))=H2 at s1 g1 ⊢;walk_at "ev";refine ⟨_,_,rfl,_,Tg,s,A,_,st1.wt.same s1,s0,j1.same s1,rfl,.inl ⟨g1,st1.wt _ hl1⟩,by cases (qG M && !dJ M h)<;>simp,hg,fun H3 T3 l3 st3 j3 g3 nl3=>?_⟩;obtain ⟨d1,ow⟩:=j3.jb.ow;walk_at "ev";refine aH ow T.cW T.M8 bC ?_;walk_at "ev";refine ⟨_,_,rfl,aU M h sl,rfl,T3,s,A,_,j3,rfl,?_⟩;rw [yR,o5];walk_at "ev";refine ⟨aV (by simp),fun a ha=>?_⟩;exact ev1 (iU.free st1 (s1.free nl3)) hQ (d:=.give h sl g t) rfl (st1.trans ((iU.same st1.wt s1).trans st3)) j3 rfl g3 ha
theorem Zez {wo dd CF:Addr} (T:q8 K X) (hF:rf .full=CF) (q:Cq X rf J0 wo dd H Q E):Eh K X.H (vB K X.C X.H CF) (cA X) (bU X) E ⟨n,Q,bk,ct⟩ [some (.ref wo),some (.ref dd),none,none,none,none] H:=by
 obtain ⟨Tg,s,A,M,_,⟨h,sl,many,bulk,rfl⟩,w,s0,j,rfl,od,⟨o1,m0,m1,b0⟩,hc,hg,ht,hn,hE,hQ⟩:=q;obtain ⟨p,m,hp,hm,hs,hl,hd⟩:=j.handOf o1;obtain ⟨d1,ow⟩:=j.jb.ow;obtain ⟨d2,os⟩:=j.js.os;obtain ⟨th,tc,⟨d3,oh⟩,oc⟩:=j.jh;have hcs:A.cs.length≤900:=by rw [j.jc.lc];exact hc
 unfold Eh;walk_at "ev";refine ⟨dd,_,1,_,rfl,rfl,gU.of od,rfl,?_⟩;walk_at "ev";refine ⟨_,_,rfl,Tg,s,A,M,h,p,j,rfl,rfl,hp,?_⟩;walk_at "ev";refine ⟨dd,_,3,_,rfl,rfl,gU.of od,rfl,?_⟩;walk_at "ev";refine ⟨dd,_,4,_,rfl,rfl,gU.of od,rfl,?_⟩;walk_at "ev";refine aH ow T.cW T.M8 bC ?_;refine ⟨A.hp,d3,_,rfl,oh,SQ,?_⟩;walk_at "ev";refine aH ow T.cW T.RZ bw ?_;walk_at "ev";refine aH os T.cS T.n1 nR ?_;walk_at "ev";refine ⟨_,_,_,_,rfl,A.ca,d3,_,_,_,_,oh,oc,?_,by rw [bu];omega,m0,m1,fun hf H' sm=>?_,fun hf pc fa H1 npc nfa fm a1 a2 co=>?_⟩
 ·intro y hy;obtain ⟨o,ho,rfl⟩:=List.mem_map.mp hy;cases o with
  | none=>exact .inl rfl
  | some g=>
   obtain ⟨i,hi,ei⟩:=List.getElem_of_mem ho;have e:=j.jc.ce i _ _ (cj hi) (cj (by rw [← j.jc.lc];exact hi));rw [ei] at e;cases hcc:M.cells[i]'(by rw [← j.jc.lc];exact hi) with
   | none=>rw [hcc] at e;exact e.elim
   | some c=>
    rw [hcc] at e;obtain ⟨_,_,⟨dx,o1⟩,_⟩:=(show QZ X.C H Tg s i g c from e);exact .inr ⟨g.1,X.C,dx,_,rfl,o1,T.c.cP,T.c.Nj⟩
 ·rw [← hF];refine hE .full ?_ H' sm;show (if _ then _ else _)=_;rw [if_neg (by omega)]
 ·obtain ⟨⟨dp,c1⟩,c2⟩:=co;have npf:pc≠fa:=pI c1 c2 (fun z=>by cases z);obtain ⟨T1,st1,j1⟩:=j.put w s0 (H':=H1) (dx:=d3) (used':=M.used + (1 + many + bulk)) (p:=pc) (fa:=fa) (c:=⟨M.born + 1,bulk,M.sw.sense,0,List.replicate many.toNat none⟩)
   (fun b o hb n1 n2=>fm b o hb (by simp [n1,n2])) a1 a2 npc nfa npf ⟨dp,c1⟩ (by rw [c2,List.map_replicate];rfl)
  have ei:((A.cs.map pV).idxOf V.non:Int)=(mC M.cells:Nat):=by rw [(Zaz Zkf A.cs).1,j.jc.fst]
  walk_at "ev";rw [ei];refine ⟨dd,_,2,_,rfl,rfl,gU.of (fm _ _ od ?_),rfl,?_⟩
  ·intro z;rcases List.mem_cons.mp z with z | z
   ·rw [z,oh] at od;cases od
   ·rw [List.mem_singleton.mp z,oc] at od;cases od
  have hd1:=j1.jd.hd h p m hp hm;refine ⟨p.2,_,_,sl,rfl,rfl,hd1.o2,qX (by rw [bu];exact hl),?_⟩;obtain ⟨st2,j2⟩:=j1.slot st1.wt s0 (k:=sl) (x:=some (mC M.cells:Nat)) hp hm;rw [p6 (M:={ M with used:=M.used + (1 + many + bulk),born:=M.born + 1,cells:=rA M.cells ⟨M.born + 1,bulk,M.sw.sense,0,List.replicate many.toNat none⟩ }) hm] at j2;show bI _ _ _ (upd H1 p.2 (.lst ((m.2.map oV).set sl (oV (some (mC M.cells:Nat))))));generalize upd H1 p.2 (.lst ((m.2.map oV).set sl (oV (some (mC M.cells:Nat)))))=H2 at st2 j2 ⊢;obtain ⟨d5,ow2⟩:=j2.jb.ow;walk_at "ev";refine aH ow2 T.cW T.M8 bC ?_;walk_at "ev";refine ⟨_,_,rfl,some (mC M.cells:Nat),rfl,T1,s,_,_,j2,rfl,?_⟩;rw [o5];rw [show DG { M with used:=M.used + (1 + many + bulk),born:=M.born + 1,cells:=rA M.cells ⟨M.born + 1,bulk,M.sw.sense,0,List.replicate many.toNat none⟩ } (some (mC M.cells:Nat))=some (M.born + 1) from by
   show (cellAt _ _).map _=_;rw [Zf9];rfl]
  walk_at "ev";refine ⟨aV (by simp),fun l hl=>⟨aV (by simp),fun a ha=>?_⟩⟩;exact ev0 hQ (d:=.make h sl many bulk) (Zba (by omega)) rfl (st1.trans st2) j2 rfl hl ha
end
theorem Zit {M:Wm}{h s t f:Nat} (e:cO M (aU M h t)=none):CG M (.get h s t f)=.error .empty:=by
 show (match aU M h t with | none=>_ | some x=>_)=_;cases hs:aU M h t with
 | none=>rfl
 | some x=>
  rw [hs] at e;show (match cellAt M x with | none=>_ | some c=>_)=_;rw [show cellAt M x=none from e]
theorem Zir {M:Wm}{h s t f:Nat} (e:cO M (aU M h t)=none):CG M (.put h t f s)=.error .empty:=by
 show (match aU M h t with | none=>_ | some x=>_)=_;cases hs:aU M h t with
 | none=>rfl
 | some x=>
  rw [hs] at e;show (match cellAt M x with | none=>_ | some c=>_)=_;rw [show cellAt M x=none from e]
theorem Zbb {M:Wm}{h t:Nat}{l:Int} (e:cO M (aU M h t)=none):CG M (.write h t l)=.error .empty:=by
 show (match aU M h t with | none=>_ | some x=>_)=_;cases hs:aU M h t with
 | none=>rfl
 | some x=>
  rw [hs] at e;show (match cellAt M x with | none=>_ | some c=>_)=_;rw [show cellAt M x=none from e]
theorem Zf4 {M:Wm}{h t:Nat} (e:cO M (aU M h t)=none):CG M (.read h t)=.error .empty:=by
 show (match aU M h t with | none=>_ | some x=>_)=_;cases hs:aU M h t with
 | none=>rfl
 | some x=>
  rw [hs] at e;show (match cellAt M x with | none=>_ | some c=>_)=_;rw [show cellAt M x=none from e]
theorem Zf5 {M:Wm}{h t:Nat}{z:Str} (e:cO M (aU M h t)=none):CG M (.name h t z)=.error .empty:=by
 show (match aU M h t with | none=>_ | some x=>_)=_;cases hs:aU M h t with
 | none=>rfl
 | some x=>
  rw [hs] at e;show (match cellAt M x with | none=>_ | some c=>_)=_;rw [show cellAt M x=none from e]
theorem Zmu {M:Wm}{h s t f:Nat}{i:Int}{c:Ce} (e0:aU M h t=some i) (ec:cellAt M i=some c) (hf:c.fl[f]? =none):CG M (.get h s t f)=.error .qR:=by
 show (match aU M h t with | none=>_ | some x=>_)=_;rw [e0];show (match cellAt M i with | none=>_ | some c=>_)=_;rw [ec];show (match c.fl[f]? with | none=>_ | some v=>_)=_;rw [hf]
theorem Zms {M:Wm}{h s t f:Nat}{i:Int}{c:Ce} (e0:aU M h t=some i) (ec:cellAt M i=some c) (hf:c.fl[f]? =none):CG M (.put h t f s)=.error .qR:=by
 show (match aU M h t with | none=>_ | some x=>_)=_;rw [e0];show (match cellAt M i with | none=>_ | some c=>_)=_;rw [ec];show (match c.fl[f]? with | none=>_ | some v=>_)=_;rw [hf]
theorem Zmt {M:Wm}{h s t f:Nat}{i:Int}{c:Ce}{v:Option Int} (e0:aU M h t=some i) (ec:cellAt M i=some c) (hf:c.fl[f]? =some v):CG M (.get h s t f)=.ok (⟨"got",DG M v,[]⟩,setSlot M h s v):=by
 show (match aU M h t with | none=>_ | some x=>_)=_;rw [e0];show (match cellAt M i with | none=>_ | some c=>_)=_;rw [ec];show (match c.fl[f]? with | none=>_ | some v=>_)=_;rw [hf]
def putL (M:Wm) (h s:Nat) (v:Option Int):List (Option Int):=(if old? M=true then [v] else []) ++ if (qG M && !dJ M h)=true then [aU M h s] else []
theorem Zmr {M:Wm}{h s t f:Nat}{i:Int}{c:Ce}{v:Option Int} (e0:aU M h t=some i) (ec:cellAt M i=some c) (hf:c.fl[f]? =some v):CG M (.put h t f s)=.ok (⟨"put",DG M v,(bz (setCell M i { c with fl:=c.fl.set f (aU M h s) }) (putL M h s v)).1⟩,(bz (setCell M i { c with fl:=c.fl.set f (aU M h s) }) (putL M h s v)).2):=by
 show (match aU M h t with | none=>_ | some x=>_)=_;rw [e0];show (match cellAt M i with | none=>_ | some c=>_)=_;rw [ec];show (match c.fl[f]? with | none=>_ | some v=>_)=_;rw [hf];rfl
theorem Zf3 {M:Wm}{h t:Nat}{l i:Int}{c:Ce} (e0:aU M h t=some i) (ec:cellAt M i=some c):CG M (.write h t l)=.ok (⟨"wrote",some c.load,[]⟩,setCell M i { c with load:=l }):=by
 show (match aU M h t with | none=>_ | some x=>_)=_;rw [e0];show (match cellAt M i with | none=>_ | some c=>_)=_;rw [ec]
theorem Ziq {M:Wm}{h t:Nat}{i:Int}{c:Ce} (e0:aU M h t=some i) (ec:cellAt M i=some c):CG M (.read h t)=.ok (⟨"read",some c.load,[]⟩,M):=by
 show (match aU M h t with | none=>_ | some x=>_)=_;rw [e0];show (match cellAt M i with | none=>_ | some c=>_)=_;rw [ec]
theorem Zis {M:Wm}{h t:Nat}{z:Str}{i:Int}{c:Ce} (e0:aU M h t=some i) (ec:cellAt M i=some c):CG M (.name h t z)=.ok (⟨"named",some c.birth,[]⟩,{ M with names:=uV M.names z (i,c.birth) }):=by
 show (match aU M h t with | none=>_ | some x=>_)=_;rw [e0];show (match cellAt M i with | none=>_ | some c=>_)=_;rw [ec]
section
variable {X:Cs}{H H':Hp}{T T':Tg}{s:Nat}{A:Wa}{M:Wm}
theorem Zs1 {z:Str}{v:Int×Int}{t:Addr} (ht:NmO H T t (z,v)):∀ {ns:List Addr}{names:List (Str×(Int×Int))},Al (NmO H T) ns names→(∃ ns',(yS names ns).map (fun kv=>if kv.1=Sum.inr z then (kv.1,V.ref t) else kv)=yS (names.map fun m=>if m.1=z then (m.1,v) else m) ns'∧Al (NmO H T) ns' (names.map fun m=>if m.1=z then (m.1,v) else m))∧
  ((yS names ns).any fun kv=>decide (kv.1=Sum.inr z))=(names.any fun m=>decide (m.1=z))∧yS names ns ++ [(Sum.inr z,V.ref t)]=yS (names ++ [(z,v)]) (ns ++ [t])∧Al (NmO H T) (ns ++ [t]) (names ++ [(z,v)]):=by
 intro ns names h
 induction h with
 | nil=>exact ⟨⟨[],rfl,.nil⟩,rfl,rfl,.cons ht .nil⟩
 | @cons a m ns names h1 _ ih=>
  obtain ⟨⟨ns',e1,e2⟩,e3,e4,e5⟩:=ih;refine ⟨?_,?_,?_,.cons h1 e5⟩
  ·by_cases e:m.1=z
   ·refine ⟨t :: ns',?_,?_⟩
    ·show (if (Sum.inr m.1:Int ⊕ Str)=Sum.inr z then _ else _) :: _=_;rw [if_pos (by rw [e]),List.map_cons,if_pos e];show _ :: _=(Sum.inr m.1,V.ref t) :: yS _ ns';rw [← e1];rfl
    ·rw [List.map_cons,if_pos e];exact .cons (by rw [e];exact ht) e2
   ·refine ⟨a :: ns',?_,?_⟩
    ·show (if (Sum.inr m.1:Int ⊕ Str)=Sum.inr z then _ else _) :: _=_;rw [if_neg (fun w=>e (Sum.inr.inj w)),List.map_cons,if_neg e];show _ :: _=(Sum.inr m.1,V.ref a) :: yS _ ns';rw [← e1];rfl
    ·rw [List.map_cons,if_neg e];exact .cons h1 e2
  ·show (decide ((Sum.inr m.1:Int ⊕ Str)=Sum.inr z) || (yS names ns).any _)=(decide (m.1=z) || names.any _);rw [e3];congr 1
   by_cases e:m.1=z<;>simp [e]
  ·show (Sum.inr m.1,V.ref a) :: (yS names ns ++ _)=(Sum.inr m.1,V.ref a) :: yS (names ++ _) (ns ++ _);rw [e4]
theorem Zks {ns:List Addr}{names:List (Str×(Int×Int))} (h:Al (NmO H T) ns names):(yS names ns).length=names.length:=by
 induction h with
 | nil=>rfl
 | @cons a m ns names h1 _ ih=>show (_ :: yS names ns).length=_;rw [List.length_cons,List.length_cons,ih]
theorem WJ.named (j:WJ X H T s A M) (w:WT H T) (h0:s≠0) {z:Str}{v:Int×Int}{t:Addr} (ht:NmO H T t (z,v)):∃ ns',iU s H (upd H A.nm (.dK (putK (yS M.names A.ns) (Sum.inr z) (.ref t)))) T T∧
  WJ X (upd H A.nm (.dK (putK (yS M.names A.ns) (Sum.inr z) (.ref t)))) T s { A with ns:=ns' } { M with names:=uV M.names z v }:=by
 obtain ⟨tm,om,nms⟩:=j.jn;obtain ⟨⟨n1,e1,e2⟩,e3,e4,e5⟩:=Zs1 ht nms;have f:wZ s (·=6) H (upd H A.nm (.dK (putK (yS M.names A.ns) (Sum.inr z) (.ref t)))) T T:=wZ.Br tm;have mvn:∀ {ns:List Addr}{names:List (Str×(Int×Int))},Al (NmO H T) ns names→Al (NmO (upd H A.nm (.dK (putK (yS M.names A.ns) (Sum.inr z) (.ref t)))) T) ns names:=fun h=>h.mono fun t m ⟨z1,z2⟩=>⟨z1,oO h0 tm _ _ z2 z1⟩;have go:∀ ns',putK (yS M.names A.ns) (Sum.inr z) (.ref t)=yS (uV M.names z v) ns'→Al (NmO H T) ns' (uV M.names z v)→WJ X (upd H A.nm (.dK (putK (yS M.names A.ns) (Sum.inr z) (.ref t)))) T s { A with ns:=ns' } { M with names:=uV M.names z v }:=fun ns' g1 g2=>by
  refine ⟨?_,?_,⟨tm,by show upd _ A.nm _ A.nm=_;rw [aq,g1],mvn g2⟩,?_,j.jd.mv f fun _ _ _=>by omega,j.jc.mv f fun _ _=>by omega⟩
  ·obtain ⟨b1,b2,b3,b4,b5,b6,b7,b8⟩:=j.jb.mv f (oO h0 tm) (by omega) (by omega);exact ⟨b1,b2,b3,b4,b5,b6,b7,b8⟩
  ·obtain ⟨b1,b2,b3,b4⟩:=j.jh.mv f (by omega) (by omega);exact ⟨b1,b2,b3,b4⟩
  ·obtain ⟨b1,b2,b3,b4⟩:=j.js.mv f (by omega) (by omega);exact ⟨b1,b2,b3,b4⟩
 by_cases ha:(M.names.any fun m=>decide (m.1=z))=true
 ·refine ⟨n1,iU.upd w om (by rw [tm]),go n1 ?_ ?_⟩
  ·unfold putK uV;rw [if_pos (e3.trans ha),if_pos ha,e1]
  ·unfold uV;rw [if_pos ha];exact e2
 ·refine ⟨A.ns ++ [t],iU.upd w om (by rw [tm]),go _ ?_ ?_⟩
  ·unfold putK uV;rw [if_neg (fun y=>ha (e3.symm.trans y)),if_neg ha,e4]
  ·unfold uV;rw [if_neg ha];exact e5
end
section
variable {K:aC}{X:Cs}{H:Hp}{Q:VK}{E:XK}{n:St→Hp→Prop}{bk ct:St→Hp→Prop}{rf:Rf→Addr}{CE CF CN:Addr}
theorem Zio {wo dd:Addr} (T:q8 K X) (hE':rf .empty=CE) (hF':rf .qR=CF) (q:Cq X rf UW wo dd H Q E):Jh K (cA X) (mU X CE CF) (bU X) E ⟨n,Q,bk,ct⟩ [some (.ref wo),some (.ref dd),none,none,none,none] H:=by
 obtain ⟨Tg,s,A,M,_,⟨h,sl,t,f,rfl⟩,w,s0,j,rfl,od,⟨o1,o2⟩,hc,hg,ht,hn,hE,hQ⟩:=q;obtain ⟨p,m,hp,hm,hs,hl,hd⟩:=j.handOf o1;unfold Jh;walk_at "ev";refine ⟨dd,_,1,_,rfl,rfl,gU.of od,rfl,?_⟩;walk_at "ev";refine ⟨dd,_,3,_,rfl,rfl,gU.of od,rfl,?_⟩;walk_at "ev";refine ⟨dd,_,4,_,rfl,rfl,gU.of od,rfl,?_⟩;walk_at "ev";refine ⟨_,_,_,_,rfl,Tg,s,A,M,h,t,f,j,rfl,rfl,rfl,rfl,o2,fun e=>?_,fun i c e0 h0 ec hf=>?_,fun i c pc e0 h0 ec hpc ce hf=>?_⟩
 ·rw [← hE'];exact hE .empty (Zit e) H (aY.refl _)
 ·rw [← hF'];exact hE .qR (Zmu e0 ec hf) H (aY.refl _)
 ·have hv:=cj hf;walk_at "ev";refine j9 (cU.of ce.o2) (ie (v:=oV (c.fl[f])) (by rw [dz,hv];rfl)) ?_;walk_at "ev";refine ⟨_,_,rfl,Tg,s,A,M,h,p,j,rfl,rfl,hp,?_⟩;walk_at "ev";refine ⟨dd,_,2,_,rfl,rfl,gU.of od,rfl,?_⟩;refine ⟨p.2,_,_,sl,rfl,rfl,hd.o2,qX (by rw [bu];exact hl),?_⟩;obtain ⟨st1,j1⟩:=j.slot w s0 (k:=sl) (x:=c.fl[f]) hp hm;rw [p6 hm] at j1;generalize upd H p.2 (.lst ((m.2.map oV).set sl (oV c.fl[f])))=H1 at st1 j1 ⊢;obtain ⟨d1,ow⟩:=j1.jb.ow;walk_at "ev";refine aH ow T.cW T.M8 bC ?_;walk_at "ev";refine ⟨_,_,rfl,c.fl[f],rfl,Tg,s,A,_,j1,rfl,?_⟩;rw [o5];walk_at "ev";refine ⟨aV (by simp),fun l hl=>⟨aV (by simp),fun a ha=>?_⟩⟩;exact ev0 hQ (d:=.get h sl t f) (Zmt e0 ec hv) rfl st1 j1 rfl hl ha
theorem Zin {wo dd:Addr} (T:q8 K X) (hE':rf .empty=CE) (hF':rf .qR=CF) (q:Cq X rf UT wo dd H Q E):Jg K (cA X) (mU X CE CF) (fj X) (bU X) (oR X) (zp X) E ⟨n,Q,bk,ct⟩ [some (.ref wo),some (.ref dd),none,none,none,none,none,none] H:=by
 obtain ⟨Tg,s,A,M,_,⟨h,t,f,sl,rfl⟩,w,s0,j,rfl,od,⟨o2,o1⟩,hc,hg,ht,hn,hE,hQ⟩:=q;obtain ⟨p,m,hp,hm,hs,hl,hd⟩:=j.handOf o1;unfold Jg;walk_at "ev";refine ⟨dd,_,1,_,rfl,rfl,gU.of od,rfl,?_⟩;walk_at "ev";refine ⟨dd,_,3,_,rfl,rfl,gU.of od,rfl,?_⟩;walk_at "ev";refine ⟨dd,_,2,_,rfl,rfl,gU.of od,rfl,?_⟩;walk_at "ev";refine ⟨_,_,_,_,rfl,Tg,s,A,M,h,t,f,j,rfl,rfl,rfl,rfl,o2,fun e=>?_,fun i c e0 h0 ec hf=>?_,fun i c pc e0 h0 ec hpc ce hf=>?_⟩
 ·rw [← hE'];exact hE .empty (Zir e) H (aY.refl _)
 ·rw [← hF'];exact hE .qR (Zms e0 ec hf) H (aY.refl _)
 ·have hv:=cj hf;walk_at "ev";refine j9 (cU.of ce.o2) (ie (v:=oV (c.fl[f])) (by rw [dz,hv];rfl)) ?_;walk_at "ev";refine ⟨_,_,rfl,Tg,s,A,M,h,p,j,rfl,rfl,hp,?_⟩;walk_at "ev";refine ⟨dd,_,4,_,rfl,rfl,gU.of od,rfl,?_⟩;refine j9 (cU.of hd.o2) (ie (v:=oV (aU M h sl)) (by rw [dz,hs];rfl)) ?_;walk_at "ev";refine ⟨pc.2,_,_,f,rfl,rfl,ce.o2,qX (by rw [bu];exact hf),?_⟩;obtain ⟨st1,j1⟩:=j.field w s0 (k:=f) (x:=aU M h sl) hpc ce;have j1:WJ X _ Tg s A (setCell M i { c with fl:=c.fl.set f (aU M h sl) }):=j1;generalize upd H pc.2 (.lst ((c.fl.map oV).set f (oV (aU M h sl))))=H1 at st1 j1 ⊢;walk_at "ev";refine ⟨_,_,rfl,Tg,s,A,_,j1,rfl,ht,fun l1 hl1=>?_⟩;rw [show old? (setCell M i { c with fl:=c.fl.set f (aU M h sl) })=old? M from rfl,Zlr];have s1:=aO hl1 (.lst ((if old? M=true then [c.fl[f]] else []).map oV));have g1:upd H1 l1 (.lst ((if old? M=true then [c.fl[f]] else []).map oV)) l1=some (.lst ((if old? M=true then [c.fl[f]] else []).map oV)):=aq;generalize upd H1 l1 (.lst ((if old? M=true then [c.fl[f]] else []).map oV))=H2 at s1 g1 ⊢;walk_at "ev";refine ⟨_,_,_,rfl,Tg,s,A,_,h,j1.same s1,rfl,ht,rfl,fun l2 hl2=>?_⟩;rw [show (qG (setCell M i { c with fl:=c.fl.set f (aU M h sl) }) && !dJ (setCell M i { c with fl:=c.fl.set f (aU M h sl) }) h)=(qG M && !dJ M h) from rfl,Zlr];have s2:=aO hl2 (.lst ((if (qG M && !dJ M h)=true then [aU M h sl] else []).map oV));have g2:upd H2 l2 (.lst ((if (qG M && !dJ M h)=true then [aU M h sl] else []).map oV)) l2=some (.lst ((if (qG M && !dJ M h)=true then [aU M h sl] else []).map oV)):=aq;generalize upd H2 l2 (.lst ((if (qG M && !dJ M h)=true then [aU M h sl] else []).map oV))=H3 at s2 g2 ⊢;walk_at "ev";refine ⟨l1,l2,_,_,rfl,rfl,s2 _ _ g1,g2,?_,fun l3 hl3=>?_⟩
  ·refine aV ?_;cases old? M<;>cases (qG M && !dJ M h)<;>simp
  rw [← List.map_append];have s3:=aO hl3 (.lst (((if old? M=true then [c.fl[f]] else []) ++ if (qG M && !dJ M h)=true then [aU M h sl] else []).map oV));have g3:upd H3 l3 (.lst (((if old? M=true then [c.fl[f]] else []) ++ if (qG M && !dJ M h)=true then [aU M h sl] else []).map oV)) l3=some (.lst ((putL M h sl c.fl[f]).map oV)):=aq;generalize upd H3 l3 (.lst (((if old? M=true then [c.fl[f]] else []) ++ if (qG M && !dJ M h)=true then [aU M h sl] else []).map oV))=H4 at s3 g3 ⊢;have s14:=s1.trans (s2.trans s3);walk_at "ev";refine ⟨_,_,rfl,putL M h sl c.fl[f],Tg,s,A,_,st1.wt.same s14,s0,j1.same s14,rfl,.inl ⟨g3,(st1.wt.same (s1.trans s2)) _ hl3⟩,?_,hg,fun H5 T5 l5 st5 j5 g5 nl5=>?_⟩
  ·unfold putL;cases old? M<;>cases (qG M && !dJ M h)<;>simp
  obtain ⟨d1,ow⟩:=j5.jb.ow;walk_at "ev";refine aH ow T.cW T.M8 bC ?_;walk_at "ev";refine ⟨_,_,rfl,c.fl[f],rfl,T5,s,A,_,j5,rfl,?_⟩;rw [yR,KR (c':={ c with fl:=c.fl.set f (aU M h sl) }) ec rfl];walk_at "ev";refine ⟨aV (by simp),fun a ha=>?_⟩;exact ev1 (iU.free st1 (s14.free nl5)) hQ (d:=.put h t f sl) (Zmr e0 ec hv) (st1.trans ((iU.same st1.wt s14).trans st5)) j5 rfl g5 ha
theorem Zb9 {wo dd:Addr} (T:q8 K X) (hE':rf .empty=CE) (q:Cq X rf Cz wo dd H Q E):Ao K (jE X CE) E ⟨n,Q,bk,ct⟩ [some (.ref wo),some (.ref dd),none,none] H:=by
 obtain ⟨Tg,s,A,M,_,⟨h,t,load,rfl⟩,w,s0,j,rfl,od,o1,hc,hg,ht,hn,hE,hQ⟩:=q;unfold Ao;walk_at "ev";refine ⟨dd,_,1,_,rfl,rfl,gU.of od,rfl,?_⟩;walk_at "ev";refine ⟨dd,_,2,_,rfl,rfl,gU.of od,rfl,?_⟩;walk_at "ev";refine ⟨_,_,_,rfl,Tg,s,A,M,h,t,j,rfl,rfl,rfl,o1,fun e=>?_,fun i c pc e0 h0 ec hpc ce=>?_⟩
 ·rw [← hE'];exact hE .empty (Zbb e) H (aY.refl _)
 ·obtain ⟨t1,t2,⟨dx,oo1⟩,oo2⟩:=id ce;walk_at "ev";refine aH oo1 T.c.cP T.c.jj wV ?_;walk_at "ev";refine ⟨dd,_,3,_,rfl,rfl,gU.of od,rfl,?_⟩;walk_at "ev";refine ⟨pc.1,X.C,dx,_,rfl,oo1,T.c.cP,T.c.jj,by show 5 < 1000;decide,?_⟩;rw [QC];obtain ⟨st1,j1⟩:=j.cell w s0 (dx:=dx) (tone:=c.tone) (load:=load) hpc ce;generalize upd H pc.1 (.ins X.C dx (mK c.birth c.bulk c.tone load pc.2))=H1 at st1 j1 ⊢;walk_at "ev";refine ⟨aV (by simp),fun l hl=>⟨aV (by simp),fun a ha=>?_⟩⟩;exact ev0 hQ (d:=.write h t load) (Zf3 e0 ec) rfl st1 j1 rfl hl ha
theorem Zex {wo dd:Addr} (T:q8 K X) (hE':rf .empty=CE) (q:Cq X rf JZ wo dd H Q E):Ef K (jE X CE) E ⟨n,Q,bk,ct⟩ [some (.ref wo),some (.ref dd),none] H:=by
 obtain ⟨Tg,s,A,M,_,⟨h,t,rfl⟩,w,s0,j,rfl,od,o1,hc,hg,ht,hn,hE,hQ⟩:=q;unfold Ef;walk_at "ev";refine ⟨dd,_,1,_,rfl,rfl,gU.of od,rfl,?_⟩;walk_at "ev";refine ⟨dd,_,2,_,rfl,rfl,gU.of od,rfl,?_⟩;walk_at "ev";refine ⟨_,_,_,rfl,Tg,s,A,M,h,t,j,rfl,rfl,rfl,o1,fun e=>?_,fun i c pc e0 h0 ec hpc ce=>?_⟩
 ·rw [← hE'];exact hE .empty (Zf4 e) H (aY.refl _)
 ·obtain ⟨t1,t2,⟨dx,oo1⟩,oo2⟩:=id ce;walk_at "ev";refine aH oo1 T.c.cP T.c.jj wV ?_;walk_at "ev";refine ⟨aV (by simp),fun l hl=>⟨aV (by simp),fun a ha=>?_⟩⟩;exact ev0 hQ (d:=.read h t) (Ziq e0 ec) rfl (iU.refl w) j rfl hl ha
theorem Zey {wo dd:Addr} (T:q8 K X) (hE':rf .empty=CE) (q:Cq X rf isName wo dd H Q E):Eg K (jE X CE) (bU X) E ⟨n,Q,bk,ct⟩ [some (.ref wo),some (.ref dd),none,none,none] H:=by
 obtain ⟨Tg,s,A,M,_,⟨h,t,z,rfl⟩,w,s0,j,rfl,od,o1,hc,hg,ht,hn,hE,hQ⟩:=q;obtain ⟨p,m,hp,hm,hs,hl,hd⟩:=j.handOf o1;unfold Eg;walk_at "ev";refine ⟨dd,_,1,_,rfl,rfl,gU.of od,rfl,?_⟩;walk_at "ev";refine ⟨dd,_,2,_,rfl,rfl,gU.of od,rfl,?_⟩;walk_at "ev";refine ⟨_,_,_,rfl,Tg,s,A,M,h,t,j,rfl,rfl,rfl,o1,fun e=>?_,fun i c pc e0 h0 ec hpc ce=>?_⟩
 ·rw [← hE'];exact hE .empty (Zf5 e) H (aY.refl _)
 ·obtain ⟨t1,t2,⟨dx,oo1⟩,oo2⟩:=id ce;walk_at "ev";refine aH oo1 T.c.cP T.c.dN gA ?_;walk_at "ev";refine ⟨_,_,rfl,Tg,s,A,M,h,p,j,rfl,rfl,hp,?_⟩;walk_at "ev";refine j9 (cU.of hd.o2) (ie (v:=oV (aU M h t)) (by rw [dz,hs];rfl)) ?_;rw [e0];walk_at "ev";refine ⟨aV (by simp),fun tp htp=>?_⟩;have s1:=aO htp (.tup [oV (some i),.int c.birth]);have g1:upd H tp (.tup [oV (some i),.int c.birth]) tp=some (.tup [.int i,.int c.birth]):=aq;generalize upd H tp (.tup [oV (some i),.int c.birth])=H1 at s1 g1 ⊢;have j1:=j.same s1;have w1:=w.same s1;obtain ⟨d1,ow⟩:=j1.jb.ow;walk_at "ev";refine aH ow T.cW T.nWn iW ?_;walk_at "ev";refine ⟨dd,_,3,_,rfl,rfl,gU.of (s1 _ _ od),rfl,?_⟩;refine ⟨_,_,rfl,Zvg j1.jn.om (by rw [Zks j1.jn.nms];exact Nat.lt_of_le_of_lt hn (by decide)),?_⟩;obtain ⟨ns',st2,j2⟩:=j1.named w1 s0 (z:=z) (v:=(i,c.birth)) (t:=tp) ⟨w _ htp,g1⟩;generalize upd H1 A.nm (.dK (putK (yS M.names A.ns) (Sum.inr z) (.ref tp)))=H2 at st2 j2 ⊢;walk_at "ev";refine ⟨aV (by simp),fun l hl=>⟨aV (by simp),fun a ha=>?_⟩⟩;exact ev0 hQ (d:=.name h t z) (Zis e0 ec) rfl ((iU.same w s1).trans st2) j2 rfl hl ha
theorem Zew {wo dd:Addr} (T:q8 K X) (hN':rf .Pk=CN) (q:Cq X rf JX wo dd H Q E):Ed K (cA X) (fj X) (rz X CN) (bU X) E ⟨n,Q,bk,ct⟩ [some (.ref wo),some (.ref dd),none,none] H:=by
 obtain ⟨Tg,s,A,M,_,⟨h,sl,z,rfl⟩,w,s0,j,rfl,od,o1,hc,hg,ht,hn,hE,hQ⟩:=q;obtain ⟨p,m,hp,hm,hs,hl,hd⟩:=j.handOf o1;unfold Ed;walk_at "ev";refine ⟨dd,_,3,_,rfl,rfl,gU.of od,rfl,?_⟩;walk_at "ev";refine ⟨_,_,rfl,Tg,s,A,M,j,rfl,fun e=>?_,fun pl b e=>?_⟩
 ·rw [← hN'];refine hE .Pk ?_ H (aY.refl _);show (match rF M.names z with | none=>_ | some (p,b)=>_)=_;rw [e]
 ·let x:Option Int:=if rE M pl b=true then none else some pl
  have ex:(if rE M pl b=true then V.non else .int pl)=oV x:=by
   show _=oV (if _ then _ else _);cases rE M pl b<;>rfl
  rw [ex];have he:CG M (.seek h sl z)=.ok (⟨"sought",DG M x,(bz (setSlot M h sl x) [x]).1⟩,(bz (setSlot M h sl x) [x]).2):=by
   show (match rF M.names z with | none=>_ | some (p,b)=>_)=_;rw [e];dsimp only;cases hgn:rE M pl b with
   | true=>
    have:x=none:=by show (if _ then _ else _)=_;rw [hgn];rfl
    rw [this];rfl
   | false=>
    have hx:x=some pl:=by show (if _ then _ else _)=_;rw [hgn];rfl
    have:DG M (some pl)=some b:=by
     unfold rE at hgn;show (cellAt M pl).map _=_;cases hcc:cellAt M pl with
     | none=>rw [hcc] at hgn;cases hgn
     | some c=>
      rw [hcc] at hgn;dsimp only at hgn
      by_cases y:c.birth=b
      ·rw [← y];rfl
      ·rw [if_neg y] at hgn;cases hgn
    rw [hx,this];rfl
  clear_value x;walk_at "ev";refine ⟨dd,_,1,_,rfl,rfl,gU.of od,rfl,?_⟩;walk_at "ev";refine ⟨_,_,rfl,Tg,s,A,M,h,p,j,rfl,rfl,hp,?_⟩;walk_at "ev";refine ⟨dd,_,2,_,rfl,rfl,gU.of od,rfl,?_⟩;refine ⟨p.2,_,_,sl,rfl,rfl,hd.o2,qX (by rw [bu];exact hl),?_⟩;obtain ⟨st1,j1⟩:=j.slot w s0 (k:=sl) (x:=x) hp hm;rw [p6 hm] at j1;generalize upd H p.2 (.lst ((m.2.map oV).set sl (oV x)))=H1 at st1 j1 ⊢;walk_at "ev";refine ⟨aV (by simp),fun l1 hl1=>?_⟩;have s1:=aO hl1 (.lst [oV x]);have g1:upd H1 l1 (.lst [oV x]) l1=some (.lst ([x].map oV)):=aq;generalize upd H1 l1 (.lst [oV x])=H2 at s1 g1 ⊢;walk_at "ev";refine ⟨_,_,rfl,[x],Tg,s,A,_,st1.wt.same s1,s0,j1.same s1,rfl,.inl ⟨g1,st1.wt _ hl1⟩,by simp,hg,fun H3 T3 l3 st3 j3 g3 nl3=>?_⟩;obtain ⟨d1,ow⟩:=j3.jb.ow;walk_at "ev";refine aH ow T.cW T.M8 bC ?_;walk_at "ev";refine ⟨_,_,rfl,x,rfl,T3,s,A,_,j3,rfl,?_⟩;rw [yR,o5];walk_at "ev";refine ⟨aV (by simp),fun a ha=>?_⟩;exact ev1 (iU.free st1 (s1.free nl3)) hQ (d:=.seek h sl z) he (st1.trans ((iU.same st1.wt s1).trans st3)) j3 rfl g3 ha
end
section
variable {K:aC}{X:Cs}{H:Hp}{Q:VK}{E:XK}{n:St→Hp→Prop}{bk ct:St→Hp→Prop}{rf:Rf→Addr}{f1 f2 f3 f4 f5 f6 f7 f8 f9 f10:Addr}
theorem Zvh {wo dd:Addr} (T:q8 K X) (q:Cq X rf (fun _=>True) wo dd H Q E):
  Zjr K f1 f2 f3 f4 f5 f6 f7 f8 f9 f10 (bW X rf J7) (bW X rf J4) (bW X rf UW) (bW X rf J3) (bW X rf J0) (bW X rf isName) (bW X rf UT) (bW X rf JZ) (bW X rf JX) (bW X rf Cz) E ⟨n,Q,bk,ct⟩ [some (.ref wo),some (.ref dd),none] H:=by
 obtain ⟨Tg,s,A,M,d,_,w,s0,j,rfl,od,r⟩:=q;unfold Zjr;cases d with
 | make h s' many bulk=>
  walk_at "ev";refine ⟨dd,_,0,_,rfl,rfl,gU.of od,rfl,?_⟩;refine ⟨_,f5,rfl,rfl,?_⟩;walk_at "ev";refine mH (bW X rf J0) rfl (by simp) ?_;walk_at "ev";exact ⟨_,_,rfl,Tg,s,A,M,_,⟨_,_,_,_,rfl⟩,w,s0,j,rfl,od,r⟩
 | get h s' t f=>
  walk_at "ev";refine ⟨dd,_,0,_,rfl,rfl,gU.of od,rfl,?_⟩;refine ⟨_,f3,rfl,rfl,?_⟩;walk_at "ev";refine mH (bW X rf UW) rfl (by simp) ?_;walk_at "ev";exact ⟨_,_,rfl,Tg,s,A,M,_,⟨_,_,_,_,rfl⟩,w,s0,j,rfl,od,r⟩
 | put h t f s'=>
  walk_at "ev";refine ⟨dd,_,0,_,rfl,rfl,gU.of od,rfl,?_⟩;refine ⟨_,f7,rfl,rfl,?_⟩;walk_at "ev";refine mH (bW X rf UT) rfl (by simp) ?_;walk_at "ev";exact ⟨_,_,rfl,Tg,s,A,M,_,⟨_,_,_,_,rfl⟩,w,s0,j,rfl,od,r⟩
 | copy h s' t=>
  walk_at "ev";refine ⟨dd,_,0,_,rfl,rfl,gU.of od,rfl,?_⟩;refine ⟨_,f1,rfl,rfl,?_⟩;walk_at "ev";refine mH (bW X rf J7) rfl (by simp) ?_;walk_at "ev";exact ⟨_,_,rfl,Tg,s,A,M,_,⟨_,_,_,rfl⟩,w,s0,j,rfl,od,r⟩
 | drop h s'=>
  walk_at "ev";refine ⟨dd,_,0,_,rfl,rfl,gU.of od,rfl,?_⟩;refine ⟨_,f2,rfl,rfl,?_⟩;walk_at "ev";refine mH (bW X rf J4) rfl (by simp) ?_;walk_at "ev";exact ⟨_,_,rfl,Tg,s,A,M,_,⟨_,_,rfl⟩,w,s0,j,rfl,od,r⟩
 | give h s' g t=>
  walk_at "ev";refine ⟨dd,_,0,_,rfl,rfl,gU.of od,rfl,?_⟩;refine ⟨_,f4,rfl,rfl,?_⟩;walk_at "ev";refine mH (bW X rf J3) rfl (by simp) ?_;walk_at "ev";exact ⟨_,_,rfl,Tg,s,A,M,_,⟨_,_,_,_,rfl⟩,w,s0,j,rfl,od,r⟩
 | write h t load=>
  walk_at "ev";refine ⟨dd,_,0,_,rfl,rfl,gU.of od,rfl,?_⟩;refine ⟨_,f10,rfl,rfl,?_⟩;walk_at "ev";refine mH (bW X rf Cz) rfl (by simp) ?_;walk_at "ev";exact ⟨_,_,rfl,Tg,s,A,M,_,⟨_,_,_,rfl⟩,w,s0,j,rfl,od,r⟩
 | read h t=>
  walk_at "ev";refine ⟨dd,_,0,_,rfl,rfl,gU.of od,rfl,?_⟩;refine ⟨_,f8,rfl,rfl,?_⟩;walk_at "ev";refine mH (bW X rf JZ) rfl (by simp) ?_;walk_at "ev";exact ⟨_,_,rfl,Tg,s,A,M,_,⟨_,_,rfl⟩,w,s0,j,rfl,od,r⟩
 | name h t z=>
  walk_at "ev";refine ⟨dd,_,0,_,rfl,rfl,gU.of od,rfl,?_⟩;refine ⟨_,f6,rfl,rfl,?_⟩;walk_at "ev";refine mH (bW X rf isName) rfl (by simp) ?_;walk_at "ev";exact ⟨_,_,rfl,Tg,s,A,M,_,⟨_,_,_,rfl⟩,w,s0,j,rfl,od,r⟩
 | seek h s' z=>
  walk_at "ev";refine ⟨dd,_,0,_,rfl,rfl,gU.of od,rfl,?_⟩;refine ⟨_,f9,rfl,rfl,?_⟩;walk_at "ev";refine mH (bW X rf JX) rfl (by simp) ?_;walk_at "ev";exact ⟨_,_,rfl,Tg,s,A,M,_,⟨_,_,_,rfl⟩,w,s0,j,rfl,od,r⟩
end
def vA (X:Cs):Sp:=fun vs H Q E=>∃ hp sl,vs=[.ref hp,.ref sl]∧∃ T s A M,∃ xs:List (Option Int),WJ X H T s A M∧A.hp=hp∧H sl=some (.lst (xs.map oV))∧xs.length≤1000∧∀ l,H l=none→Q (.ref l) (upd H l (.lst ((xs.map (DG M)).map oV)))
section
variable {K:aC}{X:Cs}{H:Hp}{Q:VK}{E:XK}{n:St→Hp→Prop}{bk ct:St→Hp→Prop}
theorem Yz {hp sl:Addr} (T:q8 K X) (q:∃ T s A M,∃ xs:List (Option Int),WJ X H T s A M∧A.hp=hp∧H sl=some (.lst (xs.map oV))∧xs.length≤1000∧∀ l,H l=none→Q (.ref l) (upd H l (.lst ((xs.map (DG M)).map oV)))):
  ym K (cA X) ⟨n,Q,bk,ct⟩ [some (.ref hp),some (.ref sl)] H:=by
 obtain ⟨Tg,s,A,M,xs,j,rfl,o,hx,q⟩:=q;unfold ym;walk_at "ev";refine Ql ?_;walk_at "ev";refine ⟨_,rfl,⟨_,cU.of o⟩,?_⟩;refine Xj (cU.of o) (fun i=>(xs[i]?).map fun x=>oV (DG M x)) (by rw [bu];omega) (fun i x hx=>?_) ?_
 ·rw [dz] at hx;obtain ⟨y,hy,rfl⟩:=Option.map_eq_some_iff.mp hx;refine ⟨fun q hq=>?_,fun z q hz hq=>?_⟩
  ·rw [hy] at hq;exact BJ hq
  ·rw [hy] at hz;cases hz;walk_at "caps";walk_at "ev";exact ⟨_,_,rfl,y,rfl,Tg,s,A,M,j,rfl,hq⟩
 ·intro p hp;have:(List.range (xs.map oV).length).filterMap (fun i=>(xs[i]?).map fun x=>oV (DG M x))=(xs.map (DG M)).map oV:=by
   rw [bu,List.map_map];clear q o hx
   induction xs with
   | nil=>rfl
   | cons a l ih=>
    rw [List.length_cons,List.range_succ_eq_map,List.filterMap_cons];simp only [List.getElem?_cons_zero,Option.map_some,List.map_cons,List.filterMap_map];congr 1
  rw [this];exact q p hp
end
def vG (CD:Addr):Sp:=fun vs H Q E=>∃ p nm many,vs=[.ref p,.str nm,.int many]∧∃ dx,H p=some (.ins CD dx [])∧0≤many∧many≤1000∧
 ∀ sa H',H sa=none→H' p=some (.ins CD dx (Vh nm sa))→H' sa=some (.lst (List.replicate many.toNat V.non))→(∀ b o,H b=some o→b≠p→H' b=some o)→Q .non H'
def pW (CS:Addr):Sp:=fun vs H Q E=>∃ p,vs=[.ref p]∧∃ dx,H p=some (.ins CS dx [])∧
 ∀ gr H',H gr=none→H' p=some (.ins CS dx (bY 0 "rest" gr 0 0 0 0 0 0 0 .non))→H' gr=some (.lst [])→(∀ b o,H b=some o→b≠p→H' b=some o)→Q .non H'
section
variable {K:aC}{X:Cs}{H:Hp}{Q:VK}{E:XK}{n:St→Hp→Prop}{bk ct:St→Hp→Prop}
theorem Ks {p:Addr}{nm:Str}{many:Int} (T:q8 K X) (q:∃ dx,H p=some (.ins X.D dx [])∧0≤many∧many≤1000∧
 ∀ sa H',H sa=none→H' p=some (.ins X.D dx (Vh nm sa))→H' sa=some (.lst (List.replicate many.toNat V.non))→(∀ b o,H b=some o→b≠p→H' b=some o)→Q .non H'):
  qp K ⟨fun _ H'=>Q .non H',Q,bk,ct⟩ [some (.ref p),some (.str nm),some (.int many)] H:=by
 obtain ⟨dx,hp,h0,h1,h⟩:=q;unfold qp;walk_at "ev";refine ⟨p,X.D,dx,[],rfl,hp,T.cD,T.nDn,by decide,?_⟩;walk_at "ev";refine ⟨by decide,fun l0 hl0=>?_⟩;walk_at "ev";refine ⟨l0,many,_,rfl,rfl,aq,by omega,by omega,?_,fun fa hfa=>?_⟩
 ·show 1 * many.toNat≤sizeLine;exact aV (by omega)
 have npl:p≠l0:=aD aq hl0;have npf:p≠fa:=aD (by rw [aB npl];exact aq) hfa;have Zv8:H fa=none:=by
  by_cases z:fa=l0
  ·rw [z,aq] at hfa;cases hfa
  ·rw [aB z,aB (fun e=>npf e.symm)] at hfa;exact hfa
 have Zwt:H l0=none:=by rw [aB (fun e=>npl e.symm)] at hl0;exact hl0
 walk_at "ev";refine ⟨p,X.D,dx,_,rfl,by rw [aB npf,aB npl];exact aq,T.cD,T.nDs,by show 1 < 1000;decide,?_⟩;refine h fa _ Zv8 ?_ ?_ fun b o hb nb=>?_
 ·rw [aq,Zm9]
 ·rw [aB npf.symm,aq];congr 2;generalize many.toNat=k
  induction k with
  | zero=>rfl
  | succ k ih=>rw [List.replicate_succ,List.replicate_succ,List.flatten_cons,ih];rfl
 ·rw [aB nb,aB (aD hb Zv8),aB (aD hb Zwt),aB nb];exact hb
theorem Dh {p:Addr} (T:q8 K X) (q:∃ dx,H p=some (.ins X.S dx [])∧
 ∀ gr H',H gr=none→H' p=some (.ins X.S dx (bY 0 "rest" gr 0 0 0 0 0 0 0 .non))→H' gr=some (.lst [])→(∀ b o,H b=some o→b≠p→H' b=some o)→Q .non H'):
  nF K ⟨fun _ H'=>Q .non H',Q,bk,ct⟩ [some (.ref p)] H:=by
 obtain ⟨dx,hp,h⟩:=q;unfold nF;walk_at "ev";refine ⟨p,X.S,dx,[],rfl,hp,T.cS,T.n1,by decide,?_⟩;walk_at "ev";refine ⟨p,X.S,dx,_,rfl,aq,T.cS,T.n2,by show 1 < 1000;decide,?_⟩;rw [dY];walk_at "ev";refine ⟨by decide,fun gr hgr=>?_⟩;have npg:p≠gr:=aD aq hgr;have Zm5:H gr=none:=by rw [aB npg.symm] at hgr;exact hgr
 walk_at "ev";refine ⟨p,X.S,dx,_,rfl,by rw [aB npg];exact aq,T.cS,T.n3,by show 2 < 1000;decide,?_⟩;walk_at "ev";refine ⟨p,X.S,dx,_,rfl,aq,T.cS,T.n4,by show 3 < 1000;decide,?_⟩;rw [dY];walk_at "ev";refine ⟨p,X.S,dx,_,rfl,aq,T.cS,T.n5,by show 4 < 1000;decide,?_⟩;rw [dY];walk_at "ev";refine ⟨p,X.S,dx,_,rfl,aq,T.cS,T.n6,by show 5 < 1000;decide,?_⟩;rw [dY];walk_at "ev";refine ⟨p,X.S,dx,_,rfl,aq,T.cS,T.n7,by show 6 < 1000;decide,?_⟩;rw [dY];walk_at "ev";refine ⟨p,X.S,dx,_,rfl,aq,T.cS,T.n8,by show 7 < 1000;decide,?_⟩;rw [dY];walk_at "ev";refine ⟨p,X.S,dx,_,rfl,aq,T.cS,T.n9,by show 8 < 1000;decide,?_⟩;rw [dY];walk_at "ev";refine ⟨p,X.S,dx,_,rfl,aq,T.cS,T.n10,by show 9 < 1000;decide,?_⟩;rw [dY];walk_at "ev";refine ⟨p,X.S,dx,_,rfl,aq,T.cS,T.n11,by show 10 < 1000;decide,?_⟩;rw [dY];refine h gr _ Zm5 ?_ ?_ fun b o hb nb=>?_
 ·rw [aq,Zgs]
 ·rw [aB npg.symm,aq]
 ·rw [aB nb,aB (aD hb Zm5),aB nb];exact hb
end
def wd (w:Int):Str:=if w=0 then "first" else if w=1 then "each" else "last"
def tlS (t:Int):Str:=if t=0 then "" else if t=1 then " old" else if t=2 then " new" else " old new"
def words (w t:Int):Str:=wd w ++ tlS t
structure KdO (X:Cs) (H:Hp) (ki lk:Addr) (w t:Int):Prop where
 ok:∃ dx,H ki=some (.ins X.K dx (P0 lk t))
 ol:∃ dx,(w=0∧H lk=some (.ins X.F dx []))∨(w=1∧H lk=some (.ins X.E dx []))∨(w=2∧H lk=some (.ins X.L dx []))
theorem KdO.same {X:Cs}{H H':Hp}{ki lk:Addr}{w t:Int} (k:KdO X H ki lk w t) (s:aY H H'):KdO X H' ki lk w t:=by
 obtain ⟨⟨d1,a⟩,⟨d2,b⟩⟩:=k;refine ⟨⟨d1,s _ _ a⟩,⟨d2,?_⟩⟩;rcases b with ⟨z,e⟩ | ⟨z,e⟩ | ⟨z,e⟩
 ·exact .inl ⟨z,s _ _ e⟩
 ·exact .inr (.inl ⟨z,s _ _ e⟩)
 ·exact .inr (.inr ⟨z,s _ _ e⟩)
def Zkv (room:Int) (hands:List (Str×Int)) (w t:Int):Wm:=⟨room,0,0,[],hands.map fun m=>(m.1,List.replicate m.2.toNat none),[],w,t,⟨0,"rest",[],0,0,0,0,0,0,0,.non⟩⟩
def tQ (X:Cs):Sp:=fun vs H Q E=>∃ p room ki hl0,vs=[.ref p,.int room,.ref ki,.ref hl0]∧∃ dx T s lk w t ts hands,H p=some (.ins X.W dx [])∧WT H T∧s≠0∧KdO X H ki lk w t∧T ki=(0,0)∧T lk=(0,0)∧ki≠p∧lk≠p∧H hl0=some (.lst (ts.map V.ref))∧
 Al (fun (t:Addr) (m:Str×Int)=>H t=some (.tup [.str m.1,.int m.2])∧0≤m.2∧m.2≤1000) ts hands∧hands.length≤30∧
 ∀ H' T' A,(∀ b o,H b=some o→b≠p→H' b=some o)→(∀ b o,H b=some o→b≠p→T' b=T b)→WT H' T'→A.wo=p→WJ X H' T' s A (Zkv room hands w t)→Q .non H'
def rG (CK:Addr):Sp:=fun vs H Q E=>∃ p l t,vs=[.ref p,.ref l,.int t]∧∃ dx,H p=some (.ins CK dx [])∧∀ H',H' p=some (.ins CK dx (P0 l t))→(∀ b o,H b=some o→b≠p→H' b=some o)→Q .non H'
def qJ (v:V):Sp:=fun vs H Q E=>∃ a,vs=[.ref a]∧Q v H
section
variable {K:aC}{X:Cs}{H:Hp}{Q:VK}{E:XK}{n:St→Hp→Prop}{bk ct:St→Hp→Prop}
theorem Kq {p l:Addr}{t:Int} (T:q8 K X) (q:∃ dx,H p=some (.ins X.K dx [])∧∀ H',H' p=some (.ins X.K dx (P0 l t))→(∀ b o,H b=some o→b≠p→H' b=some o)→Q .non H'):
  qj K ⟨fun _ H'=>Q .non H',Q,bk,ct⟩ [some (.ref p),some (.ref l),some (.int t)] H:=by
 obtain ⟨dx,hp,h⟩:=q;unfold qj;walk_at "ev";refine ⟨p,X.K,dx,[],rfl,hp,T.cK,T.nKl,by decide,?_⟩;walk_at "ev";refine ⟨p,X.K,dx,_,rfl,aq,T.cK,T.nKt,by show 1 < 1000;decide,?_⟩;rw [dY];refine h _ ?_ fun b o hb nb=>?_
 ·rw [aq,Zln]
 ·rw [aB nb];exact hb
theorem w0 {w:Int} (hw:w=0∨w=1∨w=2):words w 0=wd w:=by rcases hw with rfl | rfl | rfl<;>decide +kernel
theorem w3 {w:Int} (hw:w=0∨w=1∨w=2):words w 3=(wd w ++ " old") ++ " new":=by rcases hw with rfl | rfl | rfl<;>decide +kernel
end
structure Ex (p:Addr) (H H':Hp) (T T':Tg):Prop where
 kp:∀ b o,H b=some o→b≠p→H' b=some o
 al:∀ b o,H b=some o→∃ o',H' b=some o'
 tg:∀ b o,H b=some o→T' b=T b
 wt:WT H' T'
section
variable {p:Addr}{H H1 H2 H':Hp}{T T1 T2 T':Tg}
theorem Ex.trans (a:Ex p H H1 T T1) (b:Ex p H1 H2 T1 T2):Ex p H H2 T T2 where
 kp:=fun x o h n=>b.kp x o (a.kp x o h n) n
 al:=fun x o h=>by obtain ⟨o1,h1⟩:=a.al x o h;exact b.al x o1 h1
 tg:=fun x o h=>by obtain ⟨o1,h1⟩:=a.al x o h;rw [b.tg x o1 h1,a.tg x o h]
 wt:=b.wt
theorem Zu2 (w:WT H T) (al:∀ b o,H b=some o→∃ o',H' b=some o'):WT H' T:=fun b h=>w b (by
 cases z:H b with
 | none=>rfl
 | some o=>obtain ⟨o',e⟩:=al b o z;rw [h] at e;cases e)
theorem Vq {a:Addr}{o:HO}{v:Nat×Nat} (w:WT H T) (h:H a=some o):WT H (fM T a v):=fun b hb=>by
 rw [gZ (fun e=>by rw [e,h] at hb;cases hb)];exact w b hb
theorem Ex.Zj4 {o o0:HO} (w:WT H T) (h:H p=some o0):Ex p H (upd H p o) T T where
 kp:=fun x u hx n=>by rw [aB n];exact hx
 al:=fun x u hx=>by
  by_cases e:x=p
  ·exact ⟨o,by rw [e,aq]⟩
  ·exact ⟨u,by rw [aB e];exact hx⟩
 tg:=fun _ _ _=>rfl
 wt:=Zu2 w fun x u hx=>by
  by_cases e:x=p
  ·exact ⟨o,by rw [e,aq]⟩
  ·exact ⟨u,by rw [aB e];exact hx⟩
theorem Ex.news {vs:List (Addr×(Nat×Nat))} (w:WT H T) (s:aY H H') (hn:∀ v∈vs,H v.1=none∧∃ o,H' v.1=some o):Ex p H H' T (vs.foldr (fun v t=>fM t v.1 v.2) T):=by
 have tg:∀ b o,H b=some o→(vs.foldr (fun v t=>fM t v.1 v.2) T) b=T b:=by
  intro b o hb
  induction vs with
  | nil=>rfl
  | cons v vs ih=>
   show fM _ v.1 v.2 b=_;rw [gZ (aD hb (hn v List.mem_cons_self).1)];exact ih fun u hu=>hn u (List.mem_cons_of_mem _ hu)
 refine ⟨fun b o hb _=>s _ _ hb,fun b o hb=>⟨o,s _ _ hb⟩,tg,?_⟩;clear tg
 induction vs with
 | nil=>exact w.same s
 | cons v vs ih=>
  obtain ⟨o,ho⟩:=(hn v List.mem_cons_self).2;exact Vq (ih fun u hu=>hn u (List.mem_cons_of_mem _ hu)) ho
end
section
variable {K:aC}{X:Cs}{H:Hp}{Q:VK}{E:XK}{n:St→Hp→Prop}{bk ct:St→Hp→Prop}
theorem HB {p ki hl0:Addr}{room:Int} (T:q8 K X) (q:∃ dx T s lk w t,∃ ts:List Addr,∃ hands,H p=some (.ins X.W dx [])∧WT H T∧s≠0∧KdO X H ki lk w t∧T ki=(0,0)∧T lk=(0,0)∧ki≠p∧lk≠p∧H hl0=some (.lst (ts.map V.ref))∧
 Al (fun (t:Addr) (m:Str×Int)=>H t=some (.tup [.str m.1,.int m.2])∧0≤m.2∧m.2≤1000) ts hands∧hands.length≤30∧
 ∀ H' T' A,(∀ b o,H b=some o→b≠p→H' b=some o)→(∀ b o,H b=some o→b≠p→T' b=T b)→WT H' T'→A.wo=p→WJ X H' T' s A (Zkv room hands w t)→Q .non H'):
  pA K X.D X.H X.S (vG X.D) (vC X.H) (pW X.S) ⟨fun _ H'=>Q .non H',Q,bk,ct⟩ [some (.ref p),some (.int room),some (.ref ki),some (.ref hl0)] H:=by
 obtain ⟨dx,T0,s,lk,w,t,ts,hands,hp,wt0,s0,kd,tki,tlk,nki,nlk,oh0,al,hn,hQ⟩:=q;have x0:WT H (fM T0 p (s,0)):=Vq wt0 hp;have tp:fM T0 p (s,0) p=(s,0):=fD;have to0:∀ b o,H b=some o→b≠p→fM T0 p (s,0) b=T0 b:=fun b _ _ hb=>gZ hb;generalize hT:fM T0 p (s,0)=Ta at x0 tp to0;unfold pA;walk_at "ev";intro hq dh nh ndh neh;refine ⟨hq,room,rfl,dh,aq,fun ca H1 nca a1 a2 k1=>⟨rfl,?_⟩⟩;have Zs4:H ca=none:=by
  by_cases z:ca=hq
  ·rw [z,aq] at nca;cases nca
  ·rw [aB z] at nca
   by_cases y:ca=dh
   ·rw [y,aq] at nca;cases nca
   ·rw [aB y] at nca;exact nca
 have sm1:aY H H1:=fun b o hb=>k1 b o (by rw [aB (aD hb nh),aB (aD hb ndh)];exact hb) (aD hb nh);have e1:Ex p H H1 Ta _:=Ex.news (vs:=[(hq,(s,1)),(ca,(s,2))]) x0 sm1 (by
  intro v hv;simp only [List.mem_cons,List.not_mem_nil,or_false] at hv;rcases hv with rfl | rfl
  ·exact ⟨nh,_,a1⟩
  ·exact ⟨Zs4,_,a2⟩)
 have nhc:hq≠ca:=pI a1 a2 (fun z=>by cases z);have th1:([(hq,(s,1)),(ca,(s,2))].foldr (fun v t=>fM t v.1 v.2) Ta) hq=(s,1):=fD;have tc1:([(hq,(s,1)),(ca,(s,2))].foldr (fun v t=>fM t v.1 v.2) Ta) ca=(s,2):=(gZ nhc.symm).trans fD;generalize ([(hq,(s,1)),(ca,(s,2))]:List (Addr×(Nat×Nat))).foldr (fun v t=>fM t v.1 v.2) Ta=Tb at e1 th1 tc1;have hp1:=sm1 _ _ hp;have nph:hq≠p:=fun z=>by rw [z,hp] at nh;cases nh
 have npc:ca≠p:=fun z=>by rw [z,hp] at Zs4;cases Zs4
 clear k1 nca;walk_at "ev";refine ⟨p,X.W,dx,[],rfl,hp1,T.cW,T.M8,by decide,?_⟩;have e2:=e1.trans (Ex.Zj4 (o:=.ins X.W dx (bZ "heap" (.ref hq) [])) e1.wt hp1);have g2:upd H1 p (.ins X.W dx (bZ "heap" (.ref hq) [])) p=some (.ins X.W dx (bZ "heap" (.ref hq) [])):=aq;have a1:=(aB (o:=.ins X.W dx (bZ "heap" (.ref hq) [])) nph).trans a1;have a2:=(aB (o:=.ins X.W dx (bZ "heap" (.ref hq) [])) npc).trans a2;generalize upd H1 p (.ins X.W dx (bZ "heap" (.ref hq) []))=H2 at e2 g2 a1 a2 ⊢;walk_at "ev";refine ⟨p,X.W,dx,_,rfl,g2,T.cW,T.nWk,by show 1 < 1000;decide,?_⟩;have e3:=e2.trans (Ex.Zj4 (o:=.ins X.W dx (bZ "kind" (.ref ki) (bZ "heap" (.ref hq) []))) e2.wt g2);have g3:upd H2 p (.ins X.W dx (bZ "kind" (.ref ki) (bZ "heap" (.ref hq) []))) p=some (.ins X.W dx (bZ "kind" (.ref ki) (bZ "heap" (.ref hq) []))):=aq;have a1:=(aB (o:=.ins X.W dx (bZ "kind" (.ref ki) (bZ "heap" (.ref hq) []))) nph).trans a1;have a2:=(aB (o:=.ins X.W dx (bZ "kind" (.ref ki) (bZ "heap" (.ref hq) []))) npc).trans a2;generalize upd H2 p (.ins X.W dx (bZ "kind" (.ref ki) (bZ "heap" (.ref hq) [])))=H3 at e3 g3 a1 a2 ⊢;generalize hF3:(bZ "kind" (.ref ki) (bZ "heap" (.ref hq) []))=F3 at g3 ⊢;have lF3:F3.length=2:=by rw [← hF3];rfl
 have oh3:H3 hl0=some (.lst (ts.map V.ref)):=e3.kp _ _ oh0 (fun z=>by rw [z,hp] at oh0;cases oh0);have ltl:ts.length=hands.length:=al.length;have Zvt:∀ (i:Nat) a,ts[i]? =some a→∃ m,hands[i]? =some m∧H3 a=some (.tup [.str m.1,.int m.2])∧0≤m.2∧m.2≤1000:=fun i a ha=>by
  have hl:i < hands.length:=by rw [← ltl];exact (fG ha).1
  obtain ⟨a',ha',z1,z2,z3⟩:=al.get (cj hl);rw [ha] at ha';cases ha';exact ⟨_,cj hl,e3.kp _ _ z1 (fun z=>by rw [z,hp] at z1;cases z1),z2,z3⟩
 have lo:=e3.wt;walk_at "ev";refine ⟨_,rfl,⟨_,cU.of oh3⟩,Zg5 ?_⟩;refine ⟨fun i m ys Hx=>i≤ts.length∧m=ts.length - i∧∃ (hs:List (Addr×Addr)) (Tx:Tg),ys=hs.map (fun q=>V.ref q.1)∧hs.length=i∧aY H3 Hx∧Ex p H3 Hx Tb Tx∧∀ (j:Nat) q m,hs[j]? =some q→hands[j]? =some m→HdO X.D Hx Tx s j q (m.1,List.replicate m.2.toNat none)∧q.1≠p∧q.2≠p,
  ⟨ts.length,Nat.zero_le _,rfl,[],Tb,rfl,rfl,aY.refl _,⟨fun _ _ h _=>h,fun _ o h=>⟨o,h⟩,fun _ _ _=>rfl,lo⟩,fun j q m e=>by simp at e⟩,?_⟩
 rintro i m ys Hx ⟨hi,rfl,hs,Tx,rfl,hl,sx,ex,hds⟩
 by_cases hk:i=ts.length
 ·refine .inl ⟨⟨_,cU.of (sx _ _ oh3),by rw [bu];omega⟩,fun hla nhl=>?_⟩;have ZE5:H3 hla=none:=sx.free nhl;have s4:=aO nhl (.lst (hs.map fun q=>V.ref q.1));have e4:Ex p Hx _ Tx _:=Ex.news (p:=p) (vs:=[(hla,(s,5))]) ex.wt s4 (by
   intro v hv;rw [List.mem_singleton.mp hv];exact ⟨nhl,_,aq⟩)
  have t4:([(hla,(s,5))].foldr (fun v t=>fM t v.1 v.2) Tx) hla=(s,5):=fD;have o4:upd Hx hla (.lst (hs.map fun q=>V.ref q.1)) hla=some (.lst (hs.map fun q=>V.ref q.1)):=aq;have hpx:=sx _ _ g3;have nhp:hla≠p:=fun z=>by rw [z,hpx] at nhl;cases nhl
  have hp4:=s4 _ _ hpx;generalize upd Hx hla (.lst (hs.map fun q=>V.ref q.1))=H4 at s4 e4 o4 hp4 ⊢;generalize ([(hla,(s,5))]:List (Addr×(Nat×Nat))).foldr (fun v t=>fM t v.1 v.2) Tx=T4 at e4 t4;walk_at "ev";refine ⟨p,X.W,dx,_,rfl,hp4,T.cW,T.nWd,by rw [lF3];decide,?_⟩;have e5:=Ex.Zj4 (p:=p) (o:=.ins X.W dx (bZ "hands" (.ref hla) F3)) e4.wt hp4;have hp5:upd H4 p (.ins X.W dx (bZ "hands" (.ref hla) F3)) p=some (.ins X.W dx (bZ "hands" (.ref hla) F3)):=aq;generalize upd H4 p (.ins X.W dx (bZ "hands" (.ref hla) F3))=H5 at e5 hp5 ⊢;walk_at "ev";intro nm hnm;have nnp:nm≠p:=fun z=>by rw [z,hp5] at hnm;cases hnm
  have s6:=aO hnm (.dK []);have e6:Ex p H5 _ T4 _:=Ex.news (p:=p) (vs:=[(nm,(s,6))]) e5.wt s6 (by
   intro v hv;rw [List.mem_singleton.mp hv];exact ⟨hnm,_,aq⟩)
  have t6:([(nm,(s,6))].foldr (fun v t=>fM t v.1 v.2) T4) nm=(s,6):=fD;have o6:upd H5 nm (.dK []) nm=some (.dK []):=aq;have hp6:=s6 _ _ hp5;generalize upd H5 nm (.dK [])=H6 at s6 e6 o6 hp6 ⊢;generalize ([(nm,(s,6))]:List (Addr×(Nat×Nat))).foldr (fun v t=>fM t v.1 v.2) T4=T6 at e6 t6;walk_at "ev";refine ⟨p,X.W,dx,_,rfl,hp6,T.cW,T.nWn,by rw [← hF3];show 3 < 1000;decide,?_⟩;have e7:=Ex.Zj4 (p:=p) (o:=.ins X.W dx (bZ "names" (.ref nm) (bZ "hands" (.ref hla) F3))) e6.wt hp6;have hp7:upd H6 p (.ins X.W dx (bZ "names" (.ref nm) (bZ "hands" (.ref hla) F3))) p=some (.ins X.W dx (bZ "names" (.ref nm) (bZ "hands" (.ref hla) F3))):=aq;generalize upd H6 p (.ins X.W dx (bZ "names" (.ref nm) (bZ "hands" (.ref hla) F3)))=H7 at e7 hp7 ⊢;walk_at "ev";intro sw ds nsw nds nes;refine ⟨sw,rfl,ds,aq,fun gr H8 ngr b1 b2 k8=>⟨rfl,?_⟩⟩;have Zs2:H7 gr=none:=by
   by_cases z:gr=sw
   ·rw [z,aq] at ngr;cases ngr
   ·rw [aB z] at ngr
    by_cases y:gr=ds
    ·rw [y,aq] at ngr;cases ngr
    ·rw [aB y] at ngr;exact ngr
  have s8:aY H7 H8:=fun b o hb=>k8 b o (by rw [aB (aD hb nsw),aB (aD hb nds)];exact hb) (aD hb nsw);have e8:Ex p H7 H8 T6 _:=Ex.news (p:=p) (vs:=[(sw,(s,7)),(gr,(s,8))]) e7.wt s8 (by
   intro v hv;simp only [List.mem_cons,List.not_mem_nil,or_false] at hv;rcases hv with rfl | rfl
   ·exact ⟨nsw,_,b1⟩
   ·exact ⟨Zs2,_,b2⟩)
  have nsg:sw≠gr:=pI b1 b2 (fun z=>by cases z);have ts8:([(sw,(s,7)),(gr,(s,8))].foldr (fun v t=>fM t v.1 v.2) T6) sw=(s,7):=fD;have tg8:([(sw,(s,7)),(gr,(s,8))].foldr (fun v t=>fM t v.1 v.2) T6) gr=(s,8):=(gZ nsg.symm).trans fD;generalize ([(sw,(s,7)),(gr,(s,8))]:List (Addr×(Nat×Nat))).foldr (fun v t=>fM t v.1 v.2) T6=T8 at e8 ts8 tg8;have hp8:=s8 _ _ hp7;have nsp:sw≠p:=fun z=>by rw [z,hp7] at nsw;cases nsw
  have ngp:gr≠p:=fun z=>by rw [z,hp7] at Zs2;cases Zs2
  clear k8 ngr;walk_at "ev";refine ⟨p,X.W,dx,_,rfl,hp8,T.cW,T.RZ,by rw [← hF3];show 4 < 1000;decide,?_⟩;have e9:=Ex.Zj4 (p:=p) (o:=.ins X.W dx (bZ "sweeper" (.ref sw) (bZ "names" (.ref nm) (bZ "hands" (.ref hla) F3)))) e8.wt hp8;have hp9:upd H8 p (.ins X.W dx (bZ "sweeper" (.ref sw) (bZ "names" (.ref nm) (bZ "hands" (.ref hla) F3)))) p=some (.ins X.W dx (zP hq ki hla nm sw)):=by
   rw [aq,← hF3,Zgm]
  generalize upd H8 p (.ins X.W dx (bZ "sweeper" (.ref sw) (bZ "names" (.ref nm) (bZ "hands" (.ref hla) F3))))=H9 at e9 hp9 ⊢;have f89:=e9;have f69:=e7.trans (e8.trans e9);have f49:=e5.trans (e6.trans f69);have fx9:=e4.trans f49;have f39:=ex.trans fx9;have f09:=e3.trans f39;obtain ⟨⟨dk,ok⟩,⟨dl,ol⟩⟩:=kd;have hlk:∃ o,H lk=some o:=by
   rcases ol with ⟨_,z⟩ | ⟨_,z⟩ | ⟨_,z⟩
   ·exact ⟨_,z⟩
   ·exact ⟨_,z⟩
   ·exact ⟨_,z⟩
  obtain ⟨olk,elk⟩:=hlk;refine hQ H9 T8 ⟨p,hq,ca,ki,lk,hla,nm,sw,gr,hs,[],[]⟩ f09.kp (fun b o hb nb=>(f09.tg b o hb).trans (to0 b o hb nb)) f09.wt rfl ⟨⟨(f09.tg _ _ hp).trans tp,(f09.tg _ _ ok).trans ((to0 _ _ ok nki).trans tki),(f09.tg _ _ elk).trans ((to0 _ _ elk nlk).trans tlk),(f49.tg _ _ o4).trans t4,⟨dx,hp9⟩,⟨dk,f09.kp _ _ ok nki⟩,⟨dl,?_⟩,f49.kp _ _ o4 nhp⟩,
   ⟨(f39.tg _ _ a1).trans th1,(f39.tg _ _ a2).trans tc1,⟨dh,f39.kp _ _ a1 nph⟩,f39.kp _ _ a2 npc⟩,⟨(f69.tg _ _ o6).trans t6,f69.kp _ _ o6 nnp,.nil⟩,
   ⟨(f89.tg _ _ b1).trans ts8,(f89.tg _ _ b2).trans tg8,⟨ds,f89.kp _ _ b1 nsp⟩,f89.kp _ _ b2 ngp⟩,⟨?_,by show hs.length≤30;rw [hl,hk,ltl];exact hn,?_⟩,⟨rfl,fun i q c z=>by simp at z⟩⟩
  ·rcases ol with ⟨z,y⟩ | ⟨z,y⟩ | ⟨z,y⟩
   ·exact .inl ⟨z,f09.kp _ _ y nlk⟩
   ·exact .inr (.inl ⟨z,f09.kp _ _ y nlk⟩)
   ·exact .inr (.inr ⟨z,f09.kp _ _ y nlk⟩)
  ·show hs.length=(hands.map _).length;rw [bu,hl,hk,ltl]
  ·intro j q m z1 z2;have z2:(hands.map fun m=>(m.1,List.replicate m.2.toNat none))[j]? =some m:=z2;rw [dz] at z2;obtain ⟨m0,y1,rfl⟩:=Option.map_eq_some_iff.mp z2;obtain ⟨⟨u1,u2,⟨du,u3⟩,u4⟩,v1,v2⟩:=hds j q m0 z1 y1;exact ⟨(fx9.tg _ _ u3).trans u1,(fx9.tg _ _ u4).trans u2,⟨du,fx9.kp _ _ u3 v1⟩,fx9.kp _ _ u4 v2⟩
 ·have hlt:i < ts.length:=by omega
  refine .inr ⟨⟨_,_,cU.of (sx _ _ oh3),by rw [dz,cj hlt];rfl⟩,?_,fun x H' y=>?_⟩
  ·rw [bu,hl];exact Nat.lt_of_lt_of_le hlt (aV (by omega))
  obtain ⟨y1,y2⟩:=y;subst y1;have ey:=y2 _ (cU.of (sx _ _ oh3));rw [dz,cj hlt] at ey;have ey:x=.ref ts[i]:=(Option.some.inj ey).symm;subst ey;obtain ⟨m,hm,ot,m0,m1⟩:=Zvt i _ (cj hlt);refine BJ (Zea ⟨ts[i],.str m.1,.int m.2,_,rfl,gU.of (sx _ _ ot),?_⟩);walk_at "caps";walk_at "ev";intro q1 dq nq ndq neq;refine ⟨q1,m.1,m.2,rfl,dq,aq,m0,m1,fun sa Hy nsa b1 b2 k=>⟨rfl,?_⟩⟩;have Zrz:H' sa=none:=by
   by_cases z:sa=q1
   ·rw [z,aq] at nsa;cases nsa
   ·rw [aB z] at nsa
    by_cases y:sa=dq
    ·rw [y,aq] at nsa;cases nsa
    ·rw [aB y] at nsa;exact nsa
  have sy:aY H' Hy:=fun b o hb=>k b o (by rw [aB (aD hb nq),aB (aD hb ndq)];exact hb) (aD hb nq);have ey:Ex p H' Hy Tx _:=Ex.news (p:=p) (vs:=[(q1,(s,20 + 2 * i)),(sa,(s,21 + 2 * i))]) ex.wt sy (by
   intro v hv;simp only [List.mem_cons,List.not_mem_nil,or_false] at hv;rcases hv with rfl | rfl
   ·exact ⟨nq,_,b1⟩
   ·exact ⟨Zrz,_,b2⟩)
  have nqs:q1≠sa:=pI b1 b2 (fun z=>by cases z);have hpx:=sx _ _ g3;refine ⟨ts.length - (i + 1),by omega,by omega,rfl,hs ++ [(q1,sa)],_,by rw [List.map_append];rfl,by rw [List.length_append,hl];rfl,sx.trans sy,ex.trans ey,fun j q m' z1 z2=>?_⟩
  by_cases hj:j < hs.length
  ·rw [List.getElem?_append_left hj] at z1;obtain ⟨⟨u1,u2,⟨du,u3⟩,u4⟩,v1,v2⟩:=hds j q m' z1 z2;exact ⟨⟨(ey.tg _ _ u3).trans u1,(ey.tg _ _ u4).trans u2,⟨du,sy _ _ u3⟩,sy _ _ u4⟩,v1,v2⟩
  ·have hj':=(fG z1).1;rw [List.length_append,List.length_singleton] at hj';have ej:j=hs.length:=by omega
   subst ej;rw [List.getElem?_append_right (Nat.le_refl _),Nat.sub_self] at z1;cases z1;rw [hl] at z2 ⊢;rw [hm] at z2;cases z2;exact ⟨⟨fD,(gZ nqs.symm).trans fD,⟨dq,b1⟩,by rw [b2,List.map_replicate];rfl⟩,(fun z=>by rw [show q1=p from z,hpx] at nq;cases nq),(fun z=>by rw [show sa=p from z,hpx] at Zrz;cases Zrz)⟩
end
section
variable {K:aC}{X:Cs}{H:Hp}{Q:VK}{E:XK}{T:Tg}{s:Nat}{A:Wa}{M:Wm}
theorem Zie {i:Nat}{c:Ce} (j:WJ X H T s A M) (w:WT H T) (h0:s≠0) (hc:M.cells[i]? =some (some c))
  (k:∀ H' A',iU s H H' T T→WJ X H' T s A' { M with used:=M.used - (1 + c.fl.length + c.bulk),cells:=M.cells.set i none }→A'.wo=A.wo→Q (.int c.birth) H'):
  rH X.C X.H [.ref A.hp,.int i] H Q E:=by
 obtain ⟨th,tc,⟨dh,oh⟩,oc⟩:=j.jh;obtain ⟨pc,hpc,ce⟩:=j.jc.at hc;obtain ⟨_,_,⟨dc,o1⟩,ofl⟩:=id ce;have hl:=(fG hc).1;refine ⟨A.hp,i,rfl,A.ca,dh,M.room,M.used,M.born,A.cs.map pV,pc.1,pc.2,c.birth,c.bulk,c.tone,c.load,c.fl.map oV,by omega,oh,oc,by rw [Int.toNat_natCast,dz,hpc];rfl,⟨⟨dc,o1⟩,ofl⟩,?_⟩;rw [Int.toNat_natCast,bu];have nhc:A.hp≠A.ca:=pI oh oc (fun z=>by cases z);obtain ⟨st5,j5⟩:=j.back w h0 (i:=i) (used':=M.used - (1 + c.fl.length + c.bulk)) (by rw [j.jc.lc];exact hl) (upd (upd H A.hp (.ins X.H dh (jU M.room A.ca (M.used - (1 + c.fl.length + c.bulk)) M.born))) A.ca (.lst ((A.cs.map pV).set i V.non)))
  (fun b o hb n1 n2=>by rw [aB n2,aB n1];exact hb) (by rw [aB nhc];exact aq) aq
 exact k _ _ st5 j5 rfl
end
def heldOf (M:Wm):List (List (Option Int)):=M.hands.map (·.2)
def Ez (X:Cs):Sp:=fun vs H Q E=>∃ wo,vs=[.ref wo]∧∃ T s A M,WJ X H T s A M∧A.wo=wo∧M.hands.length≤1000∧∀ (l:Addr) (ls:List Addr) H',aY H H'→H l=none→H' l=some (.lst (ls.map V.ref))→ls.length=(heldOf M).length→ls.Nodup→(∀ r∈ls,H r=none)→l∉ls→(∀ (j:Nat) r x,ls[j]? =some r→(heldOf M)[j]? =some x→H' r=some (.lst (x.map oV)))→Q (.ref l) H'
section
variable {K:aC}{X:Cs}{H:Hp}{Q:VK}{E:XK}{n:St→Hp→Prop}{bk ct:St→Hp→Prop}
theorem Zpp {wo:Addr} (T:q8 K X) (q:∃ T s A M,WJ X H T s A M∧A.wo=wo∧M.hands.length≤1000∧∀ (l:Addr) (ls:List Addr) H',aY H H'→H l=none→H' l=some (.lst (ls.map V.ref))→ls.length=(heldOf M).length→ls.Nodup→(∀ r∈ls,H r=none)→l∉ls→(∀ (j:Nat) r x,ls[j]? =some r→(heldOf M)[j]? =some x→H' r=some (.lst (x.map oV)))→Q (.ref l) H'):
  Ws K ⟨n,Q,bk,ct⟩ [some (.ref wo)] H:=by
 obtain ⟨Tg,s,A,M,j,rfl,hl,q⟩:=q;obtain ⟨dx,ow⟩:=j.jb.ow;unfold Ws;walk_at "ev";refine Ql ?_;walk_at "ev";refine aH ow T.cW T.nWd eN ?_;have l5:=j.jd.l5;refine ⟨_,rfl,⟨_,cU.of j.jb.on⟩,?_⟩;refine Zaf (cU.of j.jb.on) (by rw [bu];omega) (fun i r Hx=>∃ x,(heldOf M)[i]? =some x∧Hx r=some (.lst (x.map oV))) (fun _ _ _ _ ⟨x,e,z⟩ s=>⟨x,e,s _ _ z⟩) (fun _ _ _ ⟨_,_,z⟩=>⟨_,z⟩) (fun x H1 q hq=>BJ hq) (fun i x H1 hi s1 q' hq=>?_) ?_
 ·rw [dz] at hi;obtain ⟨p,hp,rfl⟩:=Option.map_eq_some_iff.mp hi;have j1:=j.same s1;obtain ⟨m,hm,hd⟩:=j1.hand hp;obtain ⟨dx,o1⟩:=hd.o1;walk_at "caps";walk_at "ev";refine aH o1 T.cD T.nDs uz ?_;walk_at "ev";refine Ni (cU.of hd.o2) fun l hl=>?_;exact hq l _ (aO hl _) hl ⟨_,by unfold heldOf;rw [dz,hm];rfl,aq⟩
 ·intro rs H' s1 hl nd nn hr p hp;have s2:=aO hp (.lst (rs.map V.ref));refine q p rs _ (s1.trans s2) (s1.free hp) aq ?_ nd nn (fun z=>?_) fun j' r x e1 e2=>?_
  ·rw [hl,bu];unfold heldOf;rw [bu,j.jd.lh]
  ·obtain ⟨k,hk,e⟩:=List.getElem_of_mem z;obtain ⟨_,_,e4⟩:=hr k p (by rw [cj hk,e]);rw [hp] at e4;cases e4
  ·obtain ⟨y,e3,z⟩:=hr j' r e1;rw [e2] at e3;cases e3;exact s2 _ _ z
end
def nj (w:Int) (h:Nat):Int:=if w=0 then 2 ^ h - 1 else 0
def zm (M:Wm):Wm:={ M with sw:={ M.sw with sense:=1 - M.sw.sense,phase:="walk",grey:=[],looked:=nj M.w M.hands.length,turn:=M.sw.turn + 1,walks:=0,looks:=0,passes:=0 } }
def uF:Sp:=fun vs H Q E=>∃ h,vs=[.int h]∧0≤h∧h≤30∧Q (.int (2 ^ h.toNat - 1)) H
def mV (k:Nat):Sp:=fun vs H Q E=>∃ a h,vs=[.ref a,.int h]∧0≤h∧h≤30∧Q (.int (if k=0 then 2 ^ h.toNat - 1 else 0)) H
def Nz (X:Cs):Sp:=fun vs H Q E=>∃ wo,vs=[.ref wo]∧∃ T s A M,WT H T∧s≠0∧WJ X H T s A M∧A.wo=wo∧∀ H' T' A',iU s H H' T T'→WJ X H' T' s A' (zm M)→A'.wo=wo→Q .non H'
section
variable {X:Cs}{H H':Hp}{T T':Tg}{s:Nat}{A:Wa}{M:Wm}
theorem WJ.Zow (j:WJ X H T s A M) (w:WT H T) (h0:s≠0) {dx l:Addr} (S:Sw) (hl:H l=none) (e9:S.grey=[]):
  iU s H (upd (upd H l (.lst [])) A.sw (.ins X.S dx (bY S.sense S.phase l S.looked S.turn S.at' S.stop S.walks S.looks S.passes S.loss))) T (fM T l (s,8))∧
  WJ X (upd (upd H l (.lst [])) A.sw (.ins X.S dx (bY S.sense S.phase l S.looked S.turn S.at' S.stop S.walks S.looks S.passes S.loss))) (fM T l (s,8)) s { A with gr:=l } { M with sw:=S }:=by
 obtain ⟨ts,tg,⟨dd,os⟩,og⟩:=id j.js;have nls:l≠A.sw:=(aD os hl).symm;have w1:WT (upd H l (.lst [])) (fM T l (s,8)):=Vq (w.same (aO hl _)) aq;have st1:iU s H (upd H l (.lst [])) T (fM T l (s,8)):=⟨fun b o h _=>(aO hl _) _ _ h,fun b o h=>⟨o,(aO hl _) _ _ h⟩,fun b o h=>gZ (aD h hl),w1⟩;have j1:WJ X (upd H l (.lst [])) (fM T l (s,8)) s A M:=j.fresh hl;obtain ⟨ts1,tg1,⟨dd1,os1⟩,og1⟩:=id j1.js;refine ⟨st1.trans (iU.upd w1 os1 (by rw [ts1])),?_⟩;have f:wZ s (·=7) (upd H l (.lst [])) (upd (upd H l (.lst [])) A.sw (.ins X.S dx (bY S.sense S.phase l S.looked S.turn S.at' S.stop S.walks S.looks S.passes S.loss))) (fM T l (s,8)) (fM T l (s,8)):=wZ.Br ts1;have b1:=j1.jb.mv f (oO h0 ts1) (by omega) (by omega);have b2:=j1.jh.mv f (by omega) (by omega);have b3:=j1.jn.mv f (oO h0 ts1) (by omega);have b5:=j1.jd.mv f fun _ _ _=>by omega
 have b6:=j1.jc.mv f fun _ _=>by omega
 obtain ⟨x1,x2,x3,x4,x5,x6,x7,x8⟩:=b1;obtain ⟨y1,y2,y3,y4⟩:=b2;obtain ⟨z1,z2,z3⟩:=b3;exact ⟨⟨x1,x2,x3,x4,x5,x6,x7,x8⟩,⟨y1,y2,y3,y4⟩,⟨z1,z2,z3⟩,⟨ts1,fD,⟨dx,aq⟩,by rw [aB nls,aq,e9];rfl⟩,b5,b6⟩
end
section
variable {K:aC}{X:Cs}{H:Hp}{Q:VK}{E:XK}{n:St→Hp→Prop}{bk ct:St→Hp→Prop}
theorem Zr4 {j:Int} (h0:0≤j) (h1:j≤1000):Zh 1 j:=⟨h0,by omega,by decide⟩
theorem Ziy {h:Int} (q:0≤h∧h≤30∧Q (.int (2 ^ h.toNat - 1)) H):Ji ⟨n,Q,bk,ct⟩ [some (.int h)] H:=by
 obtain ⟨h0,h1,q⟩:=q;unfold Ji;walk_at "ev";refine ⟨_,_,rfl,rfl,Zr4 h0 (by omega),?_⟩;walk_at "ev";rw [Int.one_mul];exact q
theorem Dj {a:Addr}{h:Int} (q:0≤h∧h≤30∧Q (.int (if (1:Nat)=0 then 2 ^ h.toNat - 1 else 0)) H):nG ⟨n,Q,bk,ct⟩ [some (.ref a),some (.int h)] H:=by
 unfold nG;walk_at "ev";exact q.2.2
theorem HR {a:Addr}{h:Int} (q:0≤h∧h≤30∧Q (.int (if (0:Nat)=0 then 2 ^ h.toNat - 1 else 0)) H):pC uF ⟨n,Q,bk,ct⟩ [some (.ref a),some (.int h)] H:=by
 obtain ⟨h0,h1,q⟩:=q;unfold pC;walk_at "ev";exact ⟨h,rfl,h0,h1,q⟩
theorem Zmz {wo:Addr} (Tx:q8 K X) (q:∃ T s A M,WT H T∧s≠0∧WJ X H T s A M∧A.wo=wo∧∀ H' T' A',iU s H H' T T'→WJ X H' T' s A' (zm M)→A'.wo=wo→Q .non H'):
  Ow K X.E X.F X.L (mV 0) (mV 1) ⟨fun _ H'=>Q .non H',Q,bk,ct⟩ [some (.ref wo),none] H:=by
 obtain ⟨T,s,A,M,w,h0,j,rfl,q⟩:=q;obtain ⟨dw,ow⟩:=j.jb.ow;obtain ⟨ds,os⟩:=j.js.os;obtain ⟨dk,ok⟩:=j.jb.ok;obtain ⟨dl,ol⟩:=j.jb.ol;have on:=j.jb.on;have lh:=j.jd.lh;have l5:=j.jd.l5;unfold Ow;walk_at "ev";refine aH ow Tx.cW Tx.RZ bw ?_;walk_at "ev";refine aH os Tx.cS Tx.n1 nR ?_;walk_at "ev";refine ⟨A.sw,X.S,ds,_,rfl,os,Tx.cS,Tx.n1,by show 11 < 1000;decide,?_⟩;rw [Ie];walk_at "ev";refine aH aq Tx.cS Tx.n5 tY ?_;walk_at "ev";refine ⟨A.sw,X.S,ds,_,rfl,aq,Tx.cS,Tx.n5,by show 11 < 1000;decide,?_⟩;rw [LC,dY];walk_at "ev";refine ⟨A.sw,X.S,ds,_,rfl,aq,Tx.cS,Tx.n2,by show 11 < 1000;decide,?_⟩;rw [mX,dY];walk_at "ev";refine ⟨by decide,fun gr hgr=>?_⟩;have nsg:A.sw≠gr:=aD aq hgr;have Zm5:H gr=none:=by rw [aB nsg.symm] at hgr;exact hgr
 walk_at "ev";refine ⟨A.sw,X.S,ds,_,rfl,by rw [aB nsg];exact aq,Tx.cS,Tx.n3,by show 11 < 1000;decide,?_⟩;rw [LR];have sw2:∀ (a b:HO) (o:HO),upd (upd (upd H A.sw a) gr o) A.sw b=upd (upd H gr o) A.sw b:=fun a b o=>by
  funext x
  by_cases z:x=A.sw
  ·rw [z,aq,aq]
  ·rw [aB z,aB z]
   by_cases y:x=gr
   ·rw [y,aq,aq]
   ·rw [aB y,aB y,aB z]
 rw [sw2];have fin:∀ {lo:Int}{σ:St},σ=[some (.ref A.wo),some (.ref A.sw)]→lo=nj M.w M.hands.length→∀ (H3:Hp),H3=upd (upd H gr (.lst [])) A.sw (.ins X.S ds (bY (1 - M.sw.sense) "walk" gr M.sw.looked (M.sw.turn + 1) M.sw.at' M.sw.stop M.sw.walks M.sw.looks M.sw.passes M.sw.loss))→
   (∃ a C dx fs,V.ref A.sw=.ref a∧H3 a=some (.ins C dx fs)∧DN K C∧bH K C "looked"∧fs.length < 1000∧(aL (gO K (ak 1) (tC (.int 0)) "walks") (aL (gO K (ak 1) (tC (.int 0)) "looks") (gO K (ak 1) (tC (.int 0)) "passes"))) ⟨fun _ H'=>Q .non H',Q,bk,ct⟩ σ (upd H3 a (.ins C dx (bZ "looked" (.int lo) fs)))):=by
  rintro lo σ rfl elo H3 rfl;refine ⟨A.sw,X.S,ds,_,rfl,aq,Tx.cS,Tx.n4,by show 11 < 1000;decide,?_⟩;rw [uQ,dY];walk_at "ev";refine ⟨A.sw,X.S,ds,_,rfl,aq,Tx.cS,Tx.n8,by show 11 < 1000;decide,?_⟩;rw [xg,dY];walk_at "ev";refine ⟨A.sw,X.S,ds,_,rfl,aq,Tx.cS,Tx.n9,by show 11 < 1000;decide,?_⟩;rw [pY,dY];walk_at "ev";refine ⟨A.sw,X.S,ds,_,rfl,aq,Tx.cS,Tx.n10,by show 11 < 1000;decide,?_⟩;rw [uP,dY];obtain ⟨st,j'⟩:=j.Zow w h0 (dx:=ds) (l:=gr) { M.sw with sense:=1 - M.sw.sense,phase:="walk",grey:=[],looked:=nj M.w M.hands.length,turn:=M.sw.turn + 1,walks:=0,looks:=0,passes:=0 } Zm5 rfl;subst elo;exact q _ _ _ st j' rfl
 have kp:∀ b o,H b=some o→b≠A.sw→upd (upd H gr (.lst [])) A.sw (.ins X.S ds (bY (1 - M.sw.sense) "walk" gr M.sw.looked (M.sw.turn + 1) M.sw.at' M.sw.stop M.sw.walks M.sw.looks M.sw.passes M.sw.loss)) b=some o:=fun b o hb nb=>by
  rw [aB nb,aB (aD hb Zm5)];exact hb
 have dS:∀ {a:Addr}{C d:Addr}{fs:List (Str×V)},H a=some (.ins C d fs)→fs.length < 11→a≠A.sw:=fun e hl z=>by
  rw [z,os] at e;have:=Option.some.inj e
  injection this with _ _ e3
  rw [← e3] at hl;exact absurd hl (by show ¬ 11 < 11;decide)
 have ow3:=kp _ _ ow (dS ow (by show 5 < 11;decide));have ok3:=kp _ _ ok (dS ok (by show 2 < 11;decide));have on3:=kp _ _ on (pI on os (fun z=>by cases z));generalize hH3:upd (upd H gr (.lst [])) A.sw (.ins X.S ds (bY (1 - M.sw.sense) "walk" gr M.sw.looked (M.sw.turn + 1) M.sw.at' M.sw.stop M.sw.walks M.sw.looks M.sw.passes M.sw.loss))=H3 at kp ow3 ok3 on3 ⊢;have Zae:((A.hs.map fun p=>V.ref p.1).length:Int)=(M.hands.length:Int):=by rw [bu,lh]
 refine Hg ?_;walk_at "es";rcases ol with ⟨ew,o⟩ | ⟨ew,o⟩ | ⟨ew,o⟩
 ·have o3:=kp _ _ o (dS o (by show 0 < 11;decide));refine U0 ?_;walk_at "es";refine aH ow3 Tx.cW Tx.nWk lB ?_;refine aH ok3 Tx.cK Tx.nKl m6 ?_;walk_at "es";refine ⟨A.lk,dl,_,rfl,o3,rfl,?_⟩;walk_at "es";refine aH ow3 Tx.cW Tx.nWd eN ?_;walk_at "es";refine jV (cU.of on3) ?_;rw [Zae];walk_at "es";refine ⟨A.lk,_,rfl,by omega,by omega,?_⟩;walk_at "es";exact fin rfl (by unfold nj;rw [if_pos ew,if_pos rfl,Int.toNat_natCast]) _ hH3.symm
 ·have o3:=kp _ _ o (dS o (by show 0 < 11;decide));refine Hi (U0 ?_);walk_at "es";refine aH ow3 Tx.cW Tx.nWk lB ?_;refine aH ok3 Tx.cK Tx.nKl m6 ?_;walk_at "es";refine ⟨A.lk,dl,_,rfl,o3,rfl,?_⟩;walk_at "es";refine aH ow3 Tx.cW Tx.nWd eN ?_;walk_at "es";refine jV (cU.of on3) ?_;rw [Zae];walk_at "es";refine ⟨A.lk,_,rfl,by omega,by omega,?_⟩;walk_at "es";exact fin rfl (by unfold nj;rw [if_neg (show ¬ (1:Nat)=0 by decide),if_neg (by omega)]) _ hH3.symm
 ·have o3:=kp _ _ o (dS o (by show 0 < 11;decide));refine Hi (Hi ?_);walk_at "es";refine aH ow3 Tx.cW Tx.nWk lB ?_;refine aH ok3 Tx.cK Tx.nKl m6 ?_;walk_at "es";refine ⟨A.lk,dl,_,rfl,o3,rfl,?_⟩;walk_at "es";refine aH ow3 Tx.cW Tx.nWd eN ?_;walk_at "es";refine jV (cU.of on3) ?_;rw [Zae];walk_at "es";refine ⟨A.lk,_,rfl,by omega,by omega,?_⟩;walk_at "es";exact fin rfl (by unfold nj;rw [if_neg (show ¬ (1:Nat)=0 by decide),if_neg (by omega)]) _ hH3.symm
end
def NB (M:Wm):Bool:=decide (M.sw.phase="walk"∨M.sw.phase="lost")
def Ot (M:Wm) (p b:Int):Option Int:=if rE M p b=true then none else match cellAt M p with
 | none=>none
 | some c=>if NB M=true∧¬ c.tone=M.sw.sense then none else some p
def tM (X:Cs):Sp:=fun vs H Q E=>∃ wo,vs=[.ref wo]∧∃ T s A M,YZ X H T s A M∧A.wo=wo∧∀ H',aY H H'→Q (.bl (NB M)) H'
def CJ (X:Cs):Sp:=fun vs H Q E=>∃ wo p b,vs=[.ref wo,.int p,.int b]∧∃ T s A M,YZ X H T s A M∧A.wo=wo∧∀ H',aY H H'→Q (oV (Ot M p b)) H'
section
variable {K:aC}{X:Cs}{H:Hp}{Q:VK}{E:XK}{n:St→Hp→Prop}{bk ct:St→Hp→Prop}
theorem R7 {wo:Addr} (T:q8 K X) (q:∃ T s A M,YZ X H T s A M∧A.wo=wo∧∀ H',aY H H'→Q (.bl (NB M)) H'):vV K ⟨n,Q,bk,ct⟩ [some (.ref wo)] H:=by
 obtain ⟨Tg,s,A,M,j,rfl,q⟩:=q;obtain ⟨d1,ow⟩:=j.jb.ow;obtain ⟨d2,os⟩:=j.js.os;unfold vV;walk_at "ev";refine aH ow T.cW T.RZ bw ?_;walk_at "ev";refine aH os T.cS T.n2 mz ?_;walk_at "ev";refine ⟨aV (by simp),fun tp QW=>?_⟩;have s1:=aO QW (.tup [V.str "walk",.str "lost"]);have g1:upd H tp (.tup [V.str "walk",.str "lost"]) tp=some (.tup [V.str "walk",.str "lost"]):=aq;generalize upd H tp (.tup [V.str "walk",.str "lost"])=H1 at s1 g1 ⊢;refine ⟨tp,_,rfl,.inr (gU.of g1),rfl,rfl,?_⟩;have q:=q H1 s1;rw [show NB M=(if false=true then !inV (V.str M.sw.phase) [V.str "walk",.str "lost"] else inV (V.str M.sw.phase) [V.str "walk",.str "lost"]) from by
  rw [if_neg Bool.false_ne_true];unfold NB inV
  by_cases h1:M.sw.phase="walk"
  ·simp [h1,eqV]
  ·by_cases h2:M.sw.phase="lost"
   ·simp [h2,eqV]
   ·have e1:¬ ("walk":Str)=M.sw.phase:=fun z=>h1 z.symm;have e2:¬ ("lost":Str)=M.sw.phase:=fun z=>h2 z.symm;simp [h1,h2,e1,e2,eqV]] at q
 exact q
theorem Zd0 {wo:Addr}{p b:Int} (T:q8 K X) (q:∃ T s A M,YZ X H T s A M∧A.wo=wo∧∀ H',aY H H'→Q (oV (Ot M p b)) H'):Ec K (EY X) (cT X) (tM X) ⟨n,Q,bk,ct⟩ [some (.ref wo),some (.int p),some (.int b)] H:=by
 obtain ⟨Tg,s,A,M,j,rfl,q⟩:=q;unfold Ec;walk_at "ev";refine ⟨_,_,_,rfl,Tg,s,A,M,j,rfl,?_⟩;have hgo:∀ c,cellAt M p=some c→rE M p b=false→Ot M p b=if NB M=true∧¬ c.tone=M.sw.sense then none else some p:=fun c hc hg=>by
  unfold Ot;rw [hg,if_neg Bool.false_ne_true,hc]
 cases hg:rE M p b with
 | true=>
  walk_at "ev";have:=q H (aY.refl _);rw [show Ot M p b=none from if_pos hg] at this;exact this
 | false=>
  walk_at "ev";refine ⟨_,rfl,Tg,s,A,M,j,rfl,fun H1 s1=>?_⟩;obtain ⟨c,hc⟩:∃ c,cellAt M p=some c:=by
   cases e:cellAt M p with
   | none=>
    have:rE M p b=true:=by unfold rE;rw [e]
    rw [this] at hg;cases hg
   | some c=>exact ⟨c,rfl⟩
  have q:=q H1 s1;rw [hgo c hc hg] at q;have j1:=j.same s1;cases hw:NB M with
  | false=>
   walk_at "ev";rw [if_neg (fun z=>by rw [hw] at z;cases z.1)] at q;exact q
  | true=>
   walk_at "ev";obtain ⟨d1,ow⟩:=j1.jb.ow;obtain ⟨dh,oh⟩:=j1.jh.oh;rcases j1.look (some p) with ⟨e1,_⟩ | ⟨i,c',pp,ei,h0,ec,hci,hp,_,ce⟩
   ·have e1:cellAt M p=none:=e1;rw [hc] at e1;cases e1
   cases ei;rw [hc] at ec;cases ec;refine aH ow T.cW T.M8 bC ?_;walk_at "ev";refine aH oh T.c.cB T.c.bL bV ?_;walk_at "ev";refine j9 (cU.of j1.jh.oc) (tL (v:=.ref pp.1) h0 (by rw [dz,hp];rfl)) ?_;walk_at "ev";refine ⟨_,_,rfl,Tg,s,A,M,_,pp,c,j1,rfl,ce,rfl,?_⟩;walk_at "ev"
   by_cases ht:c.tone=M.sw.sense
   ·rw [if_neg (fun z=>z.2 ht)] at q;refine SN (fun z=>absurd ht z) (fun _=>?_);walk_at "ev";exact q
   ·rw [if_pos ⟨hw,ht⟩] at q;refine SN (fun _=>?_) (fun z=>absurd z ht);walk_at "ev";exact q
end
def ug (M:Wm):List (Option Int):=M.names.map fun m=>Ot M m.2.1 m.2.2
def jg (M:Wm):List (List (Option Int)):=heldOf M ++ [ug M]
def Np (X:Cs):Sp:=fun vs H Q E=>∃ wo,vs=[.ref wo]∧∃ T s A M,s≠0∧WJ X H T s A M∧A.wo=wo∧M.hands.length≤1000∧M.names.length≤1000∧∀ (l:Addr) (ls:List Addr) H',aY H H'→H l=none→H' l=some (.lst (ls.map V.ref))→ls.length=(jg M).length→(∀ r∈ls,H r=none)→l∉ls→(∀ (j:Nat) r x,ls[j]? =some r→(jg M)[j]? =some x→H' r=some (.lst (x.map oV)))→Q (.ref l) H'
section
variable {K:aC}{X:Cs}{H:Hp}{Q:VK}{E:XK}{n:St→Hp→Prop}{bk ct:St→Hp→Prop}
theorem Zqu {T:Tg}:∀ {ns:List Addr}{names:List (Str×(Int×Int))}{i:Nat}{kv:L2.Key×V},Al (NmO H T) ns names→(yS names ns)[i]? =some kv→∃ t m,names[i]? =some m∧kv.2=.ref t∧H t=some (.tup [.int m.2.1,.int m.2.2])∧T t=(0,0)
 | [],[],i,kv,_,e=>by simp [yS] at e
 | t :: ns,m :: names,0,kv,.cons h _,e=>by
  cases e;exact ⟨t,m,rfl,rfl,h.2,h.1⟩
 | t :: ns,m :: names,i + 1,kv,.cons _ h,e=>by
  obtain ⟨t',m',e1,e2⟩:=Zqu h (i:=i) (kv:=kv) (by simpa [yS] using e);exact ⟨t',m',by simpa using e1,e2⟩
theorem Zjq {wo:Addr} (T:q8 K X) (q:∃ T s A M,s≠0∧WJ X H T s A M∧A.wo=wo∧M.hands.length≤1000∧M.names.length≤1000∧∀ (l:Addr) (ls:List Addr) H',aY H H'→H l=none→H' l=some (.lst (ls.map V.ref))→ls.length=(jg M).length→(∀ r∈ls,H r=none)→l∉ls→(∀ (j:Nat) r x,ls[j]? =some r→(jg M)[j]? =some x→H' r=some (.lst (x.map oV)))→Q (.ref l) H'):
  Ov K (Ez X) (CJ X) H ⟨n,Q,bk,ct⟩ [some (.ref wo)] H:=by
 obtain ⟨Tg,s,A,M,h0,j,rfl,hh,hn,q⟩:=q;unfold Ov;walk_at "ev";refine ⟨_,rfl,Tg,s,A,M,j,rfl,hh,fun l1 ls1 H1 s1 nl1 ol1 hl1 nd1 nn1 ZE4 g1=>?_⟩;have j1:=j.same s1;obtain ⟨dw,ow⟩:=j1.jb.ow;have om:=j1.jn.om;walk_at "ev";refine aH ow T.cW T.nWn iW ?_;refine ⟨_,_,rfl,.inl om,fun vv nvv=>?_⟩;have s2:=aO nvv (KN vv A.nm);have g2:upd H1 vv (KN vv A.nm) vv=some (KN vv A.nm):=aq;generalize upd H1 vv (KN vv A.nm)=H2 at s2 g2 ⊢;have j2:=j1.same s2;have om2:=j2.jn.om;refine ⟨_,_,_,rfl,g2,om2,fun o=>?_⟩;have lnm:(yS M.names A.ns).length=M.names.length:=Zks j2.jn.nms;have w3:=j2.names (o:=.xO o (.dK (yS M.names A.ns))) h0;have Zov:∀ b u,H2 b=some u→b≠A.nm→upd H2 A.nm (.xO o (.dK (yS M.names A.ns))) b=some u:=fun b u hb nb=>by rw [aB nb];exact hb
 have g3:upd H2 A.nm (.xO o (.dK (yS M.names A.ns))) A.nm=some (.xO o (.dK (yS M.names A.ns))):=aq;generalize upd H2 A.nm (.xO o (.dK (yS M.names A.ns)))=H3 at w3 Zov g3 ⊢;have nmn:∀ t xs,H2 t=some (.tup xs)→t≠A.nm:=fun t xs z=>pI z om2 (fun y=>by cases y);refine Zg5 ?_;refine Zll M.names.length (by omega) (fun i y _=>∃ m,M.names[i]? =some m∧y=oV (Ot M m.2.1 m.2.2)) (fun _ _ _ _ h _=>h) (fun H' s=>⟨s _ _ g3,by omega⟩) (fun i H' hi s=>⟨s _ _ g3,by omega⟩) (fun i x H4 H5 hi s4 y=>?_) ?_
 ·obtain ⟨rfl,kv,ekv,rfl⟩:=y;obtain ⟨t,m,em,et,ot,tt⟩:=Zqu j2.jn.nms ekv;refine ⟨rfl,fun q hq=>BJ hq,fun q hq=>?_⟩;have ot4:=s4 _ _ (Zov _ _ ot (nmn _ _ ot));refine ⟨t,_,_,_,by rw [et],gU.of ot4,?_⟩;walk_at "caps";walk_at "ev";exact ⟨_,_,_,rfl,Tg,s,A,M,w3.same s4,rfl,fun H6 s6=>hq _ _ s6 ⟨m,em,rfl⟩⟩
 ·intro ys H4 s4 ly hy p np;have ey:ys=(ug M).map oV:=by
   refine List.ext_getElem? fun i=>?_
   by_cases hi:i < ys.length
   ·obtain ⟨m,e1,e2⟩:=hy i ys[i] (cj hi);rw [cj hi,e2];unfold ug;rw [dz,dz,e1];rfl
   ·rw [List.getElem?_eq_none (by omega),List.getElem?_eq_none];unfold ug;rw [bu,bu];omega
  subst ey;have g5:=s4 _ _ g3;have npn:p≠A.nm:=fun z=>by rw [z,g5] at np;cases np
  refine ⟨A.nm,o,_,by rw [aB npn.symm];exact g5,(fun o' u z=>by rw [j.jn.om] at z;cases z),?_⟩;generalize hH5:upd (upd H4 p (.lst ((ug M).map oV))) A.nm (.dK (yS M.names A.ns))=H5;have s25:aY H2 H5:=fun b u hb=>by
   rw [← hH5]
   by_cases z:b=A.nm
   ·subst z;rw [aq];rw [om2] at hb;exact hb
   ·have h3:=Zov b u hb z;rw [aB z,aB (aD (s4 _ _ h3) np)];exact s4 _ _ h3
  have np2:H2 p=none:=by
   cases z:H2 p with
   | none=>rfl
   | some u=>
    have:=s4 _ _ (Zov p u z npn);rw [np] at this;cases this
  have op5:H5 p=some (.lst ((ug M).map oV)):=by rw [← hH5,aB npn];exact aq
  clear hH5;have s05:=s1.trans (s2.trans s25);have s15:=s2.trans s25;walk_at "ev";refine ⟨aV (by simp),fun l2 nl2=>?_⟩;have s6:=aO nl2 (.lst [.ref p]);have g6:upd H5 l2 (.lst [.ref p]) l2=some (.lst [.ref p]):=aq;generalize upd H5 l2 (.lst [.ref p])=H6 at s6 g6 ⊢;refine ⟨l1,l2,_,_,rfl,rfl,s6 _ _ (s15 _ _ ol1),g6,?_,fun l3 nl3=>?_⟩
  ·rw [bu];have:(heldOf M).length=M.hands.length:=by unfold heldOf;rw [bu]
   exact aV (by simp;omega)
  have s7:=aO nl3 (.lst (ls1.map V.ref ++ [.ref p]));have s07:=s05.trans (s6.trans s7);have e7:ls1.map V.ref ++ [V.ref p]=(ls1 ++ [p]).map V.ref:=by rw [List.map_append];rfl
  rw [e7] at s7 s07 ⊢;have fp:H p=none:=s1.free (s2.free np2);refine q l3 (ls1 ++ [p]) _ s07 (s05.free (s6.free nl3)) aq ?_ (fun r hr=>?_) (fun hr=>?_) fun k r x e1 e2=>?_
  ·unfold jg;rw [List.length_append,List.length_append,hl1];rfl
  ·rcases List.mem_append.mp hr with hr | hr
   ·exact nn1 r hr
   ·rw [List.mem_singleton.mp hr];exact fp
  ·rcases List.mem_append.mp hr with hr | hr
   ·obtain ⟨k,hk,e⟩:=List.getElem_of_mem hr;have:=g1 k l3 (heldOf M)[k] (by rw [cj hk,e]) (cj (by omega));rw [s6 _ _ (s15 _ _ this)] at nl3;cases nl3
   ·rw [List.mem_singleton.mp hr,s6 _ _ op5] at nl3;cases nl3
  ·unfold jg at e2
   by_cases hk:k < ls1.length
   ·rw [List.getElem?_append_left hk] at e1;rw [List.getElem?_append_left (by omega)] at e2;exact s7 _ _ (s6 _ _ (s15 _ _ (g1 k r x e1 e2)))
   ·have hk2:=(fG e1).1;rw [List.length_append,List.length_singleton] at hk2;have ek:k=ls1.length:=by omega
    rw [List.getElem?_append_right (by omega)] at e1 e2;rw [ek,Nat.sub_self] at e1;rw [ek,hl1,Nat.sub_self] at e2;cases e1;cases e2;exact s7 _ _ (s6 _ _ op5)
end
namespace KB
abbrev Fd:=List (Option (List (Option Int)))
def Yv (F:Fd) (p:Int):Option (List (Option Int)):=if 0≤p then (F[p.toNat]?).join else none
def nxt (F:Fd) (pl:Option Int) (f:Int):Option Int:=match pl with
 | none=>none
 | some p=>match Yv F p with
  | none=>none
  | some fl=>if 0≤f then (fl[f.toNat]?).join else none
abbrev Rw:=List (List (Option Int))
def slt (R:Rw) (r s:Int):Option Int:=((R[r.toNat]?).bind fun x=>x[s.toNat]?).join
def Z1 (F:Fd) (w:List Int) (x:Option Int×Nat):Option (Int×List Int):=match x.1 with
 | none=>none
 | some q=>if (Yv F q).isSome then some (q,w ++ [(x.2:Int)]) else none
def onw (F:Fd) (w:List Int) (n:Nat) (ps:List (Option Int)):List (Int×List Int):=(ps.zipIdx n).filterMap (Z1 F w)
def q0 (F:Fd) (n:Nat) (R:Rw):List (Int×List Int):=(R.zipIdx n).flatMap fun x=>onw F [(x.2:Int)] 0 x.1
structure Good (F:Fd) (R:Rw) (p:Int) (w:List Int):Prop where
 ex:∃ r s fs row,w=r :: s :: fs∧0≤r∧0≤s∧R[r.toNat]? =some row∧s.toNat < row.length∧(∀ f∈fs,0≤f)∧fs.foldl (nxt F) (slt R r s)=some p
 there:(Yv F p).isSome=true
theorem Ng {F:Fd}{w:List Int}{n:Nat}{ps:List (Option Int)}{q:Int}{v:List Int} (h:(q,v)∈onw F w n ps):∃ k,ps[k]? =some (some q)∧v=w ++ [((n + k:Nat):Int)]∧(Yv F q).isSome=true:=by
 obtain ⟨⟨x,m⟩,hm,e⟩:=List.mem_filterMap.mp h;obtain ⟨hk1,hk2⟩:=List.mem_zipIdx_iff_le_and_getElem?_sub.mp hm;unfold Z1 at e;cases x with
 | none=>cases e
 | some q'=>
  simp only at e;split at e
  ·rename_i hs
   cases e;refine ⟨m - n,hk2,?_,hs⟩;have:n + (m - n)=m:=by have:=hk1;simp only at this;omega
   rw [this]
  ·cases e
theorem Zma {F:Fd}{R:Rw}{p q:Int}{w v:List Int}{fl:List (Option Int)} (g:Good F R p w) (hf:Yv F p=some fl) (h:(q,v)∈onw F w 0 fl):Good F R q v:=by
 obtain ⟨k,hk,rfl,hs⟩:=Ng h;obtain ⟨⟨r,s,fs,row,rfl,h1,h2,h3,h4,h5,h6⟩,_⟩:=g;refine ⟨⟨r,s,fs ++ [((0 + k:Nat):Int)],row,rfl,h1,h2,h3,h4,fun f hf=>?_,?_⟩,hs⟩
 ·rcases List.mem_append.mp hf with z | z
  ·exact h5 f z
  ·have:f=((0 + k:Nat):Int):=by simpa using z
   omega
 ·rw [List.foldl_append,h6];show nxt F (some p) _=some q;unfold nxt;simp only [hf];rw [if_pos (by omega)];have:(((0 + k:Nat):Int)).toNat=k:=by omega
  rw [this,hk];rfl
theorem Zpx {F:Fd}{R:Rw}{q:Int}{v:List Int} (h:(q,v)∈q0 F 0 R):Good F R q v:=by
 obtain ⟨⟨row,n⟩,hm,h⟩:=List.mem_flatMap.mp h;have hr:R[n]? =some row:=List.mem_zipIdx_iff_getElem?.mp hm;obtain ⟨k,hk,rfl,hs⟩:=Ng h;refine ⟨⟨(n:Int),((0 + k:Nat):Int),[],row,rfl,by omega,by omega,by simpa using hr,?_,(fun f hf=>by cases hf),?_⟩,hs⟩
 ·have:k < row.length:=(fG hk).1;omega
 ·show slt R _ _=some q;unfold slt;have e1:((n:Int)).toNat=n:=by omega
  have e2:(((0 + k:Nat):Int)).toNat=k:=by omega
  rw [e1,e2,hr];simp only [Option.bind_some,hk,Option.join_some]
inductive Q3 (F:Fd) (R:Rw):List (Int×List Int)→Nat→List (Int×List Int)→Prop
 | start:Q3 F R (q0 F 0 R) 0 []
 | old {q k l p w}:Q3 F R q k l→q[k]? =some (p,w)→p∈l.map (·.1)→Q3 F R q (k + 1) l
 | new {q k l p w fl}:Q3 F R q k l→q[k]? =some (p,w)→p∉l.map (·.1)→Yv F p=some fl→Q3 F R (q ++ onw F w 0 fl) (k + 1) (l ++ [(p,w)])
theorem Q3.good {F:Fd}{R:Rw}{q l:List (Int×List Int)}{k:Nat} (b:Q3 F R q k l):(∀ x∈q,Good F R x.1 x.2)∧∀ x∈l,Good F R x.1 x.2:=by
 induction b with
 | start=>exact ⟨fun x hx=>Zpx hx,fun x hx=>nomatch hx⟩
 | old _ _ _ ih=>exact ih
 | new b hq hn hf ih=>
  have g:=ih.1 _ (List.mem_of_getElem? hq);refine ⟨fun x hx=>?_,fun x hx=>?_⟩
  ·rcases List.mem_append.mp hx with z | z
   ·exact ih.1 x z
   ·exact Zma g hf z
  ·rcases List.mem_append.mp hx with z | z
   ·exact ih.2 x z
   ·have z':=List.mem_singleton.mp z;rw [z'];exact g
def wgt:Option (List (Option Int))→Nat
 | none=>0
 | some fl=>fl.length
def Zc3 (F:Fd) (l:List (Int×List Int)):Nat:=((F.zipIdx).map fun x=>if (x.2:Int)∈l.map (·.1) then 0 else wgt x.1).sum
theorem Zje {α:Type} (f g:α→Nat):∀ (xs:List α),(∀ x∈xs,g x≤f x)→(xs.map g).sum≤(xs.map f).sum
 | [],_=>Nat.le_refl _
 | x :: xs,h=>by
  have h1:=h x (by simp);have h2:=Zje f g xs fun y hy=>h y (by simp [hy]);simp only [List.map_cons,List.sum_cons];omega
theorem Zq {α:Type} (f g:α→Nat) (d:Nat):∀ (xs:List α) (a:α),a∈xs→(∀ x∈xs,g x≤f x)→g a + d≤f a→(xs.map g).sum + d≤(xs.map f).sum
 | [],_,h,_,_=>nomatch h
 | x :: xs,a,ha,h,hd=>by
  have h1:=h x (by simp);have h2:=Zje f g xs fun y hy=>h y (by simp [hy]);simp only [List.map_cons,List.sum_cons];rcases List.mem_cons.mp ha with z | z
  ·subst z;omega
  ·have h3:=Zq f g d xs a z (fun y hy=>h y (by simp [hy])) hd;omega
theorem M7 {F:Fd}{w:List Int}{n:Nat}{ps:List (Option Int)}:(onw F w n ps).length≤ps.length:=by
 unfold onw;have:=List.length_filterMap_le (Z1 F w) (ps.zipIdx n);rw [List.length_zipIdx] at this;exact this
theorem Zj5 {F:Fd}{l:List (Int×List Int)}{p:Int}{w:List Int}{fl:List (Option Int)} (hn:p∉l.map (·.1)) (hf:Yv F p=some fl):Zc3 F (l ++ [(p,w)]) + fl.length≤Zc3 F l:=by
 unfold Yv at hf;split at hf
 ·rename_i h0
  have hp:F[p.toNat]? =some (some fl):=by
   cases e:F[p.toNat]? with
   | none=>rw [e] at hf;cases hf
   | some x=>rw [e] at hf;simp only [Option.join_some] at hf;rw [hf]
  unfold Zc3;refine Zq _ _ fl.length _ (some fl,p.toNat) (List.mem_zipIdx_iff_getElem?.mpr hp) (fun x _=>?_) ?_
  ·simp only [List.map_append,List.map_cons,List.map_nil,List.mem_append]
   by_cases h1:(x.2:Int)∈l.map (·.1)
   ·simp only [h1,true_or,↓reduceIte,Nat.le_refl]
   ·simp only [h1,false_or];split
    ·exact Nat.zero_le _
    ·exact Nat.le_refl _
  ·have e:((p.toNat:Nat):Int)=p:=by omega
   simp only [List.map_append,List.map_cons,List.map_nil,List.mem_append,e];rw [if_pos (.inr (by simp)),if_neg hn];show 0 + fl.length≤wgt (some fl);show 0 + fl.length≤fl.length;omega
 ·cases hf
def total (F:Fd) (R:Rw):Nat:=(q0 F 0 R).length + Zc3 F []
theorem Q3.bound {F:Fd}{R:Rw}{q l:List (Int×List Int)}{k:Nat} (b:Q3 F R q k l):q.length + Zc3 F l≤total F R:=by
 induction b with
 | start=>exact Nat.le_refl _
 | old _ _ _ ih=>exact ih
 | new b hq hn hf ih=>
  have h2:=@M7 F;rw [List.length_append];refine Nat.le_trans ?_ ih
  rename_i w fl
  have h3:=h2 (w:=w) (n:=0) (ps:=fl);have h4:=Zj5 (w:=w) hn hf;omega
end KB
def Zqc (cs:List V) (i:Int):V:=if 0≤i then (cs[i.toNat]?).getD .non else .non
def CO (CC:Addr) (H:Hp) (cs:List V) (i:Nat):Option (List (Option Int))→Prop
 | none=>cs[i]? =some .non
 | some fl=>∃ p fa b u t l,cs[i]? =some (.ref p)∧xN CC H p fa b u t l (fl.map oV)
structure HV (CC CH:Addr) (H:Hp) (hp:Addr) (F:KB.Fd):Prop where
 ex:∃ ca room used born cs,HpO CH H hp ca room used born cs∧cs.length=F.length∧∀ (i:Nat) x,F[i]? =some x→CO CC H cs i x
theorem HpO.same {CH:Addr}{H H':Hp}{hp ca:Addr}{room used born:Int}{cs:List V} (h:HpO CH H hp ca room used born cs) (s:aY H H'):HpO CH H' hp ca room used born cs:=by
 obtain ⟨⟨dx,h1⟩,h2⟩:=h;exact ⟨⟨dx,s _ _ h1⟩,s _ _ h2⟩
theorem CO.same {CC:Addr}{H H':Hp}{cs:List V}{i:Nat}{x:Option (List (Option Int))} (h:CO CC H cs i x) (s:aY H H'):CO CC H' cs i x:=by
 cases x with
 | none=>exact h
 | some fl=>
  obtain ⟨p,fa,b,u,t,l,e,c⟩:=h;exact ⟨p,fa,b,u,t,l,e,c.same s⟩
theorem HV.same {CC CH:Addr}{H H':Hp}{hp:Addr}{F:KB.Fd} (h:HV CC CH H hp F) (s:aY H H'):HV CC CH H' hp F:=by
 obtain ⟨ca,room,used,born,cs,o,l,e⟩:=h;exact ⟨ca,room,used,born,cs,o.same s,l,fun i x hx=>(e i x hx).same s⟩
theorem Zmm {CC:Addr}{H:Hp}{cs:List V}{F:KB.Fd} (hl:cs.length=F.length) (e:∀ (i:Nat) x,F[i]? =some x→CO CC H cs i x) (i:Int):
  (KB.Yv F i=none∧Zqc cs i=.non)∨∃ fl p fa b u t l,KB.Yv F i=some fl∧Zqc cs i=.ref p∧cs[i.toNat]? =some (.ref p)∧0≤i∧xN CC H p fa b u t l (fl.map oV):=by
 unfold KB.Yv Zqc
 by_cases h0:0≤i
 ·simp only [h0,↓reduceIte];cases hf:F[i.toNat]? with
  | none=>
   have:cs[i.toNat]? =none:=by rw [List.getElem?_eq_none_iff] at hf ⊢;omega
   exact .inl ⟨rfl,by rw [this];rfl⟩
  | some x=>
   have c:=e _ _ hf;cases x with
   | none=>exact .inl ⟨rfl,by rw [show cs[i.toNat]? =some V.non from c];rfl⟩
   | some fl=>
    obtain ⟨p,fa,b,u,t,l,e1,c1⟩:=c;exact .inr ⟨fl,p,fa,b,u,t,l,rfl,by rw [e1];rfl,e1,trivial,c1⟩
 ·simp only [h0,↓reduceIte];exact .inl ⟨trivial,trivial⟩
def Ff (H:Hp):List Addr→List (Int×List Int)→Prop
 | [],[]=>True
 | t :: ts,x :: qs=>(∃ a,H t=some (.tup [.int x.1,.ref a])∧H a=some (.tup (x.2.map V.int)))∧Ff H ts qs
 | _,_=>False
theorem Ff.same {H H':Hp} (s:aY H H'):∀ {ts:List Addr}{qs:List (Int×List Int)},Ff H ts qs→Ff H' ts qs
 | [],[],_=>trivial
 | [],_ :: _,h=>h.elim
 | _ :: _,[],h=>h.elim
 | _ :: _,_ :: _,⟨⟨a,h1,h2⟩,h3⟩=>⟨⟨a,s _ _ h1,s _ _ h2⟩,Ff.same s h3⟩
theorem Ff.app {H:Hp}:∀ {ts us:List Addr}{qs rs:List (Int×List Int)},Ff H ts qs→Ff H us rs→Ff H (ts ++ us) (qs ++ rs)
 | [],_,[],_,_,h=>h
 | [],_,_ :: _,_,h,_=>h.elim
 | _ :: _,_,[],_,h,_=>h.elim
 | _ :: _,_,_ :: _,_,⟨h1,h3⟩,h=>⟨h1,Ff.app h3 h⟩
theorem Ff.len {H:Hp}:∀ {ts:List Addr}{qs:List (Int×List Int)},Ff H ts qs→ts.length=qs.length
 | [],[],_=>rfl
 | [],_ :: _,h=>h.elim
 | _ :: _,[],h=>h.elim
 | _ :: _,_ :: _,⟨_,h3⟩=>by rw [List.length_cons,List.length_cons,Ff.len h3]
theorem Ff.at {H:Hp}:∀ {ts:List Addr}{qs:List (Int×List Int)}{i:Nat}{x:Int×List Int},Ff H ts qs→qs[i]? =some x→∃ t a,ts[i]? =some t∧H t=some (.tup [.int x.1,.ref a])∧H a=some (.tup (x.2.map V.int))
 | [],[],_,_,_,e=>by simp at e
 | [],_ :: _,_,_,h,_=>h.elim
 | _ :: _,[],_,_,h,_=>h.elim
 | t :: _,_ :: _,0,_,⟨⟨a,h1,h2⟩,_⟩,e=>by cases e;exact ⟨t,a,rfl,h1,h2⟩
 | _ :: _,_ :: _,i + 1,_,⟨_,h3⟩,e=>Ff.at (i:=i) h3 e
def Cj (K:aC) (CC CH:Addr):Sp:=fun vs H Q E=>∃ hp a wt F ps w,vs=[.ref hp,.ref a,.ref wt]∧HV CC CH H hp F∧cU K H a (ps.map oV)∧gU K H wt (w.map V.int)∧w≠[]∧w.length≤100000∧ps.length≤1000∧
 ∀ l ts H',H l=none→aY H H'→H' l=some (.lst (ts.map V.ref))→Ff H' ts (KB.onw F w 0 ps)→Q (.ref l) H'
def Fb (K:aC) (H:Hp):List Addr→KB.Rw→Prop
 | [],[]=>True
 | a :: as,r :: R=>cU K H a (r.map oV)∧Fb K H as R
 | _,_=>False
theorem Fb.same {K:aC}{H H':Hp} (s:aY H H'):∀ {as:List Addr}{R:KB.Rw},Fb K H as R→Fb K H' as R
 | [],[],_=>trivial
 | [],_ :: _,h=>h.elim
 | _ :: _,[],h=>h.elim
 | _ :: _,_ :: _,⟨h1,h3⟩=>⟨s.seq h1,Fb.same s h3⟩
theorem Fb.len {K:aC}{H:Hp}:∀ {as:List Addr}{R:KB.Rw},Fb K H as R→as.length=R.length
 | [],[],_=>rfl
 | [],_ :: _,h=>h.elim
 | _ :: _,[],h=>h.elim
 | _ :: _,_ :: _,⟨_,h3⟩=>by rw [List.length_cons,List.length_cons,Fb.len h3]
theorem Fb.at {K:aC}{H:Hp}:∀ {as:List Addr}{R:KB.Rw}{i:Nat}{a:Addr},Fb K H as R→as[i]? =some a→∃ r,R[i]? =some r∧cU K H a (r.map oV)
 | [],[],_,_,_,e=>by simp at e
 | [],_ :: _,_,_,h,_=>h.elim
 | _ :: _,[],_,_,h,_=>h.elim
 | _ :: _,r :: _,0,_,⟨h1,_⟩,e=>by cases e;exact ⟨r,rfl,h1⟩
 | _ :: _,_ :: _,i + 1,_,⟨_,h3⟩,e=>Fb.at (i:=i) h3 e
structure Few (F:KB.Fd) (R:KB.Rw):Prop where
 f:F.length≤1000
 g:∀ p fl,KB.Yv F p=some fl→fl.length≤1000
 r:R.length≤1000
 s:∀ x∈R,x.length≤1000
 t:KB.total F R≤90000
def CP (K:aC) (CC CH:Addr):Sp:=fun vs H Q E=>∃ hp ra F rs R,vs=[.ref hp,.ref ra]∧HV CC CH H hp F∧cU K H ra (rs.map V.ref)∧Fb K H rs R∧Few F R∧
 ∀ l ts q qs H',KB.Q3 F R q q.length qs→H l=none→aY H H'→H' l=some (.lst (ts.map V.ref))→Ff H' ts qs→Q (.ref l) H'
theorem Zvm {CC CH hp:Addr}{H:Hp}{Q:VK}{E:XK}{pl:Option Int}{F:KB.Fd} (v:HV CC CH H hp F) (q1:pl.bind (KB.Yv F)=none→Q .non H) (q2:∀ fl p fa b u t l,pl.bind (KB.Yv F)=some fl→xN CC H p fa b u t l (fl.map oV)→Q (.ref p) H):dO CH [.ref hp,oV pl] H Q E:=by
 obtain ⟨ca,room,used,born,cs,o,hl,he⟩:=v;refine ⟨hp,oV pl,rfl,xq pl,ca,room,used,born,cs,o,?_⟩;cases pl with
 | none=>exact q1 rfl
 | some i=>
  show Q (Zqc cs i) H;rcases Zmm hl he i with ⟨e1,e2⟩ | ⟨fl,p,fa,b,u,t,l,e1,e2,_,_,c⟩
  ·rw [e2];exact q1 e1
  ·rw [e2];exact q2 fl p fa b u t l e1 c
theorem Z0 (F:KB.Fd) (w:List Int) (n:Nat) (ps:List (Option Int)) (x:Option Int):KB.onw F w n (ps ++ [x])=KB.onw F w n ps ++ (KB.Z1 F w (x,n + ps.length)).toList:=by
 unfold KB.onw;rw [List.zipIdx_append,List.filterMap_append];congr 1
theorem take_snoc {α:Type}{xs:List α}{i:Nat}{x:α} (h:xs[i]? =some x):xs.take (i + 1)=xs.take i ++ [x]:=by
 rw [List.take_add_one,h];rfl
theorem lD {H:Hp}{a:Addr}{o:HO} (h:H a=none):aY H (upd H a o):=fun b u q=>by rw [aB (aD q h)];exact q
section
variable {K:aC}{aZ aW bM:Addr}{H:Hp}{Q:VK}{E:XK}{n:St→Hp→Prop}{bk ct:St→Hp→Prop}
theorem Zdj {hp a wt:Addr}{F:KB.Fd}{ps:List (Option Int)}{w:List Int} (v:HV aZ aW H hp F) (ha:cU K H a (ps.map oV)) (hw:gU K H wt (w.map V.int)) (hne:w≠[]) (hwl:w.length≤100000) (hpl:ps.length≤1000)
  (Zrh:∀ {H':Hp},aY H H'→gU K H' wt (w.map V.int))
  (q:∀ l ts H',H l=none→aY H H'→H' l=some (.lst (ts.map V.ref))→Ff H' ts (KB.onw F w 0 ps)→Q (.ref l) H'):
  Cu K (dO aW) ⟨n,Q,bk,ct⟩ [some (.ref hp),some (.ref a),some (.ref wt)] H:=by
 unfold Cu;walk_at "ev";refine ⟨a,rfl,⟨_,ha⟩,Zp2 ha (by rw [bu];omega) (fun i ys H1=>aY H H1∧i≤ps.length∧∃ ts,ys=ts.map V.ref∧Ff H1 ts (KB.onw F w 0 (ps.take i))) ⟨aY.refl _,Nat.zero_le _,[],rfl,trivial⟩ ?_ ?_ ?_⟩
 ·rintro i ys H1 ⟨sm,hi,ts,rfl,qa⟩;refine ⟨sm,?_⟩;rw [bu,qa.len];refine Nat.le_trans KB.M7 ?_;rw [List.length_take];omega
 ·rintro i x ys H1 t C hC hx ⟨sm,hi,ts,rfl,qa⟩ ht;walk_at "caps";rw [dz] at hx;obtain ⟨y,hy,rfl⟩:=Option.map_eq_some_iff.mp hx;have hil:i < ps.length:=(fG hy).1;have hn0:0 + (ps.take i).length=i:=by rw [List.length_take];omega
  have s1:aY H1 (upd H1 t (.tup [.int i,oV y])):=lD ht;have sm1:=sm.trans s1;walk_at "ev";refine Zvm (v.same sm1) (fun e=>?_) (fun fl p fa b u t' l e c=>?_)
  ·refine Zef ?_;walk_at "ev";refine Zpa (hC _ _ ⟨sm1,hil,ts,rfl,?_⟩);rw [take_snoc hy,Z0,hn0];have e1:KB.Z1 F w (y,i)=none:=by
    unfold KB.Z1;cases y with
    | none=>rfl
    | some q'=>simp only;rw [show KB.Yv F q'=none from e];rfl
   rw [e1];simp only [Option.toList_none,List.append_nil];exact qa.same s1
  ·refine Zef ?_;walk_at "ev";refine Zea ?_;obtain ⟨q',rfl⟩:∃ q',y=some q':=by
    cases y with
    | none=>cases e
    | some q'=>exact ⟨q',rfl⟩
   have e':KB.Yv F q'=some fl:=e;walk_at "ev";refine ⟨(by show 1≤sizeLine;decide),fun t2 ht2=>?_⟩;have s2:=s1.trans (lD (o:=.tup [.int i]) ht2);refine ⟨wt,t2,w.map V.int,[.int i],rfl,rfl,Zrh (sm.trans s2),gU.of aq,by simpa using hne,by rw [bu];exact aV (by simp only [List.length_cons,List.length_nil];omega),(fun z=>nomatch z),(fun _ t3 ht3=>?_)⟩;have s3:=s2.trans (lD (o:=.tup (w.map V.int ++ [.int i])) ht3);walk_at "ev";refine ⟨(by show 2≤sizeLine;decide),fun t4 ht4=>?_⟩;have s4:=s3.trans (lD (o:=.tup [oV (some q'),.ref t3]) ht4);have n34:t3≠t4:=aD aq ht4;have h3:upd (upd (upd (upd H1 t (.tup [.int i,oV (some q')])) t2 (.tup [.int i])) t3 (.tup (w.map V.int ++ [.int i]))) t4 (.tup [oV (some q'),.ref t3]) t3=some (.tup (w.map V.int ++ [.int i])):=by
    rw [aB n34,aq]
   walk_at "ev";refine hC _ _ ⟨sm.trans s4,hil,ts ++ [t4],by simp,?_⟩;rw [take_snoc hy,Z0,hn0];have e1:KB.Z1 F w (some q',i)=some (q',w ++ [(i:Int)]):=by
    unfold KB.Z1;simp only [e',Option.isSome_some,↓reduceIte]
   rw [e1];refine (qa.same s4).app ⟨⟨t3,aq,?_⟩,trivial⟩;rw [h3,List.map_append];rfl
 ·rintro ys H1 ⟨sm,_,ts,rfl,qa⟩ l hl;walk_at "ev";rw [bu,List.take_length] at qa;exact q l ts _ (sm.free hl) (sm.trans (lD hl)) aq (qa.same (lD hl))
end
theorem Zrh {K:aC}{H H':Hp}{a:Addr}{xs:List V} (e:aY H H') (h:gU K H a xs):gU K H' a xs:=by
 rcases h with (h | ⟨o,h⟩) | h
 ·exact .inl (.inl (e _ _ h))
 ·exact .inl (.inr ⟨o,e _ _ h⟩)
 ·exact .inr h
def TK (H H':Hp):Prop:=∀ b xs,H b=some (.tup xs)→H' b=some (.tup xs)
theorem TK.same {H H':Hp} (s:aY H H'):TK H H':=fun b _ h=>s b _ h
theorem TK.upd {H:Hp}{a:Addr}{o:HO} (h:∀ xs,H a≠some (.tup xs)):TK H (L2.upd H a o):=fun b xs q=>by
 have n:b≠a:=fun z=>h xs (by rw [← z];exact q);rw [aB n];exact q
theorem TK.trans {H H1 H2:Hp} (a:TK H H1) (b:TK H1 H2):TK H H2:=fun c xs h=>b c xs (a c xs h)
theorem Ff.tk {H H':Hp} (s:TK H H'):∀ {ts:List Addr}{qs:List (Int×List Int)},Ff H ts qs→Ff H' ts qs
 | [],[],_=>trivial
 | [],_ :: _,h=>h.elim
 | _ :: _,[],h=>h.elim
 | _ :: _,_ :: _,⟨⟨a,h1,h2⟩,h3⟩=>⟨⟨a,s _ _ h1,s _ _ h2⟩,Ff.tk s h3⟩
def Vn (H:Hp):List (Key×V)→List (Int×List Int)→Prop
 | [],[]=>True
 | kv :: kvs,x :: qs=>(kv.1=Sum.inl x.1∧∃ a,kv.2=.ref a∧H a=some (.tup (x.2.map V.int)))∧Vn H kvs qs
 | _,_=>False
theorem Vn.tk {H H':Hp} (s:TK H H'):∀ {kvs:List (Key×V)}{qs:List (Int×List Int)},Vn H kvs qs→Vn H' kvs qs
 | [],[],_=>trivial
 | [],_ :: _,h=>h.elim
 | _ :: _,[],h=>h.elim
 | _ :: _,_ :: _,⟨⟨h0,a,h1,h2⟩,h3⟩=>⟨⟨h0,a,h1,s _ _ h2⟩,Vn.tk s h3⟩
theorem Vn.app {H:Hp}:∀ {ks ls:List (Key×V)}{qs rs:List (Int×List Int)},Vn H ks qs→Vn H ls rs→Vn H (ks ++ ls) (qs ++ rs)
 | [],_,[],_,_,h=>h
 | [],_,_ :: _,_,h,_=>h.elim
 | _ :: _,_,[],_,h,_=>h.elim
 | _ :: _,_,_ :: _,_,⟨h1,h3⟩,h=>⟨h1,Vn.app h3 h⟩
theorem Vn.len {H:Hp}:∀ {ts:List (Key×V)}{qs:List (Int×List Int)},Vn H ts qs→ts.length=qs.length
 | [],[],_=>rfl
 | [],_ :: _,h=>h.elim
 | _ :: _,[],h=>h.elim
 | _ :: _,_ :: _,⟨_,h3⟩=>by rw [List.length_cons,List.length_cons,Vn.len h3]
theorem Vn.val {H:Hp} (p:Int):∀ {kvs:List (Key×V)}{qs:List (Int×List Int)},Vn H kvs qs→(rK kvs (Sum.inl p)).isSome=decide (p∈qs.map (·.1))
 | [],[],_=>by simp [rK]
 | [],_ :: _,h=>h.elim
 | _ :: _,[],h=>h.elim
 | kv :: kvs,x :: qs,⟨⟨h0,_⟩,h3⟩=>by
  by_cases e:x.1=p
  ·rw [Fj (by rw [h0,e])];simp [e]
  ·rw [Fl (by rw [h0];exact fun z=>e (Sum.inl.inj z)),Vn.val p h3];simp only [List.map_cons,List.mem_cons];have e':¬ p=x.1:=fun z=>e z.symm;simp only [e',false_or]
theorem Vn.prs {H:Hp}:∀ {ts:List Addr}{kvs:List (Key×V)}{qs:List (Int×List Int)},Vn H kvs qs→Zbm H ts kvs→Ff H ts qs
 | [],[],[],_,_=>trivial
 | _,[],_ :: _,h,_=>h.elim
 | _,_ :: _,[],h,_=>h.elim
 | [],_ :: _,_ :: _,_,h=>h.elim
 | _ :: _,[],[],_,h=>h.elim
 | t :: ts,kv :: kvs,x :: qs,⟨⟨h0,a,h1,h2⟩,h3⟩,⟨p1,p2⟩=>⟨⟨a,by rw [p1,h0,h1];rfl,h2⟩,Vn.prs h3 p2⟩
theorem Znw (F:KB.Fd) (R:KB.Rw) (i:Nat) (r:List (Option Int)) (h:R[i]? =some r):KB.q0 F 0 (R.take (i + 1))=KB.q0 F 0 (R.take i) ++ KB.onw F [(i:Int)] 0 r:=by
 unfold KB.q0;rw [take_snoc h,List.zipIdx_append,List.flatMap_append];have hl:(R.take i).length=i:=by
  have:=(fG h).1;rw [List.length_take];omega
 rw [hl];simp only [List.zipIdx_cons,List.zipIdx_nil,List.flatMap_cons,List.flatMap_nil,List.append_nil,Nat.zero_add]
structure RS (K:aC) (CC CH:Addr) (H0 H:Hp) (ql d:Addr) (F:KB.Fd) (R:KB.Rw) (q qs:List (Int×List Int)) (k:Nat):Prop where
 sm:aY H0 H
 nq:H0 ql=none
 b:KB.Q3 F R q k qs
 hk:k≤q.length
 oq:∃ ts,H ql=some (.lst (ts.map V.ref))∧Ff H ts q
 od:∃ kvs,H d=some (.dK kvs)∧Vn H kvs qs
 nd:H0 d=none
theorem Zld {H:Hp}{a:Addr}{xs:List V}{o:HO} (h:H a=some (.lst xs)):TK H (upd H a o):=TK.upd fun ys z=>by rw [h] at z;cases z
theorem Zvi {H:Hp}{a:Addr}{xs:List (Key×V)}{o:HO} (h:H a=some (.dK xs)):TK H (upd H a o):=TK.upd fun ys z=>by rw [h] at z;cases z
theorem Oi {H0 H:Hp}{a:Addr}{o:HO} (s:aY H0 H) (h:H0 a=none):aY H0 (upd H a o):=fun b u q=>by rw [aB (aD q h)];exact s b u q
theorem Zqm {F:KB.Fd}{R:KB.Rw}{q l:List (Int×List Int)}{k:Nat} (b:KB.Q3 F R q k l):l.length≤k:=by
 induction b with
 | start=>exact Nat.le_refl _
 | old _ _ _ ih=>omega
 | new _ _ _ _ ih=>rw [List.length_append];simp only [List.length_cons,List.length_nil];omega
theorem Zn6 {F:KB.Fd}{R:KB.Rw}{q l:List (Int×List Int)}{k:Nat} (b:KB.Q3 F R q k l):∀ x∈q,x.2.length≤k + 2:=by
 induction b with
 | start=>
  intro x hx;obtain ⟨⟨row,n⟩,hm,h⟩:=List.mem_flatMap.mp hx;obtain ⟨j,_,e,_⟩:=KB.Ng (q:=x.1) (v:=x.2) h;rw [e];simp
 | old _ _ _ ih=>intro x hx;have:=ih x hx;omega
 | new b hq _ _ ih=>
  intro x hx;rcases List.mem_append.mp hx with z | z
  ·have:=ih x z;omega
  ·obtain ⟨j,_,e,_⟩:=KB.Ng (q:=x.1) (v:=x.2) z;have:=ih _ (List.mem_of_getElem? hq);rw [e,List.length_append];simp only [List.length_cons,List.length_nil];simp only at this;omega
theorem Zro (F:KB.Fd):∀ (R S:KB.Rw) (n:Nat),(KB.q0 F n R).length≤(KB.q0 F n (R ++ S)).length:=fun R S n=>by
 unfold KB.q0;rw [List.zipIdx_append,List.flatMap_append,List.length_append];omega
theorem Znv (F:KB.Fd) (R:KB.Rw) (i:Nat):(KB.q0 F 0 (R.take i)).length≤KB.total F R:=by
 have:=Zro F (R.take i) (R.drop i) 0;rw [List.take_append_drop] at this;unfold KB.total;omega
section
variable {K:aC}{aZ aW bM:Addr}{H:Hp}{Q:VK}{E:XK}{n:St→Hp→Prop}{bk ct:St→Hp→Prop}
theorem ZJ {hp ra:Addr}{F:KB.Fd}{rs:List Addr}{R:KB.Rw}{v2 v3 v4 v5 v6 v7 v8:Option V} (T:TxC K aZ aW) (v:HV aZ aW H hp F) (hr:cU K H ra (rs.map V.ref)) (rw':Fb K H rs R) (fw:Few F R)
  (q:∀ l ts q qs H',KB.Q3 F R q q.length qs→H l=none→aY H H'→H' l=some (.lst (ts.map V.ref))→Ff H' ts qs→Q (.ref l) H'):
  yg K (Cj K aZ aW) ⟨n,Q,bk,ct⟩ [some (.ref hp),some (.ref ra),v2,v3,v4,v5,v6,v7,v8] H:=by
 have hrl:=rw'.len;have f1:=fw.r;unfold yg;walk_at "ev";refine ⟨(by show 0≤sizeLine;decide),fun ql hql=>?_⟩;walk_at "ev";refine ⟨ra,rfl,⟨_,(lD hql).seq hr⟩,Zva (rs.map V.ref) (fun i σ Hx=>i≤rs.length∧aY H Hx∧(∃ ts,Hx ql=some (.lst (ts.map V.ref))∧Ff Hx ts (KB.q0 F 0 (R.take i)))∧∃ x y,σ=[some (.ref hp),some (.ref ra),some (.ref ql),x,y,v5,v6,v7,v8])
  ⟨Nat.zero_le _,lD hql,⟨[],aq,trivial⟩,_,_,rfl⟩ (fun i σ Hx _ ⟨_,sm,_⟩=>sm.seq hr) ?_ ?_⟩
 ·rintro i x t σ Hx hx ⟨hi,sm,⟨ts,hts,qa⟩,y,z,rfl⟩ ht;rw [dz] at hx;obtain ⟨r,er,rfl⟩:=Option.map_eq_some_iff.mp hx;obtain ⟨row,eR,hrow⟩:=rw'.at er;have hil:i < rs.length:=(fG er).1;have s1:=lD (o:=.tup [.int i,.ref r]) ht;refine ⟨t,_,rfl,gU.of aq,rfl,.int i,_,rfl,?_⟩;walk_at "ev";refine ⟨.ref r,_,rfl,?_⟩;walk_at "ev";refine ⟨rfl,?_⟩;walk_at "ev";refine ⟨.inl ⟨rfl,_,cU.of (s1 _ _ hts)⟩,?_⟩;walk_at "ev";refine ⟨(by show 1≤sizeLine;decide),fun t2 ht2=>?_⟩;have s2:=s1.trans (lD (o:=.tup [.int i]) ht2);walk_at "ev";refine ⟨hp,r,t2,F,row,[(i:Int)],rfl,v.same (sm.trans s2),(sm.trans s2).seq hrow,gU.of aq,(fun z=>nomatch z),(by show 1≤100000;decide),fw.s _ (List.mem_of_getElem? eR),fun l us H' hl s3 hl' qa'=>?_⟩;have s4:=s2.trans s3;have hq':H' ql=some (.lst (ts.map V.ref)):=s4 _ _ hts;walk_at "ev";have hlen:ts.length≤100000:=by
   rw [qa.len];exact Nat.le_trans (Nat.le_trans (Znv F R i) fw.t) (by decide)
  have hlen2:us.length≤1000:=by
   rw [qa'.len];exact Nat.le_trans KB.M7 (fw.s _ (List.mem_of_getElem? eR))
  refine ⟨ql,l,_,_,rfl,rfl,hq',hl',by rw [bu,bu];exact aV (by omega),?_⟩;walk_at "ev";refine ⟨hil,Oi (sm.trans s4) hql,⟨ts ++ us,by rw [aq,List.map_append],?_⟩,_,_,rfl⟩;rw [Znw F R i row eR];exact ((qa.same s4).app qa').tk (Zld hq')
 ·rintro σ Hx ⟨hi,sm,⟨ts,hts,qa⟩,y,z,rfl⟩;rw [bu,hrl,List.take_length] at qa;walk_at "ev";intro d hd;walk_at "ev";have ndq:d≠ql:=fun e=>by rw [e,hts] at hd;cases hd
  refine ⟨fun m σ Hx=>∃ q qs k x y v7 v8,m=KB.total F R - k∧σ=[some (.ref hp),some (.ref ra),some (.ref ql),x,y,some (.ref d),some (.int (k:Nat)),v7,v8]∧RS K aZ aW H Hx ql d F R q qs k,⟨_,KB.q0 F 0 R,[],0,_,_,_,_,rfl,rfl,?_⟩,?_⟩
  ·exact ⟨sm.trans (lD hd),hql,.start,Nat.zero_le _,⟨ts,by rw [aB ndq.symm];exact hts,qa.same (lD hd)⟩,⟨[],aq,trivial⟩,sm.free hd⟩
  ·rintro m σ Hy ⟨q',qs,k,x,y,v7,v8,rfl,rfl,rs'⟩;obtain ⟨sm',nq,b,hk,⟨ts,hts,qa⟩,⟨kvs,hkv,la⟩,nd⟩:=rs';have hlq:=qa.len;walk_at "ev";refine jV (cU.of hts) ?_;walk_at "ev";have hb:=b.bound;refine wJ (fun z=>?_) (fun z=>?_)
   ·rw [bu] at z;have hkq:k < q'.length:=by omega
    have hq:q'[k]? =some q'[k]:=cj hkq;obtain ⟨t,a,et,ht,hat⟩:=qa.at hq;generalize hx:q'[k]=pw at hq ht hat;obtain ⟨p,w⟩:=pw;refine ⟨fun σ' H'=>∃ q2 qs2 x y v7 v8,σ'=[some (.ref hp),some (.ref ra),some (.ref ql),x,y,some (.ref d),some (.int ((k:Int) + 1)),v7,v8]∧RS K aZ aW H H' ql d F R q2 qs2 (k + 1),?_,?_⟩
    ·rintro σ' H' ⟨q2,qs2,x,y,v7,v8,rfl,r2⟩;exact ⟨KB.total F R - (k + 1),by omega,q2,qs2,k + 1,x,y,v7,v8,rfl,by rw [show ((k + 1:Nat):Int)=(k:Int) + 1 from by omega],r2⟩
    have hix:atI (ts.map V.ref) ((k:Nat):Int)=some (.ref t):=ie (by rw [dz,et];rfl);walk_at "ev";refine j9 (cU.of hts) hix ?_;walk_at "ev";refine ⟨t,_,0,.int p,rfl,rfl,gU.of ht,tL (by decide) rfl,?_⟩;walk_at "ev";refine j9 (cU.of hts) hix ?_;walk_at "ev";refine ⟨t,_,1,.ref a,rfl,rfl,gU.of ht,tL (by decide) rfl,?_⟩;walk_at "ev";refine ⟨d,kvs,_,rfl,.inl hkv,rfl,?_⟩;walk_at "ev";have gd:=b.good.1 _ (List.mem_of_getElem? hq);refine Zsh (fun y=>?_) (fun y=>?_)
    ·have hno:rK kvs (Sum.inl p)=none:=by
      cases e:rK kvs (Sum.inl p) with
      | none=>rfl
      | some _=>rw [e] at y;simp at y
     have hnp:p∉qs.map (·.1):=by
      have:=la.val p;rw [hno] at this;simpa using this
     obtain ⟨fl,hfl⟩:∃ fl,KB.Yv F p=some fl:=Option.isSome_iff_exists.mp gd.there;walk_at "ev";refine ⟨d,_,rfl,Zbz.k (k:=Sum.inl p) hkv ?_,?_⟩
     ·have h2:=la.len;have h3:=Zqm b;have h4:=fw.t;exact Nat.lt_of_le_of_lt (show kvs.length≤1000000 by omega) (show 1000000 < sizeLine by decide)
     rw [Zjz _ hno];have nd':ql≠d:=pI hts hkv (fun z=>by cases z);have s1:aY H (upd Hy d (.dK (kvs ++ [(Sum.inl p,.ref a)]))):=Oi sm' nd;have k1:TK Hy (upd Hy d (.dK (kvs ++ [(Sum.inl p,.ref a)]))):=Zvi hkv;have q1:upd Hy d (.dK (kvs ++ [(Sum.inl p,.ref a)])) ql=some (.lst (ts.map V.ref)):=(aB nd').trans hts;walk_at "ev";refine ⟨.inl ⟨rfl,_,cU.of q1⟩,?_⟩;walk_at "ev";obtain ⟨ca,room,used,born,cs,ho,hl,he⟩:=(v.same s1).ex;have ho':=ho;obtain ⟨⟨dx,o1⟩,o2⟩:=ho';refine aH o1 T.cB T.bL bV ?_;walk_at "ev";rcases Zmm hl he p with ⟨e1,_⟩ | ⟨fl',p',fa,b',u,t',l,e1,_,e3,e4,c⟩
     ·rw [hfl] at e1;cases e1
     rw [hfl] at e1;cases e1;refine j9 (cU.of o2) (tL e4 e3) ?_;obtain ⟨⟨dc,c1⟩,c2⟩:=c;refine aH c1 T.cP T.eO jW ?_;walk_at "ev";have hw:=Zn6 b _ (List.mem_of_getElem? hq);have hgt:=fw.t;refine ⟨hp,fa,a,F,fl,w,rfl,v.same s1,cU.of c2,gU.of (k1 _ _ hat),?_,?_,fw.g p fl hfl,fun l2 us H2 hl2 s2 hl2' qa2=>?_⟩
     ·obtain ⟨r0,s0,fs0,_,e0,_⟩:=gd.ex;intro z;rw [show w=(p,w).2 from rfl,e0] at z;cases z
     ·simp only at hw;omega
     have hq2:H2 ql=some (.lst (ts.map V.ref)):=s2 _ _ q1;have hd2:H2 d=some (.dK (kvs ++ [(Sum.inl p,.ref a)])):=s2 _ _ aq;have k2:=k1.trans (TK.same s2);have k3:TK H2 (upd H2 ql (.lst (ts.map V.ref ++ us.map V.ref))):=Zld hq2;have b2:=KB.Q3.new b hq hnp hfl;have hb2:=b2.bound;rw [List.length_append,← qa2.len,← hlq] at hb2;walk_at "ev";refine ⟨ql,l2,_,_,rfl,rfl,hq2,hl2',by rw [bu,bu];exact aV (by omega),?_⟩;walk_at "ev";refine ⟨_,_,_,_,_,_,rfl,⟨Oi (s1.trans s2) nq,nq,b2,by rw [List.length_append];omega,⟨ts ++ us,by rw [aq,List.map_append],(((qa.tk k2).app qa2).tk k3)⟩,⟨_,by rw [aB nd'.symm];exact hd2,((la.tk k2).app ?_).tk k3⟩,nd⟩⟩;exact ⟨⟨rfl,a,rfl,k2 _ _ hat⟩,trivial⟩
    ·have hin:p∈qs.map (·.1):=by
      have:=la.val p;cases e:rK kvs (Sum.inl p) with
      | none=>rw [e] at y;simp at y
      | some _=>rw [e] at this;simpa using this.symm
     walk_at "ev";exact ⟨_,_,_,_,_,_,rfl,⟨sm',nq,.old b hq hin,by omega,⟨ts,hts,qa⟩,⟨kvs,hkv,la⟩,nd⟩⟩
   ·rw [bu] at z;have hkq:k=q'.length:=by omega
    subst hkq;walk_at "ev";refine ⟨d,kvs,rfl,.inl hkv,fun vw hvw=>?_⟩;walk_at "ev";have s1:=lD (o:=JV vw d) hvw;refine Zph aq (.inl (s1 _ _ hkv)) fun l us H2 hl s2 hl2 pa=>?_;walk_at "ev";exact q l us q' qs H2 b ((sm'.trans s1).free hl) ((sm'.trans s1).trans s2) hl2 ((la.tk (TK.same (s1.trans s2))).prs pa)
end
def fdOf (M:Wm):KB.Fd:=M.cells.map fun o=>o.map (·.fl)
theorem YZ.hv {X:Cs}{H:Hp}{T:Tg}{s:Nat}{A:Wa}{M:Wm} (j:YZ X H T s A M):HV X.C X.H H A.hp (fdOf M):=by
 have hl:=j.jc.lc;refine ⟨A.ca,M.room,M.used,M.born,A.cs.map pV,j.hpO,by unfold fdOf;rw [bu,bu];exact hl,fun i x hx=>?_⟩;unfold fdOf at hx;rw [dz] at hx;obtain ⟨o,ho,rfl⟩:=Option.map_eq_some_iff.mp hx;cases o with
 | none=>
  show (A.cs.map pV)[i]? =some .non;rw [dz,j.jc.at0 ho];rfl
 | some c=>
  obtain ⟨p,hp,ce⟩:=j.jc.at ho;obtain ⟨_,_,o1,o2⟩:=ce;exact ⟨p.1,p.2,c.birth,c.bulk,c.tone,c.load,by rw [dz,hp];rfl,⟨o1,o2⟩⟩
theorem Zml {M:Wm} (x:Int):KB.Yv (fdOf M) x=(cellAt M x).map (·.fl):=by
 unfold KB.Yv fdOf cellAt
 by_cases h:0≤x
 ·rw [if_pos h,if_pos h,dz];cases M.cells[x.toNat]? with
  | none=>rfl
  | some o=>cases o<;>rfl
 ·rw [if_neg h,if_neg h];rfl
section
variable {K:aC}{X:Cs}{H:Hp}{Q:VK}{E:XK}{n:St→Hp→Prop}{bk ct:St→Hp→Prop}
theorem Zhb {hp a wt:Addr}{F:KB.Fd}{ps:List (Option Int)}{w:List Int} (q:HV X.C X.H H hp F∧cU K H a (ps.map oV)∧gU K H wt (w.map V.int)∧w≠[]∧w.length≤100000∧ps.length≤1000∧∀ l ts H',H l=none→aY H H'→H' l=some (.lst (ts.map V.ref))→Ff H' ts (KB.onw F w 0 ps)→Q (.ref l) H'):
  Cu K (dO X.H) ⟨n,Q,bk,ct⟩ [some (.ref hp),some (.ref a),some (.ref wt)] H:=by
 obtain ⟨v,h1,h2,h3,h4,h5,q⟩:=q;exact Zdj v h1 h2 h3 h4 h5 (fun e=>Zrh e h2) q
theorem Zd1 {hp ra:Addr}{F:KB.Fd}{rs:List Addr}{R:KB.Rw} (T:q8 K X) (q:HV X.C X.H H hp F∧cU K H ra (rs.map V.ref)∧Fb K H rs R∧Few F R∧∀ l ts q qs H',KB.Q3 F R q q.length qs→H l=none→aY H H'→H' l=some (.lst (ts.map V.ref))→Ff H' ts qs→Q (.ref l) H'):
  yg K (Cj K X.C X.H) ⟨n,Q,bk,ct⟩ [some (.ref hp),some (.ref ra),none,none,none,none,none,none,none] H:=by
 obtain ⟨v,h1,h2,h3,q⟩:=q;exact ZJ T.c v h1 h2 h3 q
end
theorem toN {x:Int} (h:0≤x):∃ k:Nat,x=k:=⟨x.toNat,by omega⟩
theorem Us (c:Nat):(⟨#[c]⟩:Str).length=1:=rfl
theorem Zu6 (a b:Str):(a ++ b).length=a.length + b.length:=by
 show (a.cps ++ b.cps).size=_;rw [Array.size_append];rfl
theorem Ls {α β:Type}{P:α→β→Prop}:∀ {xs:List α}{ys:List β},xs.length=ys.length→(∀ (i:Nat) x y,xs[i]? =some x→ys[i]? =some y→P x y)→Al P xs ys
 | [],[],_,_=>.nil
 | [],_ :: _,h,_=>by simp at h
 | _ :: _,[],h,_=>by simp at h
 | x :: xs,y :: ys,h,p=>.cons (p 0 x y rfl rfl) (Ls (by simpa using h) fun i a b h1 h2=>p (i + 1) a b (by simpa using h1) (by simpa using h2))
def iY (bits:Int):List (Str×List (Option Int))→Nat→Wm→List Int×Wm
 | [],_,M=>([],M)
 | m :: l,k,M=>if bits / 2 ^ k % 2=1 then ((bz M m.2).1 ++ (iY bits l (k + 1) (bz M m.2).2).1,(iY bits l (k + 1) (bz M m.2).2).2) else iY bits l (k + 1) M
def lsE (x:Int):Nat→Nat→Int
 | _,0=>0
 | i,n + 1=>if x / 2 ^ i % 2=0 then 2 ^ i else lsE x (i + 1) n
def K1 (k:Nat) (lo:Int) (n:Nat):Int:=if k=0 then 0 else if k=1 then lsE lo 0 n else 2 ^ n - 1
theorem Pn (bits:Int) (m:Str×List (Option Int)):∀ (l:List (Str×List (Option Int))) (k:Nat) (M:Wm),iY bits (l ++ [m]) k M=if bits / 2 ^ (k + l.length) % 2=1 then ((iY bits l k M).1 ++ (bz (iY bits l k M).2 m.2).1,(bz (iY bits l k M).2 m.2).2) else iY bits l k M
 | [],k,M=>by
  show (if bits / 2 ^ k % 2=1 then ((bz M m.2).1 ++ [],(bz M m.2).2) else ([],M))=_;rw [List.append_nil];rfl
 | a :: l,k,M=>by
  have e:k + (a :: l).length=k + 1 + l.length:=by rw [List.length_cons];omega
  rw [e,List.cons_append];show (if bits / 2 ^ k % 2=1 then ((bz M a.2).1 ++ (iY bits (l ++ [m]) (k + 1) (bz M a.2).2).1,(iY bits (l ++ [m]) (k + 1) (bz M a.2).2).2) else iY bits (l ++ [m]) (k + 1) M)=_;show _=if bits / 2 ^ (k + 1 + l.length) % 2=1 then (((if bits / 2 ^ k % 2=1 then ((bz M a.2).1 ++ (iY bits l (k + 1) (bz M a.2).2).1,(iY bits l (k + 1) (bz M a.2).2).2) else iY bits l (k + 1) M)).1 ++ (bz (if bits / 2 ^ k % 2=1 then ((bz M a.2).1 ++ (iY bits l (k + 1) (bz M a.2).2).1,(iY bits l (k + 1) (bz M a.2).2).2) else iY bits l (k + 1) M).2 m.2).1,(bz (if bits / 2 ^ k % 2=1 then ((bz M a.2).1 ++ (iY bits l (k + 1) (bz M a.2).2).1,(iY bits l (k + 1) (bz M a.2).2).2) else iY bits l (k + 1) M).2 m.2).2) else (if bits / 2 ^ k % 2=1 then ((bz M a.2).1 ++ (iY bits l (k + 1) (bz M a.2).2).1,(iY bits l (k + 1) (bz M a.2).2).2) else iY bits l (k + 1) M)
  by_cases h:bits / 2 ^ k % 2=1
  ·simp only [if_pos h];rw [Pn bits m l (k + 1)]
   by_cases h2:bits / 2 ^ (k + 1 + l.length) % 2=1
   ·simp only [if_pos h2,List.append_assoc]
   ·simp only [if_neg h2]
  ·simp only [if_neg h];rw [Pn bits m l (k + 1)]
theorem Gp:∀ {l:List (Option Int)}{M:Wm},(bz M l).2.hands=M.hands
 | [],_=>rfl
 | x :: l,M=>by
  show (bz (cN M x).2 l).2.hands=_;rw [Gp,KY]
theorem Bt (bits:Int) (B:Nat):∀ (l:List (Str×List (Option Int))) (k:Nat) (M:Wm),(∀ m∈l,m.2.length≤B)→(iY bits l k M).2.sw.phase=M.sw.phase∧(iY bits l k M).2.sw.grey.length≤M.sw.grey.length + l.length * B∧(iY bits l k M).1.length≤l.length * B∧(iY bits l k M).2.hands=M.hands
 | [],_,_,_=>by simp [iY]
 | m :: l,k,M,h=>by
  have hm:=h m (by simp);have e:(m :: l).length * B=l.length * B + B:=by rw [List.length_cons,Nat.succ_mul]
  unfold iY
  by_cases z:bits / 2 ^ k % 2=1
  ·rw [if_pos z];obtain ⟨a1,a2,a3,a4⟩:=Bt bits B l (k + 1) (bz M m.2).2 fun x hx=>h x (by simp [hx]);obtain ⟨b1,b2⟩:=u6 (l:=m.2) (M:=M);have b3:=yQ (l:=m.2) (M:=M);exact ⟨a1.trans b1,by show (iY bits l (k + 1) (bz M m.2).2).2.sw.grey.length≤_;omega,by show ((bz M m.2).1 ++ _).length≤_;rw [List.length_append];omega,a4.trans Gp⟩
  ·rw [if_neg z];obtain ⟨a1,a2,a3,a4⟩:=Bt bits B l (k + 1) M fun x hx=>h x (by simp [hx]);exact ⟨a1,by omega,by omega,a4⟩
structure Zm (M M':Wm):Prop where
 rm:M'.room=M.room
 us:M'.used=M.used
 bn:M'.born=M.born
 hd:M'.hands=M.hands
 nm:M'.names=M.names
 ww:M'.w=M.w
 tl:M'.tells=M.tells
 sw:∃ g,M'.sw={ M.sw with grey:=g }
 ce:M'.cells.map (fun o=>o.map fun c=>{ c with tone:=0 })=M.cells.map (fun o=>o.map fun c=>{ c with tone:=0 })
theorem Zm.refl (M:Wm):Zm M M:=⟨rfl,rfl,rfl,rfl,rfl,rfl,rfl,⟨_,rfl⟩,rfl⟩
theorem Zm.trans {M M1 M2:Wm} (a:Zm M M1) (b:Zm M1 M2):Zm M M2:=by
 obtain ⟨a1,a2,a3,a4,a5,a6,a7,⟨g,a8⟩,a9⟩:=a;obtain ⟨b1,b2,b3,b4,b5,b6,b7,⟨g',b8⟩,b9⟩:=b;exact ⟨b1.trans a1,b2.trans a2,b3.trans a3,b4.trans a4,b5.trans a5,b6.trans a6,b7.trans a7,⟨g',by rw [b8,a8]⟩,b9.trans a9⟩
theorem Zkn (M:Wm) (x:Option Int):Zm M (cN M x).2:=by
 cases x with
 | none=>exact Zm.refl M
 | some i=>
  unfold cN;dsimp only;cases hc:cellAt M i with
  | none=>exact Zm.refl M
  | some c=>
   dsimp only;split
   ·obtain ⟨h0,h1⟩:=fU.mp hc;refine ⟨rfl,rfl,rfl,rfl,rfl,rfl,rfl,⟨_,rfl⟩,?_⟩;show (M.cells.set i.toNat _).map _=_;rw [List.map_set];refine List.ext_getElem? fun k=>?_
    by_cases z:i.toNat=k
    ·subst z;rw [List.getElem?_set_self (by rw [bu];exact (fG h1).1),dz,h1];rfl
    ·rw [List.getElem?_set_ne z]
   ·exact Zm.refl M
theorem JC:∀ (l:List (Option Int)) (M:Wm),Zm M (bz M l).2
 | [],M=>Zm.refl M
 | x :: l,M=>(Zkn M x).trans (JC l _)
theorem JD (bits:Int):∀ (l:List (Str×List (Option Int))) (k:Nat) (M:Wm),Zm M (iY bits l k M).2
 | [],_,M=>Zm.refl M
 | m :: l,k,M=>by
  unfold iY;split
  ·exact (JC m.2 M).trans (JD bits l (k + 1) _)
  ·exact JD bits l (k + 1) M
theorem Zku (bits:Int) (l:List (Str×List (Option Int))) (k:Nat) (M:Wm):(iY bits l k M).2.sw.turn=M.sw.turn∧(iY bits l k M).2.sw.looked=M.sw.looked∧(iY bits l k M).2.sw.looks=M.sw.looks:=by
 obtain ⟨g,e⟩:=(JD bits l k M).sw;rw [e];exact ⟨rfl,rfl,rfl⟩
theorem Zhg {M:Wm}{x:Option Int} (h:(cN M x).1=none):(cN M x).2=M:=by
 cases x with
 | none=>rfl
 | some i=>
  unfold cN at h ⊢;dsimp only at h ⊢;cases hc:cellAt M i with
  | none=>rfl
  | some c=>
   rw [hc] at h;dsimp only at h ⊢;split
   ·rename_i z
    rw [if_pos z] at h;cases h
   ·rfl
theorem Ph:∀ {l:List (Option Int)}{M:Wm},(bz M l).1=[]→(bz M l).2=M
 | [],_,_=>rfl
 | x :: l,M,h=>by
  have h:ofN (cN M x).1 ++ (bz (cN M x).2 l).1=[]:=h;obtain ⟨h1,h2⟩:=List.append_eq_nil_iff.mp h;have h3:(cN M x).1=none:=by
   cases e:(cN M x).1 with
   | none=>rfl
   | some b=>rw [e] at h1;cases h1
  show (bz (cN M x).2 l).2=M;rw [Ph h2,Zhg h3]
theorem Xg (bits:Int):∀ {l:List (Str×List (Option Int))}{k:Nat}{M:Wm},(iY bits l k M).1=[]→(iY bits l k M).2=M
 | [],_,_,_=>rfl
 | m :: l,k,M,h=>by
  unfold iY at h ⊢;split
  ·rename_i z
   rw [if_pos z] at h;obtain ⟨h1,h2⟩:=List.append_eq_nil_iff.mp h;show (iY bits l (k + 1) (bz M m.2).2).2=M;rw [Xg bits h2,Ph h1]
  ·rename_i z
   rw [if_neg z] at h;exact Xg bits h
theorem Za7:∀ (l:List (Str×List (Option Int))) (k:Nat) (M:Wm),iY 0 l k M=([],M)
 | [],_,_=>rfl
 | m :: l,k,M=>by
  unfold iY;rw [if_neg (by simp),Za7 l (k + 1) M]
def kE (X:Cs):Sp:=fun vs H Q E=>∃ wo bits,vs=[.ref wo,.int bits]∧∃ T s A M,WT H T∧s≠0∧WJ X H T s A M∧A.wo=wo∧(∀ m∈M.hands,m.2.length≤100)∧(M.sw.phase="walk"→M.sw.grey.length≤5000)∧
 ∀ H' T' l,iU s H H' T T'→WJ X H' T' s A (iY bits M.hands 0 M).2→H' l=some (.lst ((iY bits M.hands 0 M).1.map V.int))→H l=none→Q (.ref l) H'
def gW (k:Nat):Sp:=fun vs H Q E=>∃ a lo h,vs=[.ref a,.int lo,.int h]∧0≤h∧h≤30∧Q (.int (K1 k lo h.toNat)) H
section
variable {K:aC}{X:Cs}{H:Hp}{Q:VK}{E:XK}{n:St→Hp→Prop}{bk ct:St→Hp→Prop}
theorem Ko {a:Addr} (q:Q (.bl true) H):qi ⟨n,Q,bk,ct⟩ [some (.ref a)] H:=by
 unfold qi;walk_at "ev";exact q
theorem TF {a:Addr} (q:Q (.bl false) H):wj ⟨n,Q,bk,ct⟩ [some (.ref a)] H:=by
 unfold wj;walk_at "ev";exact q
theorem Cp {a:Addr}{lo h:Int} (q:0≤h∧h≤30∧Q (.int (K1 0 lo h.toNat)) H):mL ⟨n,Q,bk,ct⟩ [some (.ref a),some (.int lo),some (.int h)] H:=by
 unfold mL;walk_at "ev";exact q.2.2
theorem HJ {a:Addr}{lo h:Int} (q:0≤h∧h≤30∧Q (.int (K1 2 lo h.toNat)) H):pB uF ⟨n,Q,bk,ct⟩ [some (.ref a),some (.int lo),some (.int h)] H:=by
 obtain ⟨h0,h1,q⟩:=q;unfold pB;walk_at "ev";exact ⟨h,rfl,h0,h1,q⟩
theorem HS {a:Addr}{lo h:Int} (q:0≤h∧h≤30∧Q (.int (K1 1 lo h.toNat)) H):pD ⟨n,Q,bk,ct⟩ [some (.ref a),some (.int lo),some (.int h),none] H:=by
 obtain ⟨h0,h1,q⟩:=q;have q:Q (.int (lsE lo 0 h.toNat)) H:=q;unfold pD;walk_at "ev";refine ⟨h,rfl,by omega,by omega,?_⟩;refine forR (fun i σ Hx=>∃ v,σ=[some (.ref a),some (.int lo),some (.int h),v]∧Hx=H∧(i≤h.toNat→lsE lo 0 h.toNat=lsE lo i (h.toNat - i))) ⟨none,rfl,rfl,fun _=>rfl⟩ ?_ ?_
 ·rintro i σ Hx hi ⟨v,rfl,rfl,el⟩;have el:=el (by omega);have es:h.toNat - i=(h.toNat - (i + 1)) + 1:=by omega
  rw [es] at el;have ei:lsE lo i (h.toNat - (i + 1) + 1)=if lo / 2 ^ i % 2=0 then 2 ^ i else lsE lo (i + 1) (h.toNat - (i + 1)):=rfl
  rw [ei] at el;have en:((0:Int) + (i:Int)).toNat=i:=by omega
  walk_at "ev";rw [en,Ztl];refine wJ (fun z=>?_) (fun z=>?_)
  ·rw [if_pos z] at el;walk_at "ev";refine i_I (Zr4 (by omega) (by omega)) ?_;rw [en,Int.one_mul,← el];exact q
  ·rw [if_neg z] at el;walk_at "ev";exact ⟨_,rfl,rfl,fun _=>el⟩
 ·rintro σ Hx ⟨v,rfl,rfl,el⟩;have el:=el (Nat.le_refl _);rw [Nat.sub_self] at el;have el:lsE lo 0 h.toNat=0:=el;walk_at "ev";rw [el] at q;exact q
theorem RX {wo:Addr}{bits:Int} (Tx:q8 K X) (q:∃ T s A M,WT H T∧s≠0∧WJ X H T s A M∧A.wo=wo∧(∀ m∈M.hands,m.2.length≤100)∧(M.sw.phase="walk"→M.sw.grey.length≤5000)∧
 ∀ H' T' l,iU s H H' T T'→WJ X H' T' s A (iY bits M.hands 0 M).2→H' l=some (.lst ((iY bits M.hands 0 M).1.map V.int))→H l=none→Q (.ref l) H'):
  vU K (fj X) ⟨n,Q,bk,ct⟩ [some (.ref wo),some (.int bits),none,none,none] H:=by
 obtain ⟨T,s,A,M,w,s0,j,rfl,hs,hg,q⟩:=q;have lh:=j.jd.lh;have l5:=j.jd.l5;unfold vU;walk_at "ev";refine ⟨aV (by simp),fun l hl=>?_⟩;have st1:iU s H (upd H l (.lst [])) T (fM T l (s + 1,1)):=iU.fresh w hl;have j1:WJ X (upd H l (.lst [])) (fM T l (s + 1,1)) s A M:=j.fresh hl;have g1:upd H l (.lst []) l=some (.lst []):=aq;have tl:fM T l (s + 1,1) l=(s + 1,1):=fD;generalize upd H l (.lst [])=H1 at st1 j1 g1 ⊢;generalize fM T l (s + 1,1)=T1 at st1 j1 tl;obtain ⟨dw,ow⟩:=j1.jb.ow;walk_at "ev";refine aH ow Tx.cW Tx.nWd eN ?_;walk_at "ev";refine ⟨A.hl,rfl,⟨_,cU.of j1.jb.on⟩,Zva (A.hs.map fun p=>V.ref p.1) (fun i σ Hx=>∃ T' v3 v4,σ=[some (.ref A.wo),some (.int bits),some (.ref l),v3,v4]∧iU s H Hx T T'∧T' l=(s + 1,1)∧WJ X Hx T' s A (iY bits (M.hands.take i) 0 M).2∧Hx l=some (.lst ((iY bits (M.hands.take i) 0 M).1.map V.int))) ⟨T1,_,_,rfl,st1,tl,j1,g1⟩ (fun _ _ _ _ ⟨_,_,_,_,_,_,z,_⟩=>cU.of z.jb.on) ?_ ?_⟩
 ·rintro i x t σ Hx hx ⟨T2,v3,v4,rfl,st2,tl2,j2,g2⟩ ht;rw [dz] at hx;obtain ⟨p,hp,rfl⟩:=Option.map_eq_some_iff.mp hx;have hil:i < A.hs.length:=(fG hp).1;obtain ⟨m,hm⟩:∃ m,M.hands[i]? =some m:=⟨_,cj (by omega)⟩;have etk:M.hands.take (i + 1)=M.hands.take i ++ [m]:=by rw [List.take_add_one,hm];rfl
  have ltk:(M.hands.take i).length=i:=by rw [List.length_take];omega
  obtain ⟨n1,n2,n3,n4⟩:=Bt bits 100 (M.hands.take i) 0 M fun x hx=>hs x (List.mem_of_mem_take hx);have sn:=Pn bits m (M.hands.take i) 0 M;rw [← etk,Nat.zero_add,ltk] at sn;have s1:=aO ht (.tup [.int i,.ref p.1]);have g1':upd Hx t (.tup [.int i,.ref p.1]) t=some (.tup [.int i,.ref p.1]):=aq;have j3:=j2.same s1;have st3:=st2.trans (iU.same (s:=s) st2.wt s1);have g3:=s1 _ _ g2;generalize upd Hx t (.tup [.int i,.ref p.1])=H3 at s1 g1' j3 st3 g3 ⊢;refine ⟨t,_,rfl,gU.of g1',rfl,.int i,_,rfl,?_⟩;walk_at "ev";refine ⟨.ref p.1,_,rfl,?_⟩;walk_at "ev";refine ⟨rfl,?_⟩;walk_at "ev";rw [Ztl,Int.toNat_natCast];refine wJ (fun z=>?_) (fun z=>?_)
  ·rw [if_pos z] at sn;walk_at "ev";refine ⟨.inl ⟨rfl,_,cU.of g3⟩,?_⟩;have hm3:(iY bits (M.hands.take i) 0 M).2.hands[i]? =some m:=by rw [n4];exact hm
   have hd:=j3.jd.hd i p m hp hm3;obtain ⟨dx,o1⟩:=hd.o1;have Zv7:=hs m (List.mem_of_getElem? hm);have hB:(M.hands.take i).length * 100≤3000:=by rw [ltk];omega
   walk_at "ev";refine aH o1 Tx.cD Tx.nDs uz ?_;walk_at "ev";refine ⟨_,_,rfl,m.2,T2,s,A,_,st3.wt,s0,j3,rfl,.inr (.inl ⟨i,p,m,hp,hm3,rfl,rfl⟩),Zv7,fun y=>?_,fun H4 T4 l4 st4 j4 g4 nl4=>?_⟩
   ·have:=hg (n1.symm.trans y);omega
   have g5:H4 l=some (.lst ((iY bits (M.hands.take i) 0 M).1.map V.int)):=st4.kp _ _ g3 (by rw [tl2];show s + 1≠s;omega);have nl:=yQ (l:=m.2) (M:=(iY bits (M.hands.take i) 0 M).2);walk_at "ev";refine ⟨l,l4,_,_,rfl,rfl,g5,g4,by rw [bu,bu];exact aV (by omega),?_⟩;walk_at "ev";have tl4:T4 l=(s + 1,1):=(st4.tg _ _ g3).trans tl2;refine ⟨T4,_,_,rfl,iU.new (st3.trans st4) hl g5,tl4,?_,?_⟩
   ·rw [sn];exact j4.other (s':=s + 1) (iU.upd st4.wt g5 (by rw [tl4])) (by omega) (by omega)
   ·rw [sn,aq,List.map_append]
  ·rw [if_neg z] at sn;walk_at "ev";exact ⟨T2,_,_,rfl,st3,tl2,by rw [sn];exact j3,by rw [sn];exact g3⟩
 ·rintro σ Hx ⟨T2,v3,v4,rfl,st2,tl2,j2,g2⟩;walk_at "ev";rw [bu,lh,List.take_length] at j2 g2;exact q Hx T2 l st2 j2 g2 hl
end
structure MN (M:Wm):Prop where
 cl:M.cells.length≤900
 hl:∀ m∈M.hands,m.2.length≤100
 fl:∀ c,some c∈M.cells→c.fl.length≤50
 nl:M.names.length≤900
 gl:M.sw.phase="walk"→M.sw.grey.length≤900
 gc:M.sw.phase="walk"→∀ x∈M.sw.grey,∃ c,cellAt M x=some c
 ph:M.sw.phase="rest"∨M.sw.phase="walk"∨M.sw.phase="give"∨M.sw.phase="lost"
 a0:0≤M.sw.at'
def Zn2 (H:Hp) (T:Tg) (M:Wm) (b:Int) (w:List Int):Prop:=∃ a wl,M.sw.loss=.ref a∧T a=(0,0)∧H a=some (.tup [.str "lost",.int b,.ref wl])∧T wl=(0,0)∧H wl=some (.lst (w.map V.int))
def uY (M:Wm) (i:Nat):Option Ce:=((M.cells[i]?).join).bind fun c=>if c.tone=M.sw.sense then none else some c
def sr (M:Wm):List Int:=(List.range M.cells.length).filterMap fun i=>(uY M i).map fun _=>(i:Int)
def su (M:Wm):List Int:=(List.range M.cells.length).filterMap fun i=>(uY M i).map (·.birth)
def iV (M:Wm):Wm:={ M with sw:={ M.sw with stop:=M.cells.length,at':=0 } }
def cJ (M:Wm):Int:=K1 M.w.toNat M.sw.looked M.hands.length
def BV (M:Wm):Prop:=cJ M=0∨(M.w=2∧(iY (cJ M) M.hands 0 M).1=[])
inductive uE (lb:Int) (lw:List Int) (M:Wm):Ev→Wm→Prop
 | begin:M.sw.phase="rest"→uE lb lw M ⟨"begin",some (M.sw.turn + 1),(iY (nj M.w M.hands.length) M.hands 0 (zm M)).1⟩ (iY (nj M.w M.hands.length) M.hands 0 (zm M)).2
 | walk (x:Int) (g:List Int) (c:Ce):M.sw.phase="walk"→M.sw.grey=x :: g→cellAt M x=some c→uE lb lw M ⟨"walk",some c.birth,(bz { M with sw:={ M.sw with grey:=g,walks:=M.sw.walks + 1 } } c.fl).1⟩ (bz { M with sw:={ M.sw with grey:=g,walks:=M.sw.walks + 1 } } c.fl).2
 | look (N:Wm):M.sw.phase="walk"→M.sw.grey=[]→¬ BV M→N=(iY (cJ M) M.hands 0 M).2→uE lb lw M ⟨"look",some (cJ M),(iY (cJ M) M.hands 0 M).1⟩ { N with sw:={ N.sw with looks:=N.sw.looks + 1,looked:=if M.w=2 then N.sw.looked else Builtin.bitOr N.sw.looked (cJ M) } }
 | cut (q qs:List (Int×List Int)):M.sw.phase="walk"→M.sw.grey=[]→BV M→KB.Q3 (fdOf M) (jg M) q q.length qs→(∀ x∈qs,∀ c,cellAt M x.1=some c→c.tone=M.sw.sense)→uE lb lw M ⟨"cut",some (su M).length,su M⟩ { iV M with sw:={ (iV M).sw with phase:="give" } }
 | lost (q qs:List (Int×List Int)) (i:Nat) (x:Int×List Int) (c:Ce) (v:V):M.sw.phase="walk"→M.sw.grey=[]→BV M→KB.Q3 (fdOf M) (jg M) q q.length qs→qs[i]? =some x→(∀ (k:Nat) y d,k < i→qs[k]? =some y→cellAt M y.1=some d→d.tone=M.sw.sense)→cellAt M x.1=some c→c.tone≠M.sw.sense→uE lb lw M ⟨"lost",some c.birth,x.2⟩ { iV M with sw:={ (iV M).sw with phase:="lost",loss:=v } }
 | pass:M.sw.phase="give"→M.sw.at' < M.sw.stop→(∀ c,cellAt M M.sw.at'=some c→c.tone=M.sw.sense)→uE lb lw M ⟨"pass",some M.sw.at',[]⟩ { M with sw:={ M.sw with at':=M.sw.at' + 1,passes:=M.sw.passes + 1 } }
 | back (c:Ce):M.sw.phase="give"→M.sw.at' < M.sw.stop→cellAt M M.sw.at'=some c→c.tone≠M.sw.sense→uE lb lw M ⟨"back",some c.birth,[M.sw.at']⟩ { M with used:=M.used - (1 + c.fl.length + c.bulk),cells:=M.cells.set M.sw.at'.toNat none,sw:={ M.sw with at':=M.sw.at' + 1,passes:=M.sw.passes + 1 } }
 | fin:M.sw.phase="give"→¬ M.sw.at' < M.sw.stop→uE lb lw M ⟨"end",some M.sw.turn,[M.sw.walks,M.sw.looks,M.sw.passes]⟩ { M with sw:={ M.sw with phase:="rest" } }
 | again:M.sw.phase="lost"→uE lb lw M ⟨"lost",some lb,lw⟩ M
def Cg (X:Cs) (P:Wm→Prop) (wo:Addr) (H:Hp) (Q:VK):Prop:=∃ T s A M lb lw,WT H T∧s≠0∧WJ X H T s A M∧A.wo=wo∧MN M∧P M∧(M.sw.phase="lost"→Zn2 H T M lb lw)∧
 ∀ e M',uE lb lw M e M'→∀ H' T' A' a,iU s H H' T T'→WJ X H' T' s A' M'→A'.wo=wo→EvN H H' a e→(M'.sw.phase="lost"→∃ b,e.thing=some b∧Zn2 H' T' M' b e.notes)→Q (.ref a) H'
def bR (X:Cs) (P:Wm→Prop):Sp:=fun vs H Q E=>∃ wo,vs=[.ref wo]∧Cg X P wo H Q
def ZV (M:Wm):Prop:=M.sw.phase="walk"∧M.sw.grey≠[]
def ZX (M:Wm):Prop:=M.sw.phase="walk"∧M.sw.grey=[]
def Zdg (M:Wm):Prop:=M.sw.phase="walk"∧M.sw.grey=[]∧BV M
def ZW (M:Wm):Prop:=M.sw.phase="give"∧M.sw.at' < M.sw.stop
def pEnd (M:Wm):Prop:=M.sw.phase="give"∧¬ M.sw.at' < M.sw.stop
def M6 (z:Str) (M:Wm):Prop:=M.sw.phase=z
def Zkg (_:Wm):Prop:=True
def lX (K:aC):Sp:=fun vs H Q E=>∃ ev,vs=[.ref ev]∧∃ z b l,∃ ns:List Int,H ev=some (.tup [.str z,.int b,.ref l])∧H l=some (.lst (ns.map V.int))∧∀ a l' H',aY H H'→H l'=none→H' a=some (.tup [.str z,.int b,.ref l'])→H' l'=some (.lst (ns.map V.int))→Q (.ref a) H'
def zq (X:Cs):Sp:=fun vs H Q E=>∃ wo,vs=[.ref wo]∧∃ T s A M,WJ X H T s A M∧A.wo=wo∧M.cells.length≤900∧∀ l H',aY H H'→H l=none→H' l=some (.lst ((sr M).map V.int))→Q (.ref l) H'
section
variable {K:aC}{X:Cs}{H:Hp}{Q:VK}{E:XK}{n:St→Hp→Prop}{bk ct:St→Hp→Prop}
theorem Q4 {ev:Addr} (q:∃ z b l,∃ ns:List Int,H ev=some (.tup [.str z,.int b,.ref l])∧H l=some (.lst (ns.map V.int))∧∀ a l' H',aY H H'→H l'=none→H' a=some (.tup [.str z,.int b,.ref l'])→H' l'=some (.lst (ns.map V.int))→Q (.ref a) H'):
  vQ K ⟨n,Q,bk,ct⟩ [some (.ref ev)] H:=by
 obtain ⟨z,b,l,ns,o1,o2,q⟩:=q;unfold vQ;walk_at "ev";refine ⟨ev,_,0,_,rfl,rfl,gU.of o1,rfl,?_⟩;walk_at "ev";refine ⟨ev,_,1,_,rfl,rfl,gU.of o1,rfl,?_⟩;walk_at "ev";refine ⟨ev,_,2,_,rfl,rfl,gU.of o1,rfl,?_⟩;walk_at "ev";refine Ni (cU.of o2) fun l' nl'=>?_;have s1:=aO nl' (.lst (ns.map V.int));have g1:upd H l' (.lst (ns.map V.int)) l'=some (.lst (ns.map V.int)):=aq;generalize upd H l' (.lst (ns.map V.int))=H1 at s1 g1 ⊢;walk_at "ev";refine ⟨aV (by simp),fun a na=>?_⟩;have s2:=aO na (.tup [.str z,.int b,.ref l']);exact q a l' _ (s1.trans s2) nl' aq (s2 _ _ g1)
theorem Hl {α β:Type}{f g:α→Option β}:∀ {l:List α},(∀ x∈l,f x=g x)→l.filterMap f=l.filterMap g
 | [],_=>rfl
 | x :: l,h=>by
  rw [List.filterMap_cons,List.filterMap_cons,h x (by simp),Hl fun y hy=>h y (by simp [hy])]
theorem Ox {α β:Type} (f:α→Option β):∀ (xs:List α),(List.range xs.length).filterMap (fun i=>(xs[i]?).bind f)=xs.filterMap f
 | []=>rfl
 | x :: xs=>by
  rw [List.length_cons,List.range_succ_eq_map,List.filterMap_cons];simp only [List.getElem?_cons_zero,Option.bind_some,List.filterMap_map,List.filterMap_cons];have e:((fun i=>((x :: xs)[i]?).bind f) ∘ Nat.succ)=fun i=>(xs[i]?).bind f:=by
   funext i
   simp
  rw [e,Ox f xs]
theorem Zh6 {A:Wa}{M:Wm}{T:Tg}{s:Nat} (j:WJ X H T s A M) (f:V→Option V) (hf:∀ (i:Nat) (c:Ce),M.cells[i]? =some (some c)→f (.int i)=(uY M i).map fun _=>V.int i):((plc (A.cs.map pV)).map V.int).filterMap f=(sr M).map V.int:=by
 unfold plc sr;rw [List.filterMap_map,List.filterMap_map,List.filterMap_filter,List.map_filterMap,bu,j.jc.lc];refine Hl fun i hi=>?_;have hil:=List.mem_range.mp hi;have e:(A.cs.map pV)[i]? =some V.non↔M.cells[i]? =some none:=by
  constructor
  ·intro z;cases hc:M.cells[i] with
   | none=>rw [cj hil,hc]
   | some c=>
    obtain ⟨p,hp,_⟩:=j.jc.at (i:=i) (c:=c) (by rw [cj hil,hc]);rw [dz,hp] at z;cases z
  ·intro z;rw [dz,j.jc.at0 z];rfl
 by_cases z:M.cells[i]? =some none
 ·rw [if_neg (by simp [e.mpr z])];unfold uY;rw [z];rfl
 ·have hne:¬ (A.cs.map pV)[i]? =some V.non:=fun y=>z (e.mp y);rw [if_pos (by simp only [hne,decide_false,Bool.not_false])];cases hc:M.cells[i] with
  | none=>exact absurd (by rw [cj hil,hc]) z
  | some c=>
   show f (.int (i:Int))=_;rw [hf i c (by rw [cj hil,hc]),Option.map_map];rfl
theorem Zay {wo:Addr} (Tx:q8 K X) (q:∃ T s A M,WJ X H T s A M∧A.wo=wo∧M.cells.length≤900∧∀ l H',aY H H'→H l=none→H' l=some (.lst ((sr M).map V.int))→Q (.ref l) H'):
  An K X.H (tR X.H) (cT X) ⟨n,Q,bk,ct⟩ [some (.ref wo),none] H:=by
 obtain ⟨T,s,A,M,j,rfl,hc,q⟩:=q;obtain ⟨dw,ow⟩:=j.jb.ow;obtain ⟨dh,oh⟩:=j.jh.oh;unfold An;walk_at "ev";refine aH ow Tx.cW Tx.M8 bC ?_;walk_at "ev";refine Ql ?_;walk_at "ev";refine ⟨A.hp,dh,_,rfl,oh,Qp,?_⟩;walk_at "ev";refine ⟨_,rfl,A.ca,M.room,M.used,M.born,_,j.hpO,by rw [bu,j.jc.lc];omega,fun lt nlt=>?_⟩;have s1:=aO nlt (.lst ((plc (A.cs.map pV)).map V.int));have g1:upd H lt (.lst ((plc (A.cs.map pV)).map V.int)) lt=some (.lst ((plc (A.cs.map pV)).map V.int)):=aq;generalize upd H lt (.lst ((plc (A.cs.map pV)).map V.int))=H1 at s1 g1 ⊢;have j1:=j.same s1;have lp:(plc (A.cs.map pV)).length≤900:=by
  unfold plc;rw [bu];refine Nat.le_trans (List.length_filter_le _ _) ?_;rw [List.length_range,bu,j.jc.lc];exact hc
 refine ⟨lt,rfl,⟨_,cU.of g1⟩,?_⟩
 let f:V→Option V:=fun v=>match v with
  | .int p=>(uY M p.toNat).map fun _=>V.int p
  | _=>none
 refine Xj (cU.of g1) (fun i=>(((plc (A.cs.map pV)).map V.int)[i]?).bind f) (by rw [bu];omega) (fun i x hi=>?_) ?_
 ·rw [dz] at hi;obtain ⟨p,hp,rfl⟩:=Option.map_eq_some_iff.mp hi;have hm:=List.mem_of_getElem? hp;unfold plc at hm;obtain ⟨k,hk,rfl⟩:=List.mem_map.mp hm;obtain ⟨hk1,hk2⟩:=List.mem_filter.mp hk;have hkl:k < M.cells.length:=by
   have:=List.mem_range.mp hk1;rw [bu,j.jc.lc] at this;exact this
  obtain ⟨c,hcc⟩:∃ c,M.cells[k]? =some (some c):=by
   cases h3:M.cells[k] with
   | none=>
    exfalso
    have:(A.cs.map pV)[k]? =some V.non:=by rw [dz,j.jc.at0 (i:=k) (by rw [cj hkl,h3])];rfl
    simp [this] at hk2
   | some c=>exact ⟨c,by rw [cj hkl,h3]⟩
  obtain ⟨pp,hpp,ce⟩:=j1.jc.at hcc;have ef:(((plc (A.cs.map pV)).map V.int)[i]?).bind f=(uY M k).map fun _=>V.int (k:Int):=by
   rw [dz,hp];show (uY M (Int.toNat k)).map _=_;rw [Int.toNat_natCast]
  have ep:(uY M k)=if c.tone=M.sw.sense then none else some c:=by unfold uY;rw [hcc];rfl
  obtain ⟨dh1,oh1⟩:=j1.jh.oh;refine ⟨fun q hq=>?_,fun y q hy hq=>?_⟩
  ·rw [ef,ep] at hq;walk_at "caps";walk_at "ev";refine aH oh1 Tx.c.cB Tx.c.bL bV ?_;walk_at "ev";refine j9 (cU.of j1.jh.oc) (ie (v:=.ref pp.1) (by rw [dz,hpp];rfl)) ?_;walk_at "ev";refine ⟨_,_,rfl,T,s,A,M,_,pp,c,j1.w0,rfl,ce,rfl,?_⟩;walk_at "ev"
   by_cases z:c.tone=M.sw.sense
   ·rw [if_pos z] at hq;rw [decide_eq_true z];exact hq
   ·rw [if_neg z] at hq;rw [decide_eq_false z];exact hq
  ·rw [ef] at hy;obtain ⟨_,_,rfl⟩:=Option.map_eq_some_iff.mp hy;walk_at "caps";walk_at "ev";exact hq
 ·intro p np;rw [Ox f,Zh6 j f (fun i c hc=>by show (uY M (Int.toNat i)).map _=_;rw [Int.toNat_natCast])];exact q p _ (s1.trans (aO np _)) (s1.free np) aq
theorem Mg {wo:Addr} (Tx:q8 K X) (q:Cg X (M6 "rest") wo H Q):rY K (Nz X) (kE X) ⟨n,Q,bk,ct⟩ [some (.ref wo),none] H:=by
 obtain ⟨T,s,A,M,lb,lw,w,s0,j,rfl,ok,ph,lo,q⟩:=q;unfold rY;walk_at "ev";refine ⟨_,rfl,T,s,A,M,w,s0,j,rfl,fun H1 T1 A1 st1 j1 aw1=>?_⟩;obtain ⟨dw,ow⟩:=j1.jb.ow;obtain ⟨ds,os⟩:=j1.js.os;rw [aw1] at ow;walk_at "ev";refine aH ow Tx.cW Tx.RZ bw ?_;walk_at "ev";refine aH os Tx.cS Tx.n4 jB ?_;walk_at "ev";refine ⟨_,_,rfl,T1,s,A1,_,st1.wt,s0,j1,aw1,ok.hl,fun _=>Nat.zero_le _,fun H2 T2 l st2 j2 g2 nl2=>?_⟩;have j2:WJ X H2 T2 s A1 (iY (nj M.w M.hands.length) M.hands 0 (zm M)).2:=j2;have g2:H2 l=some (.lst ((iY (nj M.w M.hands.length) M.hands 0 (zm M)).1.map V.int)):=g2;obtain ⟨dw2,ow2⟩:=j2.jb.ow;obtain ⟨ds2,os2⟩:=j2.js.os;rw [aw1] at ow2;have hnt:=Zku (nj M.w M.hands.length) M.hands 0 (zm M);walk_at "ev";refine aH ow2 Tx.cW Tx.RZ bw ?_;walk_at "ev";refine aH os2 Tx.cS Tx.n5 tY ?_;walk_at "ev";refine ⟨aV (by simp),fun a na=>?_⟩;rw [hnt.1];have s3:=aO na (.tup [.str "begin",.int (M.sw.turn + 1),.ref l]);refine q _ _ (.begin ph) _ T2 A1 a (st1.trans (st2.trans (iU.same st2.wt s3))) (j2.same s3) aw1 ⟨l,iU.free st1 nl2,aq,s3 _ _ g2⟩ fun z=>?_;have:=(Bt (nj M.w M.hands.length) 100 M.hands 0 (zm M) ok.hl).1;rw [this] at z;exact absurd z (show ¬ ("walk":Str)="lost" by decide)
end
def tO (X:Cs):Sp:=fun vs H Q E=>∃ wo,vs=[.ref wo]∧∃ T s A M,WT H T∧s≠0∧WJ X H T s A M∧A.wo=wo∧MN M∧
 (∀ q qs H',KB.Q3 (fdOf M) (jg M) q q.length qs→(∀ x∈qs,∀ c,cellAt M x.1=some c→c.tone=M.sw.sense)→aY H H'→Q .non H')∧
 (∀ q qs (i:Nat) x c a wl H',KB.Q3 (fdOf M) (jg M) q q.length qs→qs[i]? =some x→(∀ (k:Nat) y d,k < i→qs[k]? =some y→cellAt M y.1=some d→d.tone=M.sw.sense)→cellAt M x.1=some c→c.tone≠M.sw.sense→aY H H'→H a=none→H wl=none→H' a=some (.tup [.str "lost",.int c.birth,.ref wl])→H' wl=some (.lst (x.2.map V.int))→Q (.ref a) H')
section
variable {K:aC}{X:Cs}{H:Hp}{Q:VK}{E:XK}{n:St→Hp→Prop}{bk ct:St→Hp→Prop}
theorem Zjf {α:Type} (f:α→Nat) (B:Nat):∀ (xs:List α),(∀ x∈xs,f x≤B)→(xs.map f).sum≤xs.length * B
 | [],_=>by simp
 | x :: xs,h=>by
  have h1:=h x (by simp);have h2:=Zjf f B xs fun y hy=>h y (by simp [hy]);rw [List.map_cons,List.sum_cons,List.length_cons,Nat.succ_mul];omega
theorem Zr2 {α β:Type} (f:α→List β) (B:Nat):∀ (xs:List α),(∀ x∈xs,(f x).length≤B)→(xs.flatMap f).length≤xs.length * B
 | [],_=>by simp
 | x :: xs,h=>by
  have h1:=h x (by simp);have h2:=Zr2 f B xs fun y hy=>h y (by simp [hy]);rw [List.flatMap_cons,List.length_append,List.length_cons,Nat.succ_mul];omega
theorem Zta {M:Wm}{T:Tg}{s:Nat}{A:Wa} (j:WJ X H T s A M) (ok:MN M):Few (fdOf M) (jg M):=by
 have l5:=j.jd.l5;have lh:=j.jd.lh;have hl:(heldOf M).length=M.hands.length:=by unfold heldOf;rw [bu]
 have hr:(jg M).length≤31:=by unfold jg;rw [List.length_append,hl,← lh];simp;omega
 have hrow:∀ x∈jg M,x.length≤900:=fun x hx=>by
  unfold jg at hx;rcases List.mem_append.mp hx with hx | hx
  ·obtain ⟨m,hm,rfl⟩:=List.mem_map.mp hx;exact Nat.le_trans (ok.hl m hm) (by decide)
  ·rw [List.mem_singleton.mp hx];unfold ug;rw [bu];exact ok.nl
 have hf:(fdOf M).length=M.cells.length:=by unfold fdOf;rw [bu]
 have hcl:=ok.cl;have hfl:∀ (i:Nat) x,(fdOf M)[i]? =some x→KB.wgt x≤50:=fun i x hx=>by
  unfold fdOf at hx;rw [dz] at hx;obtain ⟨o,ho,rfl⟩:=Option.map_eq_some_iff.mp hx;cases o with
  | none=>exact Nat.zero_le _
  | some c=>exact ok.fl c (List.mem_of_getElem? ho)
 refine ⟨by omega,fun p fl hp=>?_,by omega,fun x hx=>by have:=hrow x hx;omega,?_⟩
 ·rw [Zml] at hp;obtain ⟨c,hc,rfl⟩:=Option.map_eq_some_iff.mp hp;have:=ok.fl c (zb hc);omega
 ·unfold KB.total;have h1:(KB.q0 (fdOf M) 0 (jg M)).length≤31 * 900:=by
   unfold KB.q0;refine Nat.le_trans (Zr2 _ 900 _ fun x hx=>?_) (by rw [List.length_zipIdx];exact Nat.mul_le_mul_right _ hr);refine Nat.le_trans KB.M7 (hrow x.1 ?_);obtain ⟨_,h2⟩:=List.mem_zipIdx_iff_le_and_getElem?_sub.mp hx;exact List.mem_of_getElem? h2
  have h2:KB.Zc3 (fdOf M) []≤900 * 50:=by
   unfold KB.Zc3;refine Nat.le_trans (Zjf _ 50 _ fun x hx=>?_) (by rw [List.length_zipIdx,hf];exact Nat.mul_le_mul_right _ hcl);obtain ⟨_,h2⟩:=List.mem_zipIdx_iff_le_and_getElem?_sub.mp hx;simp only [List.map_nil,List.not_mem_nil,↓reduceIte];exact hfl _ _ h2
  omega
theorem Zfr {M:Wm}:∀ {rows:List (List (Option Int))}{ls:List Addr},ls.length=rows.length→(∀ (j:Nat) r x,ls[j]? =some r→rows[j]? =some x→H r=some (.lst (x.map oV)))→Fb K H ls rows
 | [],[],_,_=>trivial
 | [],_ :: _,h,_=>by simp at h
 | _ :: _,[],h,_=>by simp at h
 | x :: rows,r :: ls,h,g=>⟨cU.of (g 0 r x rfl rfl),Zfr (M:=M) (by simpa using h) fun j r x e1 e2=>g (j + 1) r x (by simpa using e1) (by simpa using e2)⟩
theorem S7 {wo:Addr} (Tx:q8 K X) (q:∃ T s A M,WT H T∧s≠0∧WJ X H T s A M∧A.wo=wo∧MN M∧
 (∀ q qs H',KB.Q3 (fdOf M) (jg M) q q.length qs→(∀ x∈qs,∀ c,cellAt M x.1=some c→c.tone=M.sw.sense)→aY H H'→Q .non H')∧
 (∀ q qs (i:Nat) x c a wl H',KB.Q3 (fdOf M) (jg M) q q.length qs→qs[i]? =some x→(∀ (k:Nat) y d,k < i→qs[k]? =some y→cellAt M y.1=some d→d.tone=M.sw.sense)→cellAt M x.1=some c→c.tone≠M.sw.sense→aY H H'→H a=none→H wl=none→H' a=some (.tup [.str "lost",.int c.birth,.ref wl])→H' wl=some (.lst (x.2.map V.int))→Q (.ref a) H')):
  vW K (cT X) (CP K X.C X.H) (Np X) ⟨n,Q,bk,ct⟩ [some (.ref wo),none,none,none] H:=by
 obtain ⟨T,s,A,M,w,s0,j,rfl,ok,q1,q2⟩:=q;obtain ⟨dw,ow⟩:=j.jb.ow;have l5:=j.jd.l5;have lh:=j.jd.lh;have nl:=ok.nl;unfold vW;walk_at "ev";refine aH ow Tx.cW Tx.M8 bC ?_;walk_at "ev";refine ⟨_,rfl,T,s,A,M,s0,j,rfl,by omega,by omega,fun ra rs H1 s1 nra ora lrs nrs nrl g1=>?_⟩;walk_at "ev";refine ⟨A.hp,ra,fdOf M,rs,jg M,rfl,(j.same s1).w0.hv,cU.of ora,Zfr (M:=M) lrs g1,Zta j ok,fun l ts q qs H2 bf nl2 s2 ol qa=>?_⟩;have s02:=s1.trans s2;have j2:=j.same s02;have good:=bf.good.2;have hlq:=qa.len;obtain ⟨dw2,ow2⟩:=j2.jb.ow;obtain ⟨dh2,oh2⟩:=j2.jh.oh;refine ⟨l,rfl,⟨_,cU.of ol⟩,forL (ts.map V.ref) (fun i σ Hx=>∃ v1 v2 v3,σ=[some (.ref A.wo),v1,v2,v3]∧Hx=H2∧∀ (k:Nat) y d,k < i→qs[k]? =some y→cellAt M y.1=some d→d.tone=M.sw.sense) ⟨_,_,_,rfl,rfl,fun k y d hk=>absurd hk (Nat.not_lt_zero _)⟩ (fun _ _ _ _ ⟨_,_,_,_,z,_⟩=>by rw [z];exact cU.of ol) ?_ ?_⟩
 ·rintro i x σ Hx hi ⟨v1,v2,v3,rfl,rfl,hno⟩;rw [dz] at hi;obtain ⟨t,ht,rfl⟩:=Option.map_eq_some_iff.mp hi;have hil:i < qs.length:=by rw [← hlq];exact (fG ht).1
  obtain ⟨t',wa,et,ot,owa⟩:=qa.at (cj hil);rw [ht] at et;cases et;have hx:qs[i]? =some qs[i]:=cj hil;generalize qs[i]=x at hx ot owa;obtain ⟨fl,hfl⟩:=Option.isSome_iff_exists.mp (good x (List.mem_of_getElem? hx)).there;rw [Zml] at hfl;obtain ⟨c,hc,_⟩:=Option.map_eq_some_iff.mp hfl;obtain ⟨x0,hcc⟩:=fU.mp hc;obtain ⟨pp,hpp,ce⟩:=j2.jc.at hcc;obtain ⟨_,_,⟨dc,oc⟩,_⟩:=id ce;refine ⟨t,_,rfl,gU.of ot,rfl,?_⟩;refine ⟨_,_,rfl,?_⟩;walk_at "ev";refine ⟨_,_,rfl,?_⟩;walk_at "ev";refine ⟨rfl,?_⟩;walk_at "ev";refine aH ow2 Tx.cW Tx.M8 bC ?_;refine aH oh2 Tx.c.cB Tx.c.bL bV ?_;walk_at "ev";refine j9 (cU.of j2.jh.oc) (tL (v:=.ref pp.1) x0 (by rw [dz,hpp];rfl)) ?_;walk_at "ev";refine ⟨_,_,rfl,T,s,A,M,_,pp,c,j2.w0,rfl,ce,rfl,?_⟩;walk_at "ev";refine SN (fun z=>?_) (fun z=>?_)
  ·walk_at "ev";refine aH oc Tx.c.cP Tx.c.dN gA ?_;walk_at "ev";refine Zpg (gU.of owa) fun wl nwl=>?_;have s3:=aO nwl (.lst (x.2.map V.int));have g3:upd Hx wl (.lst (x.2.map V.int)) wl=some (.lst (x.2.map V.int)):=aq;generalize upd Hx wl (.lst (x.2.map V.int))=H3 at s3 g3 ⊢;walk_at "ev";refine ⟨aV (by simp),fun a na=>?_⟩;have s4:=aO na (.tup [.str "lost",.int c.birth,.ref wl]);exact q2 q qs i x c a wl _ bf hx hno hc z (s02.trans (s3.trans s4)) (s02.free (s3.free na)) (s02.free nwl) aq (s4 _ _ g3)
  ·walk_at "ev";refine ⟨_,_,_,rfl,rfl,fun k y d hk e1 e2=>?_⟩
   by_cases h:k < i
   ·exact hno k y d h e1 e2
   ·have:k=i:=by omega
    subst this;rw [hx] at e1;cases e1;rw [hc] at e2;cases e2;exact z
 ·rintro σ Hx ⟨v1,v2,v3,rfl,rfl,hno⟩;rw [bu,hlq] at hno;walk_at "ev";refine q1 q qs Hx bf (fun x hx c hc=>?_) s02;obtain ⟨k,hk,e⟩:=List.getElem_of_mem hx;exact hno k x c hk (by rw [cj hk,e]) hc
theorem Wz {M:Wm}:((sr M).map some).map (DG M)=(su M).map some:=by
 unfold sr su;rw [List.map_map,List.map_filterMap,List.map_filterMap];refine Hl fun i hi=>?_;rw [Option.map_map,Option.map_map];cases hp:uY M i with
 | none=>rfl
 | some c=>
  unfold uY at hp;obtain ⟨d,hd,e⟩:=Option.bind_eq_some_iff.mp hp;have hdc:d=c:=by
   split at e
   ·cases e
   ·exact Option.some.inj e
  subst hdc;show some (DG M (some (i:Int)))=some (some d.birth);have:cellAt M (i:Int)=some d:=by
   unfold cellAt;rw [if_pos (by omega),Int.toNat_natCast,hd]
  show some ((cellAt M (i:Int)).map _)=_;rw [this];rfl
theorem Zde {M:Wm} (h:M.cells.length≤900):(su M).length≤900∧(sr M).length≤900:=by
 unfold su sr;have h1:=List.length_filterMap_le (fun i=>(uY M i).map (·.birth)) (List.range M.cells.length);have h2:=List.length_filterMap_le (fun (i:Nat)=>(uY M i).map fun _=>(i:Int)) (List.range M.cells.length);rw [List.length_range] at h1 h2;exact ⟨by omega,by omega⟩
theorem Ztj {wo:Addr} (Tx:q8 K X) (q:Cg X Zdg wo H Q):Zd4 K (vA X) (tO X) (zq X) (lX K) ⟨n,Q,bk,ct⟩ [some (.ref wo),none,none,none] H:=by
 obtain ⟨T,s,A,M,lb,lw,w,s0,j,rfl,ok,⟨ph,gr,cd⟩,lo,q⟩:=q;obtain ⟨dw,ow⟩:=j.jb.ow;obtain ⟨ds,os⟩:=j.js.os;obtain ⟨dh,oh⟩:=j.jh.oh;have hcl:=ok.cl;unfold Zd4;walk_at "ev";refine aH ow Tx.cW Tx.RZ bw ?_;walk_at "ev";refine aH ow Tx.cW Tx.M8 bC ?_;refine aH oh Tx.c.cB Tx.c.bL bV ?_;walk_at "ev";refine jV (cU.of j.jh.oc) ?_;rw [bu,j.jc.lc];walk_at "ev";refine ⟨A.sw,X.S,ds,_,rfl,os,Tx.cS,Tx.n7,by show 11 < 1000;decide,?_⟩;rw [LK];walk_at "ev";refine ⟨A.sw,X.S,ds,_,rfl,aq,Tx.cS,Tx.n6,by show 11 < 1000;decide,?_⟩;rw [Dk,dY];obtain ⟨st1,j1⟩:=j.sweep w s0 (dx:=ds) { M.sw with stop:=M.cells.length,at':=0 } rfl;have j1:WJ X _ T s A (iV M):=j1;generalize upd H A.sw (.ins X.S ds (bY M.sw.sense M.sw.phase A.gr M.sw.looked M.sw.turn 0 M.cells.length M.sw.walks M.sw.looks M.sw.passes M.sw.loss))=H1 at st1 j1 ⊢;have ok1:MN (iV M):=⟨ok.cl,ok.hl,ok.fl,ok.nl,ok.gl,ok.gc,ok.ph,Int.le_refl _⟩;walk_at "ev";refine ⟨_,rfl,T,s,A,iV M,st1.wt,s0,j1,rfl,ok1,fun q' qs H2 bf hno s2=>?_,fun q' qs i x c a wl H2 bf hx hno hc ht s2 na nwl oa owl=>?_⟩
 ·have j2:=j1.same s2;obtain ⟨dw2,ow2⟩:=j2.jb.ow;obtain ⟨ds2,os2⟩:=j2.js.os;walk_at "ev";refine ⟨A.sw,X.S,ds2,_,rfl,os2,Tx.cS,Tx.n2,by show 11 < 1000;decide,?_⟩;rw [mX];obtain ⟨st3,j3⟩:=j2.sweep (st1.wt.same s2) s0 (dx:=ds2) { (iV M).sw with phase:="give" } rfl;have j3:WJ X _ T s A { iV M with sw:={ (iV M).sw with phase:="give" } }:=j3;generalize upd H2 A.sw (.ins X.S ds2 (bY (iV M).sw.sense "give" A.gr (iV M).sw.looked (iV M).sw.turn (iV M).sw.at' (iV M).sw.stop (iV M).sw.walks (iV M).sw.looks (iV M).sw.passes (iV M).sw.loss))=H3 at st3 j3 ⊢;obtain ⟨dw3,ow3⟩:=j3.jb.ow;obtain ⟨ob,ol⟩:=Zde hcl;walk_at "ev";refine aH ow3 Tx.cW Tx.M8 bC ?_;walk_at "ev";refine ⟨_,rfl,T,s,A,_,j3,rfl,hcl,fun l4 H4 s4 nl4 g4=>?_⟩;have e4:(sr { iV M with sw:={ (iV M).sw with phase:="give" } }).map V.int=((sr M).map some).map oV:=by
   rw [List.map_map];rfl
  rw [e4] at g4;walk_at "ev";refine ⟨A.hp,l4,rfl,T,s,A,_,(sr M).map some,j3.same s4,rfl,g4,by rw [bu];omega,fun l5 nl5=>?_⟩;have e5:(((sr M).map some).map (DG { iV M with sw:={ (iV M).sw with phase:="give" } })).map oV=(su M).map V.int:=by
   have:DG { iV M with sw:={ (iV M).sw with phase:="give" } }=DG M:=by funext x;cases x<;>rfl
   rw [this,Wz,List.map_map];rfl
  rw [e5];have s5:=aO nl5 (.lst ((su M).map V.int));have g5:upd H4 l5 (.lst ((su M).map V.int)) l5=some (.lst ((su M).map V.int)):=aq;generalize upd H4 l5 (.lst ((su M).map V.int))=H5 at s5 g5 ⊢;walk_at "ev";refine jV (cU.of g5) ?_;rw [bu];walk_at "ev";refine ⟨aV (by simp),fun a na=>?_⟩;have s6:=aO na (.tup [.str "cut",.int (su M).length,.ref l5]);have s35:=s4.trans (s5.trans s6);have fr:H l5=none:=iU.free st1 (s2.free (iU.free st3 (s4.free nl5)));exact q _ _ (.cut q' qs ph gr cd bf hno) _ T A a (st1.trans ((iU.same st1.wt s2).trans (st3.trans (iU.same st3.wt s35)))) (j3.same s35) rfl ⟨l5,fr,aq,s6 _ _ g5⟩ fun z=>absurd z (show ¬ ("give":Str)="lost" by decide)
 ·have j2:=j1.same s2;have w2:=st1.wt.same s2;obtain ⟨ds2,os2⟩:=j2.js.os;walk_at "ev";refine ⟨A.sw,X.S,ds2,_,rfl,os2,Tx.cS,Tx.n2,by show 11 < 1000;decide,?_⟩;rw [mX];walk_at "ev";refine ⟨A.sw,X.S,ds2,_,rfl,aq,Tx.cS,Tx.n11,by show 11 < 1000;decide,?_⟩;rw [LQ,dY];obtain ⟨st3,j3⟩:=j2.sweep w2 s0 (dx:=ds2) { (iV M).sw with phase:="lost",loss:=.ref a } rfl;have j3:WJ X _ T s A { iV M with sw:={ (iV M).sw with phase:="lost",loss:=.ref a } }:=j3;have ta:T a=(0,0):=st1.wt _ na;have tw:T wl=(0,0):=st1.wt _ nwl;have oa3:upd H2 A.sw (.ins X.S ds2 (bY (iV M).sw.sense "lost" A.gr (iV M).sw.looked (iV M).sw.turn (iV M).sw.at' (iV M).sw.stop (iV M).sw.walks (iV M).sw.looks (iV M).sw.passes (.ref a))) a=some (.tup [.str "lost",.int c.birth,.ref wl]):=(aB (pI oa os2 (fun z=>by cases z))).trans oa;have Zrs:upd H2 A.sw (.ins X.S ds2 (bY (iV M).sw.sense "lost" A.gr (iV M).sw.looked (iV M).sw.turn (iV M).sw.at' (iV M).sw.stop (iV M).sw.walks (iV M).sw.looks (iV M).sw.passes (.ref a))) wl=some (.lst (x.2.map V.int)):=(aB (pI owl os2 (fun z=>by cases z))).trans owl;generalize upd H2 A.sw (.ins X.S ds2 (bY (iV M).sw.sense "lost" A.gr (iV M).sw.looked (iV M).sw.turn (iV M).sw.at' (iV M).sw.stop (iV M).sw.walks (iV M).sw.looks (iV M).sw.passes (.ref a)))=H3 at st3 j3 oa3 Zrs ⊢;walk_at "ev";refine ⟨a,rfl,"lost",c.birth,wl,x.2,oa3,Zrs,fun a' l' H4 s4 nl' oa' ol'=>?_⟩;have fr:H l'=none:=iU.free st1 (s2.free (iU.free st3 nl'));exact q _ _ (.lost q' qs i x c (.ref a) ph gr cd bf hx hno hc ht) _ T A a' (st1.trans ((iU.same st1.wt s2).trans (st3.trans (iU.same st3.wt s4)))) (j3.same s4) rfl ⟨l',fr,oa',ol'⟩ fun _=>⟨c.birth,rfl,a,wl,rfl,ta,s4 _ _ oa3,tw,s4 _ _ Zrs⟩
end
section
variable {K:aC}{X:Cs}{H:Hp}{Q:VK}{E:XK}{n:St→Hp→Prop}{bk ct:St→Hp→Prop}
theorem Zn7 {wo:Addr} (Tx:q8 K X) (q:Cg X ZV wo H Q):Wo K (fj X) ⟨n,Q,bk,ct⟩ [some (.ref wo),none,none] H:=by
 obtain ⟨T,s,A,M,lb,lw,w,s0,j,rfl,ok,⟨ph,gr⟩,lo,q⟩:=q;obtain ⟨dw,ow⟩:=j.jb.ow;obtain ⟨ds,os⟩:=j.js.os;obtain ⟨dh,oh⟩:=j.jh.oh;have og:=j.js.og;cases hg:M.sw.grey with
 | nil=>exact absurd hg gr
 | cons x g=>
  obtain ⟨c,hc⟩:=ok.gc ph x (by rw [hg];simp);obtain ⟨x0,hcc⟩:=fU.mp hc;have hgl:=ok.gl ph;have hfl:=ok.fl c (zb hc);rw [hg] at og;unfold Wo;walk_at "ev";refine aH ow Tx.cW Tx.RZ bw ?_;walk_at "ev";refine aH ow Tx.cW Tx.M8 bC ?_;refine aH oh Tx.c.cB Tx.c.bL bV ?_;walk_at "ev";refine aH os Tx.cS Tx.n3 tZ ?_;walk_at "ev";refine ⟨.inl ⟨rfl,_,cU.of og⟩,?_⟩;walk_at "ev";refine ⟨A.gr,_,0,0,.int x,rfl,rfl,og,by decide,by decide,by simp [seqIndex?],rfl,?_⟩;obtain ⟨st1,j1⟩:=j.Zqz w s0 (g:=g);show nH K _ _ (upd H A.gr (.lst (g.map V.int))) _;generalize upd H A.gr (.lst (g.map V.int))=H1 at st1 j1 ⊢;obtain ⟨pp,hpp,ce⟩:=j1.jc.at (i:=x.toNat) (c:=c) hcc;refine j9 (cU.of j1.jh.oc) (tL (v:=.ref pp.1) x0 (by rw [dz,hpp];rfl)) ?_;obtain ⟨ds1,os1⟩:=j1.js.os;walk_at "ev";refine aH os1 Tx.cS Tx.n8 zF ?_;walk_at "ev";refine ⟨A.sw,X.S,ds1,_,rfl,os1,Tx.cS,Tx.n8,by show 11 < 1000;decide,?_⟩;rw [xg];obtain ⟨st2,j2⟩:=j1.sweep st1.wt s0 (dx:=ds1) { M.sw with grey:=g,walks:=M.sw.walks + 1 } rfl;have j2:WJ X _ T s A { M with sw:={ M.sw with grey:=g,walks:=M.sw.walks + 1 } }:=j2;generalize upd H1 A.sw _=H2 at st2 j2 ⊢;obtain ⟨pp2,Zv6,ce2⟩:=j2.jc.at (i:=x.toNat) (c:=c) hcc;rw [hpp] at Zv6;cases Zv6;obtain ⟨_,_,⟨dc,oc⟩,of'⟩:=id ce2;walk_at "ev";refine aH oc Tx.c.cP Tx.c.dN gA ?_;walk_at "ev";refine aH oc Tx.c.cP Tx.c.eO jW ?_;walk_at "ev";refine ⟨_,_,rfl,c.fl,T,s,A,_,st2.wt,s0,j2,rfl,.inr (.inr ⟨x.toNat,pp,c,hpp,hcc,rfl,rfl⟩),by omega,fun _=>?_,fun H3 T3 l st3 j3 g3 nl3=>?_⟩
  ·show g.length≤10000;rw [hg,List.length_cons] at hgl;omega
  walk_at "ev";refine ⟨aV (by simp),fun a na=>?_⟩;have s4:=aO na (.tup [.str "walk",.int c.birth,.ref l]);refine q _ _ (.walk x g c ph hg hc) _ T3 A a (st1.trans (st2.trans (st3.trans (iU.same st3.wt s4)))) (j3.same s4) rfl ⟨l,iU.free st1 (iU.free st2 nl3),aq,s4 _ _ g3⟩ fun z=>?_;rw [(u6 (l:=c.fl) (M:={ M with sw:={ M.sw with grey:=g,walks:=M.sw.walks + 1 } })).1] at z;exact absurd (ph.symm.trans z) (show ¬ ("walk":Str)="lost" by decide)
theorem Rz {wo:Addr} (Tx:q8 K X) (q:Cg X ZW wo H Q):vR K X.H (rH X.C X.H) (dO X.H) (cT X) ⟨n,Q,bk,ct⟩ [some (.ref wo),none,none,none] H:=by
 obtain ⟨T,s,A,M,lb,lw,w,s0,j,rfl,ok,⟨ph,lt⟩,lo,q⟩:=q;obtain ⟨dw,ow⟩:=j.jb.ow;obtain ⟨ds,os⟩:=j.js.os;unfold vR;walk_at "ev";refine aH ow Tx.cW Tx.RZ bw ?_;walk_at "ev";refine aH os Tx.cS Tx.n6 Ft ?_;walk_at "ev";refine ⟨A.sw,X.S,ds,_,rfl,os,Tx.cS,Tx.n6,by show 11 < 1000;decide,?_⟩;rw [Dk];walk_at "ev";refine aH aq Tx.cS Tx.n10 xj ?_;walk_at "ev";refine ⟨A.sw,X.S,ds,_,rfl,aq,Tx.cS,Tx.n10,by show 11 < 1000;decide,?_⟩;rw [uP,dY];obtain ⟨st1,j1⟩:=j.sweep w s0 (dx:=ds) { M.sw with at':=M.sw.at' + 1,passes:=M.sw.passes + 1 } rfl;generalize upd H A.sw _=H1 at st1 j1 ⊢;obtain ⟨dw1,ow1⟩:=j1.jb.ow;obtain ⟨dh1,oh1⟩:=j1.jh.oh;walk_at "ev";refine aH ow1 Tx.cW Tx.M8 bC ?_;walk_at "ev";refine ⟨_,_,rfl,xq (some M.sw.at'),_,_,_,_,_,j1.hpO,?_⟩;have pas:(∀ c,cellAt M M.sw.at'=some c→c.tone=M.sw.sense)→∀ l a H2,H1 l=none→aY H1 H2→H2 a=some (.tup [.str "pass",.int M.sw.at',.ref l])→H2 l=some (.lst [])→Q (.ref a) H2:=fun hp l a H2 nl s2 oa ol=>
  q _ _ (.pass ph lt hp) _ T A a (st1.trans (iU.same st1.wt s2)) (j1.same s2) rfl ⟨l,iU.free st1 nl,oa,ol⟩ fun z=>absurd (ph.symm.trans z) (show ¬ ("give":Str)="lost" by decide)
 rcases j1.look (some M.sw.at') with ⟨e1,e2⟩ | ⟨i,c,pp,ei,h0,ec,hcc,hpp,e2,ce⟩
 ·have e1:cellAt M M.sw.at'=none:=e1;rw [show atO (A.cs.map pV) (.int M.sw.at')=.non from e2];walk_at "ev";refine ⟨aV (by simp),fun l nl=>⟨aV (by simp),fun a na=>?_⟩⟩;have s2:=aO nl (.lst []);have s3:=aO na (.tup [.str "pass",.int M.sw.at',.ref l]);exact pas (fun c hc=>by rw [e1] at hc;cases hc) l a _ nl (s2.trans s3) aq (s3 _ _ aq)
 ·cases ei;have ec:cellAt M M.sw.at'=some c:=ec;rw [show atO (A.cs.map pV) (.int M.sw.at')=.ref pp.1 from e2];walk_at "ev";refine ⟨_,_,rfl,T,s,A,_,_,pp,c,j1.w0,rfl,ce,rfl,?_⟩
  by_cases z:c.tone=M.sw.sense
  ·rw [decide_eq_true (show c.tone=({ M.sw with at':=M.sw.at' + 1,passes:=M.sw.passes + 1 }:Sw).sense from z)];walk_at "ev";refine ⟨aV (by simp),fun l nl=>⟨aV (by simp),fun a na=>?_⟩⟩;have s2:=aO nl (.lst []);have s3:=aO na (.tup [.str "pass",.int M.sw.at',.ref l]);exact pas (fun d hd=>by rw [ec] at hd;cases hd;exact z) l a _ nl (s2.trans s3) aq (s3 _ _ aq)
  ·rw [decide_eq_false (show ¬ c.tone=({ M.sw with at':=M.sw.at' + 1,passes:=M.sw.passes + 1 }:Sw).sense from z)];obtain ⟨k,ek⟩:=toN h0;have hk:M.cells[k]? =some (some c):=by rw [ek,Int.toNat_natCast] at hcc;exact hcc
   walk_at "ev";refine aH ow1 Tx.cW Tx.M8 bC ?_;walk_at "ev";refine ⟨A.hp,dh1,_,rfl,oh1,S5,?_⟩;walk_at "ev";rw [ek];refine Zie j1 st1.wt s0 hk fun H2 A2 st2 j2 aw2=>?_;walk_at "ev";refine ⟨aV (by simp),fun l nl=>⟨aV (by simp),fun a na=>?_⟩⟩;have s3:=aO nl (.lst [.int (k:Int)]);have s4:=aO na (.tup [.str "back",.int c.birth,.ref l]);have s34:=s3.trans s4;have rr:=uE.back (lb:=lb) (lw:=lw) (M:=M) c ph lt ec z;rw [ek,Int.toNat_natCast] at rr;rw [ek] at j2;exact q _ _ rr _ T A2 a (st1.trans (st2.trans (iU.same st2.wt s34))) (j2.same s34) aw2 ⟨l,iU.free st1 (iU.free st2 nl),aq,s4 _ _ aq⟩ fun y=>absurd (ph.symm.trans y) (show ¬ ("give":Str)="lost" by decide)
theorem Ztf {wo:Addr} (Tx:q8 K X) (q:Cg X pEnd wo H Q):Zd3 K ⟨n,Q,bk,ct⟩ [some (.ref wo),none] H:=by
 obtain ⟨T,s,A,M,lb,lw,w,s0,j,rfl,ok,⟨ph,lt⟩,lo,q⟩:=q;obtain ⟨dw,ow⟩:=j.jb.ow;obtain ⟨ds,os⟩:=j.js.os;unfold Zd3;walk_at "ev";refine aH ow Tx.cW Tx.RZ bw ?_;walk_at "ev";refine ⟨A.sw,X.S,ds,_,rfl,os,Tx.cS,Tx.n2,by show 11 < 1000;decide,?_⟩;rw [mX];obtain ⟨st1,j1⟩:=j.sweep w s0 (dx:=ds) { M.sw with phase:="rest" } rfl;generalize upd H A.sw _=H1 at st1 j1 ⊢;obtain ⟨ds1,os1⟩:=j1.js.os;walk_at "ev";refine aH os1 Tx.cS Tx.n5 tY ?_;walk_at "ev";refine aH os1 Tx.cS Tx.n8 zF ?_;walk_at "ev";refine aH os1 Tx.cS Tx.n9 rM ?_;walk_at "ev";refine aH os1 Tx.cS Tx.n10 xj ?_;walk_at "ev";refine ⟨aV (by simp),fun l nl=>⟨aV (by simp),fun a na=>?_⟩⟩;have s2:=aO nl (.lst [.int M.sw.walks,.int M.sw.looks,.int M.sw.passes]);have s3:=aO na (.tup [.str "end",.int M.sw.turn,.ref l]);have s23:=s2.trans s3;exact q _ _ (.fin ph lt) _ T A a (st1.trans (iU.same st1.wt s23)) (j1.same s23) rfl ⟨l,iU.free st1 nl,aq,s3 _ _ aq⟩ fun z=>absurd z (show ¬ ("rest":Str)="lost" by decide)
theorem Mf {wo:Addr} (Tx:q8 K X) (q:Cg X (M6 "give") wo H Q):rW K (bR X pEnd) (bR X ZW) ⟨n,Q,bk,ct⟩ [some (.ref wo)] H:=by
 obtain ⟨T,s,A,M,lb,lw,w,s0,j,rfl,ok,ph,lo,q⟩:=q;obtain ⟨dw,ow⟩:=j.jb.ow;obtain ⟨ds,os⟩:=j.js.os;unfold rW;walk_at "ev";refine aH ow Tx.cW Tx.RZ bw ?_;walk_at "ev";refine aH os Tx.cS Tx.n6 Ft ?_;walk_at "ev";refine aH ow Tx.cW Tx.RZ bw ?_;walk_at "ev";refine aH os Tx.cS Tx.n7 N5 ?_;walk_at "ev";refine wJ (fun z=>?_) (fun z=>?_)
 ·walk_at "ev";exact ⟨_,rfl,T,s,A,M,lb,lw,w,s0,j,rfl,ok,⟨ph,z⟩,lo,q⟩
 ·walk_at "ev";exact ⟨_,rfl,T,s,A,M,lb,lw,w,s0,j,rfl,ok,⟨ph,z⟩,lo,q⟩
theorem Ma {wo:Addr} (Tx:q8 K X) (q:Cg X (M6 "walk") wo H Q):rT K (bR X ZX) (bR X ZV) ⟨n,Q,bk,ct⟩ [some (.ref wo)] H:=by
 obtain ⟨T,s,A,M,lb,lw,w,s0,j,rfl,ok,ph,lo,q⟩:=q;obtain ⟨dw,ow⟩:=j.jb.ow;obtain ⟨ds,os⟩:=j.js.os;unfold rT;walk_at "ev";refine aH ow Tx.cW Tx.RZ bw ?_;walk_at "ev";refine aH os Tx.cS Tx.n3 tZ ?_;refine Zu3 (cU.of j.js.og) ?_;cases hg:M.sw.grey with
 | nil=>
  refine X4 ?_;walk_at "ev";exact ⟨_,rfl,T,s,A,M,lb,lw,w,s0,j,rfl,ok,⟨ph,hg⟩,lo,q⟩
 | cons x g=>
  refine Zeg ?_;walk_at "ev";exact ⟨_,rfl,T,s,A,M,lb,lw,w,s0,j,rfl,ok,⟨ph,by rw [hg];simp⟩,lo,q⟩
theorem Fx {wo:Addr} (Tx:q8 K X) (q:Cg X (M6 "lost") wo H Q):o8 K (lX K) ⟨n,Q,bk,ct⟩ [some (.ref wo)] H:=by
 obtain ⟨T,s,A,M,lb,lw,w,s0,j,rfl,ok,ph,lo,q⟩:=q;obtain ⟨dw,ow⟩:=j.jb.ow;obtain ⟨ds,os⟩:=j.js.os;obtain ⟨la,wl,e1,t1,o1,t2,o2⟩:=lo ph;rw [e1] at os;unfold o8;walk_at "ev";refine aH ow Tx.cW Tx.RZ bw ?_;walk_at "ev";refine aH os Tx.cS Tx.n11 N6 ?_;walk_at "ev";refine ⟨la,rfl,"lost",lb,wl,lw,o1,o2,fun a l H1 s1 nl oa ol=>?_⟩;exact q _ _ (.again ph) _ T A a (iU.same w s1) (j.same s1) rfl ⟨l,nl,oa,ol⟩ fun _=>⟨lb,rfl,la,wl,e1,t1,s1 _ _ o1,t2,s1 _ _ o2⟩
theorem Zna {wo f1 f2 f3 f4:Addr} (Tx:q8 K X) (q:Cg X Zkg wo H Q):Wq K f1 f2 f3 f4 (bR X (M6 "rest")) (bR X (M6 "give")) (bR X (M6 "walk")) (bR X (M6 "lost")) ⟨n,Q,bk,ct⟩ [some (.ref wo),none] H:=by
 obtain ⟨T,s,A,M,lb,lw,w,s0,j,rfl,ok,_,lo,q⟩:=q;obtain ⟨dw,ow⟩:=j.jb.ow;obtain ⟨ds,os⟩:=j.js.os;unfold Wq;walk_at "ev";refine aH ow Tx.cW Tx.RZ bw ?_;walk_at "ev";refine aH os Tx.cS Tx.n2 mz ?_;rcases ok.ph with ph | ph | ph | ph
 ·rw [ph];refine ⟨_,f1,rfl,rfl,?_⟩;walk_at "ev";refine mH (bR X (M6 "rest")) rfl (by simp) ?_;walk_at "ev";exact ⟨_,rfl,T,s,A,M,lb,lw,w,s0,j,rfl,ok,ph,lo,q⟩
 ·rw [ph];refine ⟨_,f3,rfl,rfl,?_⟩;walk_at "ev";refine mH (bR X (M6 "walk")) rfl (by simp) ?_;walk_at "ev";exact ⟨_,rfl,T,s,A,M,lb,lw,w,s0,j,rfl,ok,ph,lo,q⟩
 ·rw [ph];refine ⟨_,f2,rfl,rfl,?_⟩;walk_at "ev";refine mH (bR X (M6 "give")) rfl (by simp) ?_;walk_at "ev";exact ⟨_,rfl,T,s,A,M,lb,lw,w,s0,j,rfl,ok,ph,lo,q⟩
 ·rw [ph];refine ⟨_,f4,rfl,rfl,?_⟩;walk_at "ev";refine mH (bR X (M6 "lost")) rfl (by simp) ?_;walk_at "ev";exact ⟨_,rfl,T,s,A,M,lb,lw,w,s0,j,rfl,ok,ph,lo,q⟩
end
section
variable {K:aC}{X:Cs}{H:Hp}{Q:VK}{E:XK}{n:St→Hp→Prop}{bk ct:St→Hp→Prop}
theorem N7 {A:Wa}{w:Int}{σ:St}{te:TE}{q:Bool→Hp→Prop} (ol:∃ dx,(w=0∧H A.lk=some (.ins X.F dx []))∨(w=1∧H A.lk=some (.ins X.E dx []))∨(w=2∧H A.lk=some (.ins X.L dx []))) (hte:∀ Q':VK,Q' (.ref A.lk) H→te σ H Q') (h:q (decide (w≠2)) H):
  tB (G.Ia (lC X.F "stays" (qJ (.bl true)) [] E0 te aG) (G.Ia (lC X.E "stays" (qJ (.bl true)) [] E0 te aG) (lC X.L "stays" (qJ (.bl false)) [] E0 te aG))) σ H q:=by
 refine Zus ?_;obtain ⟨dl,⟨ew,o⟩ | ⟨ew,o⟩ | ⟨ew,o⟩⟩:=ol
 ·rw [show decide (w≠2)=true from decide_eq_true (by omega)] at h;refine U0 ?_;walk_at "es";refine hte _ ?_;refine ⟨A.lk,dl,_,rfl,o,rfl,?_⟩;walk_at "es";exact ⟨_,rfl,i_B h⟩
 ·rw [show decide (w≠2)=true from decide_eq_true (by omega)] at h;refine Hi (U0 ?_);walk_at "es";refine hte _ ?_;refine ⟨A.lk,dl,_,rfl,o,rfl,?_⟩;walk_at "es";exact ⟨_,rfl,i_B h⟩
 ·rw [show decide (w≠2)=false from decide_eq_false (by omega)] at h;refine Hi (Hi ?_);walk_at "es";refine hte _ ?_;refine ⟨A.lk,dl,_,rfl,o,rfl,?_⟩;walk_at "es";exact ⟨_,rfl,i_B h⟩
theorem Zhr {T:Tg}{s:Nat}{A:Wa}{M:Wm}{lb:Int}{lw:List Int} (Tx:q8 K X) (w:WT H T) (s0:s≠0) (j:WJ X H T s A M) (ok:MN M) (ph:M.sw.phase="walk") (gr:M.sw.grey=[])
  (q:∀ e M',uE lb lw M e M'→∀ H' T' A' a,iU s H H' T T'→WJ X H' T' s A' M'→A'.wo=A.wo→EvN H H' a e→(M'.sw.phase="lost"→∃ b,e.thing=some b∧Zn2 H' T' M' b e.notes)→Q (.ref a) H'):
  nD K X.E X.F X.L (qJ (.bl false)) (qJ (.bl true)) (bR X Zdg) (kE X) ⟨n,Q,bk,ct⟩ [some (.ref A.wo),some (.ref A.sw),some (.ref A.lk),some (.int (cJ M)),none] H:=by
 unfold nD;walk_at "ev";refine ⟨_,_,rfl,T,s,A,M,w,s0,j,rfl,ok.hl,fun _=>by rw [gr];exact Nat.zero_le _,fun H1 T1 l st1 j1 g1 nl=>?_⟩;have nt:=JD (cJ M) M.hands 0 M;have ww:=nt.ww;have ol:=j1.jb.ol;rw [ww] at ol;have Zvk:BV M→bR X Zdg [.ref A.wo] H1 Q E0:=fun cd=>by
  have e:(iY (cJ M) M.hands 0 M).2=M:=by
   rcases cd with z | ⟨_,z⟩
   ·rw [z,Za7]
   ·exact Xg _ z
  rw [e] at j1;refine ⟨_,rfl,T1,s,A,M,lb,lw,st1.wt,s0,j1,rfl,ok,⟨ph,gr,cd⟩,fun z=>absurd (ph.symm.trans z) (by decide),fun e' M' r H' T' A' a st' j' aw' ev' lo'=>?_⟩;obtain ⟨l',nl',o1,o2⟩:=ev';exact q e' M' r H' T' A' a (st1.trans st') j' aw' ⟨l',iU.free st1 nl',o1,o2⟩ lo'
 have Li:¬ BV M→∀ (lo:Int),lo=(if M.w=2 then (iY (cJ M) M.hands 0 M).2.sw.looked else Builtin.bitOr (iY (cJ M) M.hands 0 M).2.sw.looked (cJ M))→∀ H2,iU s H1 H2 T1 T1→WJ X H2 T1 s A { (iY (cJ M) M.hands 0 M).2 with sw:={ (iY (cJ M) M.hands 0 M).2.sw with looks:=(iY (cJ M) M.hands 0 M).2.sw.looks + 1,looked:=lo } }→H2 l=some (.lst ((iY (cJ M) M.hands 0 M).1.map V.int))→∀ a,H2 a=none→Q (.ref a) (upd H2 a (.tup [.str "look",.int (cJ M),.ref l])):=fun nc lo elo H2 st2 j2 g2 a na=>by
  have s3:=aO na (.tup [.str "look",.int (cJ M),.ref l]);subst elo;refine q _ _ (.look _ ph gr nc rfl) _ T1 A a (st1.trans (st2.trans (iU.same st2.wt s3))) (j2.same s3) rfl ⟨l,nl,aq,s3 _ _ g2⟩ fun z=>?_;have:=(Bt (cJ M) 100 M.hands 0 M ok.hl).1;have z:(iY (cJ M) M.hands 0 M).2.sw.phase="lost":=z;rw [this] at z;exact absurd (ph.symm.trans z) (by decide)
 walk_at "ev";refine wJ (fun hz=>?_) (fun hz=>?_)
 ·walk_at "ev";exact Zvk (.inl hz)
 ·refine Zqy ?_;refine Zut ?_;refine N7 ol (fun Q' h=>by walk_at "es";exact h) ?_
  by_cases w2:M.w=2
  ·rw [show decide (M.w≠2)=false from decide_eq_false (by omega)];refine X4 ?_;refine Zqx ?_;walk_at "es";refine Zu3 (cU.of g1) ?_;cases hn:(iY (cJ M) M.hands 0 M).1 with
   | nil=>
    refine Zeg ?_;walk_at "ev";exact Zvk (.inr ⟨w2,hn⟩)
   | cons b bs=>
    have nc:¬ BV M:=fun z=>by
     rcases z with z | ⟨_,z⟩
     ·exact hz z
     ·rw [hn] at z;cases z
    have Li:=Li nc _ rfl;rw [if_pos w2] at Li;obtain ⟨ds1,os1⟩:=j1.js.os;refine X4 ?_;walk_at "ev";refine aH os1 Tx.cS Tx.n9 rM ?_;walk_at "ev";refine ⟨A.sw,X.S,ds1,_,rfl,os1,Tx.cS,Tx.n9,by show 11 < 1000;decide,?_⟩;rw [pY];obtain ⟨st2,j2⟩:=j1.sweep st1.wt s0 (dx:=ds1) { (iY (cJ M) M.hands 0 M).2.sw with looks:=(iY (cJ M) M.hands 0 M).2.sw.looks + 1 } rfl;have g2:upd H1 A.sw (.ins X.S ds1 (bY (iY (cJ M) M.hands 0 M).2.sw.sense (iY (cJ M) M.hands 0 M).2.sw.phase A.gr (iY (cJ M) M.hands 0 M).2.sw.looked (iY (cJ M) M.hands 0 M).2.sw.turn (iY (cJ M) M.hands 0 M).2.sw.at' (iY (cJ M) M.hands 0 M).2.sw.stop (iY (cJ M) M.hands 0 M).2.sw.walks ((iY (cJ M) M.hands 0 M).2.sw.looks + 1) (iY (cJ M) M.hands 0 M).2.sw.passes (iY (cJ M) M.hands 0 M).2.sw.loss)) l=some (.lst ((iY (cJ M) M.hands 0 M).1.map V.int)):=(aB (pI g1 os1 (fun z=>by cases z))).trans g1;generalize upd H1 A.sw _=H2 at st2 j2 g2 ⊢;have ol2:=j2.jb.ol;have ww2:({ (iY (cJ M) M.hands 0 M).2 with sw:={ (iY (cJ M) M.hands 0 M).2.sw with looks:=(iY (cJ M) M.hands 0 M).2.sw.looks + 1 } }:Wm).w=M.w:=ww;rw [ww2] at ol2;refine Hg ?_;refine Zsw ?_;refine N7 ol2 (fun Q' h=>by walk_at "es";exact h) ?_;rw [show decide (M.w≠2)=false from decide_eq_false (by omega)];walk_at "ev";exact ⟨aV (by simp),fun a na=>Li H2 st2 j2 g2 a na⟩
  ·rw [show decide (M.w≠2)=true from decide_eq_true (by omega)];have nc:¬ BV M:=fun z=>by
    rcases z with z | ⟨z,_⟩
    ·exact hz z
    ·exact w2 z
   have Li:=Li nc _ rfl;rw [if_neg w2] at Li;obtain ⟨ds1,os1⟩:=j1.js.os;walk_at "ev";refine aH os1 Tx.cS Tx.n9 rM ?_;walk_at "ev";refine ⟨A.sw,X.S,ds1,_,rfl,os1,Tx.cS,Tx.n9,by show 11 < 1000;decide,?_⟩;rw [pY];obtain ⟨ZE1,j1b⟩:=j1.sweep st1.wt s0 (dx:=ds1) { (iY (cJ M) M.hands 0 M).2.sw with looks:=(iY (cJ M) M.hands 0 M).2.sw.looks + 1 } rfl;have ol2:=j1b.jb.ol;have ww2:({ (iY (cJ M) M.hands 0 M).2 with sw:={ (iY (cJ M) M.hands 0 M).2.sw with looks:=(iY (cJ M) M.hands 0 M).2.sw.looks + 1 } }:Wm).w=M.w:=ww;rw [ww2] at ol2;refine Hg ?_;refine Zsw ?_;refine N7 ol2 (fun Q' h=>by walk_at "es";exact h) ?_;rw [show decide (M.w≠2)=true from decide_eq_true (by omega)];walk_at "ev";refine aH aq Tx.cS Tx.n4 jB ?_;walk_at "ev";refine ⟨A.sw,X.S,ds1,_,rfl,aq,Tx.cS,Tx.n4,by show 11 < 1000;decide,?_⟩;rw [uQ,dY];obtain ⟨st2,j2⟩:=j1.sweep st1.wt s0 (dx:=ds1) { (iY (cJ M) M.hands 0 M).2.sw with looks:=(iY (cJ M) M.hands 0 M).2.sw.looks + 1,looked:=Builtin.bitOr (iY (cJ M) M.hands 0 M).2.sw.looked (cJ M) } rfl;have g2:upd H1 A.sw (.ins X.S ds1 (bY (iY (cJ M) M.hands 0 M).2.sw.sense (iY (cJ M) M.hands 0 M).2.sw.phase A.gr (Builtin.bitOr (iY (cJ M) M.hands 0 M).2.sw.looked (cJ M)) (iY (cJ M) M.hands 0 M).2.sw.turn (iY (cJ M) M.hands 0 M).2.sw.at' (iY (cJ M) M.hands 0 M).2.sw.stop (iY (cJ M) M.hands 0 M).2.sw.walks ((iY (cJ M) M.hands 0 M).2.sw.looks + 1) (iY (cJ M) M.hands 0 M).2.sw.passes (iY (cJ M) M.hands 0 M).2.sw.loss)) l=some (.lst ((iY (cJ M) M.hands 0 M).1.map V.int)):=(aB (pI g1 os1 (fun z=>by cases z))).trans g1;generalize upd H1 A.sw _=H2 at st2 j2 g2 ⊢;walk_at "ev";exact ⟨aV (by simp),fun a na=>Li H2 st2 j2 g2 a na⟩
theorem PK {wo:Addr} (Tx:q8 K X) (q:Cg X ZX wo H Q):ur K X.E X.F X.L (gW 1) (gW 2) (qJ (.bl false)) (gW 0) (qJ (.bl true)) (bR X Zdg) (kE X) ⟨n,Q,bk,ct⟩ [some (.ref wo),none,none,none,none] H:=by
 obtain ⟨T,s,A,M,lb,lw,w,s0,j,rfl,ok,⟨ph,gr⟩,lo,q⟩:=q;obtain ⟨dw,ow⟩:=j.jb.ow;obtain ⟨ds,os⟩:=j.js.os;obtain ⟨dk,ok'⟩:=j.jb.ok;have on:=j.jb.on;have lh:=j.jd.lh;have l5:=j.jd.l5;have Zae:((A.hs.map fun p=>V.ref p.1).length:Int)=(M.hands.length:Int):=by rw [bu,lh]
 have tail:=Zhr (n:=n) (bk:=bk) (ct:=ct) Tx w s0 j ok ph gr q;obtain ⟨dl,ol⟩:=j.jb.ol;unfold ur;walk_at "ev";refine aH ow Tx.cW Tx.RZ bw ?_;walk_at "ev";refine aH ow Tx.cW Tx.nWk lB ?_;refine aH ok' Tx.cK Tx.nKl m6 ?_;refine Zsy ?_;refine Hg ?_;walk_at "es";rcases ol with ⟨ew,o⟩ | ⟨ew,o⟩ | ⟨ew,o⟩
 ·have eb:cJ M=K1 0 M.sw.looked M.hands.length:=by unfold cJ;rw [ew];rfl
  refine U0 ?_;walk_at "es";refine ⟨A.lk,dl,_,rfl,o,rfl,?_⟩;walk_at "es";refine aH os Tx.cS Tx.n4 jB ?_;walk_at "es";refine aH ow Tx.cW Tx.nWd eN ?_;walk_at "es";refine jV (cU.of on) ?_;rw [Zae];walk_at "es";refine ⟨A.lk,_,_,rfl,by omega,by omega,?_⟩;rw [Int.toNat_natCast,← eb];walk_at "es";exact tail
 ·have eb:cJ M=K1 1 M.sw.looked M.hands.length:=by unfold cJ;rw [ew];rfl
  refine Hi (U0 ?_);walk_at "es";refine ⟨A.lk,dl,_,rfl,o,rfl,?_⟩;walk_at "es";refine aH os Tx.cS Tx.n4 jB ?_;walk_at "es";refine aH ow Tx.cW Tx.nWd eN ?_;walk_at "es";refine jV (cU.of on) ?_;rw [Zae];walk_at "es";refine ⟨A.lk,_,_,rfl,by omega,by omega,?_⟩;rw [Int.toNat_natCast,← eb];walk_at "es";exact tail
 ·have eb:cJ M=K1 2 M.sw.looked M.hands.length:=by unfold cJ;rw [ew];rfl
  refine Hi (Hi ?_);walk_at "es";refine ⟨A.lk,dl,_,rfl,o,rfl,?_⟩;walk_at "es";refine aH os Tx.cS Tx.n4 jB ?_;walk_at "es";refine aH ow Tx.cW Tx.nWd eN ?_;walk_at "es";refine jV (cU.of on) ?_;rw [Zae];walk_at "es";refine ⟨A.lk,_,_,rfl,by omega,by omega,?_⟩;rw [Int.toNat_natCast,← eb];walk_at "es";exact tail
end
abbrev QH:=List (Str×Int)
def HsO (H:Hp) (l:Addr) (hs:QH):Prop:=∃ ts:List Addr,H l=some (.lst (ts.map V.ref))∧Al (fun (a:Addr) (m:Str×Int)=>H a=some (.tup [.str m.1,.int m.2])) ts hs
theorem HsO.same {H H':Hp}{l:Addr}{hs:QH} (h:HsO H l hs) (s:aY H H'):HsO H' l hs:=by
 obtain ⟨ts,h1,h2⟩:=h;exact ⟨ts,s _ _ h1,h2.mono fun a m z=>s _ _ z⟩
structure HsB (hs:QH):Prop where
 n1:1≤hs.length
 n5:hs.length≤5
 sb:∀ m∈hs,3≤m.2∧m.2≤9
def Pb (hs:QH) (h s:Nat):Prop:=∃ m,hs[h]? =some m∧(s:Int) < m.2
def okR (hs:QH):oU→Prop
 | .make h s many bulk=>Pb hs h s∧0≤many∧many≤8∧0≤bulk
 | .get h s t _=>Pb hs h s∧Pb hs h t
 | .put h t _ s=>Pb hs h t∧Pb hs h s
 | .copy h s t=>Pb hs h s∧Pb hs h t
 | .drop h s=>Pb hs h s
 | .give h s g t=>Pb hs h s∧Pb hs g t
 | .write h t _=>Pb hs h t
 | .read h t=>Pb hs h t
 | .name h t _=>Pb hs h t
 | .seek h s _=>Pb hs h s
theorem HsB.ok {hs:QH} (b:HsB hs) {h s:Nat} (hh:h < hs.length) (h3:s < 3):Pb hs h s:=by
 have:=b.sb _ (List.getElem_mem hh);exact ⟨_,cj hh,by omega⟩
def Y5 (H0 H:Hp) (hs:QH) (vs:List V):Prop:=∀ v∈vs,v=.non∨∃ t d,v=.ref t∧H0 t=none∧H t=some (.tup (dV d))∧okR hs d
structure RL (H0 H:Hp) (hs:QH) (l:Addr) (N:Nat):Prop where
 s:aY H0 H
 n:H0 l=none
 ex:∃ vs,H l=some (.lst vs)∧vs.length≤N∧Y5 H0 H hs vs
theorem Y5.same {H0 H H':Hp}{hs:QH}{vs:List V} (h:Y5 H0 H hs vs) (s:aY H H'):Y5 H0 H' hs vs:=fun v hv=>by
 rcases h v hv with z | ⟨t,d,e,f,o,k⟩
 ·exact .inl z
 ·exact .inr ⟨t,d,e,f,s _ _ o,k⟩
theorem RL.same {H0 H H':Hp}{hs:QH}{l:Addr}{N:Nat} (h:RL H0 H hs l N) (s:aY H H'):RL H0 H' hs l N:=by
 obtain ⟨s0,n,vs,h1,h2,h3⟩:=h;exact ⟨s0.trans s,n,vs,s _ _ h1,h2,h3.same s⟩
theorem RL.base {H0 H1 H:Hp}{hs:QH}{l:Addr}{N:Nat} (h:RL H1 H hs l N) (s:aY H0 H1):RL H0 H hs l N:=by
 obtain ⟨s0,n,vs,h1,h2,h3⟩:=h;refine ⟨s.trans s0,s.free n,vs,h1,h2,fun v hv=>?_⟩;rcases h3 v hv with z | ⟨t,d,e,f,o,k⟩
 ·exact .inl z
 ·exact .inr ⟨t,d,e,s.free f,o,k⟩
theorem RL.mono {H0 H:Hp}{hs:QH}{l:Addr}{N N':Nat} (h:RL H0 H hs l N) (n:N≤N'):RL H0 H hs l N':=by
 obtain ⟨s0,nn,vs,h1,h2,h3⟩:=h;exact ⟨s0,nn,vs,h1,by omega,h3⟩
theorem wW {H0 H:Hp}{hs:QH}{l1 l2:Addr}{N1 N2:Nat}{Q:VK} (h1:RL H0 H hs l1 N1) (h2:RL H0 H hs l2 N2) (hb:N1 + N2≤100000) (k:∀ l H',aY H H'→H l=none→RL H0 H' hs l (N1 + N2)→Q (.ref l) H'):yI (.ref l1) (.ref l2) H Q:=by
 obtain ⟨s0,_,vs,a1,a2,a3⟩:=h1;obtain ⟨_,_,ws,b1,b2,b3⟩:=h2;refine ⟨l1,l2,_,_,rfl,rfl,a1,b1,aV (by omega),fun l nl=>?_⟩;have s:=aO nl (.lst (vs ++ ws));refine k l _ s nl ⟨s0.trans s,s0.free nl,vs ++ ws,aq,by rw [List.length_append];omega,fun v hv=>?_⟩;rcases List.mem_append.mp hv with hv | hv
 ·exact (a3.same s) v hv
 ·exact (b3.same s) v hv
theorem Znt (m:Nat):(List.replicate m [V.non]).flatten=(List.replicate m (none:Option Int)).map oV:=by
 induction m with
 | zero=>rfl
 | succ m ih=>rw [List.replicate_succ,List.flatten_cons,ih];rfl
theorem Pj {H0 H:Hp}{hs:QH}{Q:VK}{l0:Addr}{k:Int} (s0:aY H0 H) (h0:H l0=some (.lst [V.non])) (k0:0≤k) (k1:k≤1000) (q:∀ l H',aY H H'→H l=none→RL H0 H' hs l k.toNat→Q (.ref l) H'):ZK (.ref l0) (.int k) H Q:=by
 refine ⟨l0,k,_,rfl,rfl,h0,by omega,by omega,by show 1 * k.toNat≤sizeLine;exact aV (by omega),fun l nl=>?_⟩;rw [Znt];refine q l _ (aO nl _) nl ⟨s0.trans (aO nl _),s0.free nl,_,aq,by rw [bu,List.length_replicate];exact Nat.le_refl _,fun v hv=>?_⟩;rw [List.map_replicate] at hv;rw [List.eq_of_mem_replicate hv];exact .inl rfl
theorem rl1 {H0 H:Hp}{hs:QH}{l t:Addr}{d:oU} (s:aY H0 H) (nl:H0 l=none) (nt:H0 t=none) (h:H l=some (.lst [.ref t])) (o:H t=some (.tup (dV d))) (k:okR hs d):RL H0 H hs l 1:=⟨s,nl,_,h,Nat.le_refl _,fun v hv=>by
 rw [List.mem_singleton.mp hv];exact .inr ⟨t,d,rfl,nt,o,k⟩⟩
theorem rl2 {H0 H:Hp}{hs:QH}{l t u:Addr}{d e:oU} (s:aY H0 H) (nl:H0 l=none) (nt:H0 t=none) (nu:H0 u=none) (h:H l=some (.lst [.ref t,.ref u])) (o:H t=some (.tup (dV d))) (k:okR hs d) (o':H u=some (.tup (dV e))) (k':okR hs e):RL H0 H hs l 2:=⟨s,nl,_,h,Nat.le_refl _,fun v hv=>by
 rcases List.mem_cons.mp hv with rfl | hv
 ·exact .inr ⟨t,d,rfl,nt,o,k⟩
 ·rw [List.mem_singleton.mp hv];exact .inr ⟨u,e,rfl,nu,o',k'⟩⟩
theorem rl3 {H0 H:Hp}{hs:QH}{l t u w:Addr}{d e f:oU} (s:aY H0 H) (nl:H0 l=none) (nt:H0 t=none) (nu:H0 u=none) (nw:H0 w=none) (h:H l=some (.lst [.ref t,.ref u,.ref w])) (o:H t=some (.tup (dV d))) (k:okR hs d) (o':H u=some (.tup (dV e))) (k':okR hs e) (o2:H w=some (.tup (dV f))) (k2:okR hs f):RL H0 H hs l 3:=⟨s,nl,_,h,Nat.le_refl _,fun v hv=>by
 rcases List.mem_cons.mp hv with rfl | hv
 ·exact .inr ⟨t,d,rfl,nt,o,k⟩
 ·rcases List.mem_cons.mp hv with rfl | hv
  ·exact .inr ⟨u,e,rfl,nu,o',k'⟩
  ·rw [List.mem_singleton.mp hv];exact .inr ⟨w,f,rfl,nw,o2,k2⟩⟩
def pU (K:aC):Sp:=fun vs H Q E=>∃ a k,vs=[.ref a,.int k]∧∃ ns:List Int,cU K H a (ns.map V.int)∧0≤k∧∀ z:Int,Q (.int z) H
def iZ:Sp:=fun vs H Q E=>∃ c p m,vs=[.int c,.int p,.int m]∧0 < p∧p < 2 ^ 32∧0 < m∧∀ z:Int,0≤z→z < m→Q (.int z) H
def pR:Sp:=fun vs H Q E=>∃ c w,vs=[.int c,.int w]∧0≤w∧w≤1000∧∀ z:Str,Q (.str z) H
def Nu (K:aC):Sp:=fun vs H Q E=>∃ a,vs=[.ref a]∧∃ ns:List Int,cU K H a (ns.map V.int)∧∀ l hs H',aY H H'→H l=none→HsO H' l hs→HsB hs→Q (.ref l) H'
def Y0 (K:aC):Sp:=fun vs H Q E=>∃ a,vs=[.ref a]∧∃ ns:List Int,cU K H a (ns.map V.int)∧∀ z:Int,Q (.int z) H
def Nt (X:Cs):Sp:=fun vs H Q E=>∃ c,vs=[.int c]∧∀ ki lk w t H',0≤t→t < 4→w=c % 3→aY H H'→H ki=none→H lk=none→KdO X H' ki lk w t→Q (.ref ki) H'
def Nq:Sp:=fun vs H Q E=>∃ c h s,vs=[.int c,.int h,.int s]∧∃ (hn sn:Nat),h=(hn:Int)∧s=(sn:Int)∧∀ t many bulk H',aY H H'→H t=none→0≤many→many≤8→0≤bulk→H' t=some (.tup (dV (.make hn sn many bulk)))→Q (.ref t) H'
def Nr:Sp:=fun vs H Q E=>∃ c,vs=[.int c]∧∀ z:Int,Q (.int z) H
def HH:Sp:=fun vs H Q E=>∃ i,vs=[.int i]∧Q (.bl true) H
def Nx (K:aC):Sp:=fun vs H Q E=>∃ a b,vs=[.ref a,.ref b]∧∃ (z:Str) (i:Int) (l l':Addr) (ns:List Int),H a=some (.tup [.str z,.int i,.ref l])∧H b=some (.tup [.str z,.int i,.ref l'])∧H l=some (.lst (ns.map V.int))∧H l'=some (.lst (ns.map V.int))∧Q (.bl true) H
variable {K:aC}{X:Cs}{rf:Rf→Addr}{H:Hp}{Q:VK}{E:XK}{n:St→Hp→Prop}{bk ct:St→Hp→Prop}
section
theorem YX {a:Addr}{k:Int} (q:∃ ns:List Int,cU K H a (ns.map V.int)∧0≤k∧∀ z:Int,Q (.int z) H):yE K ⟨n,Q,bk,ct⟩ [some (.ref a),some (.int k)] H:=by
 obtain ⟨ns,hS,h0,h⟩:=q;unfold yE;walk_at "ev";refine jV hS ?_;walk_at "ev";refine wJ (fun h1=>?_) (fun h1=>?_)
 ·walk_at "ev";rw [bu] at h1;have hk:k.toNat < ns.length:=by omega
  exact j9 hS (tL h0 (by rw [dz,cj hk]<;>rfl)) (h _)
 ·walk_at "ev";exact h _
theorem YT {c p m:Int} (q:0 < p∧p < 2 ^ 32∧0 < m∧∀ z:Int,0≤z→z < m→Q (.int z) H):yC ⟨n,Q,bk,ct⟩ [some (.int c),some (.int p),some (.int m)] H:=by
 obtain ⟨p0,p1,m0,q⟩:=q;have h1:=Int.emod_nonneg c (show p≠0 by omega);have h2:=Int.emod_lt_of_pos c p0;unfold yC;walk_at "ev";exact q _ (Int.emod_nonneg _ (by omega)) (Int.emod_lt_of_pos _ m0)
theorem YF {c w:Int} (q:0≤w∧w≤1000∧∀ z:Str,Q (.str z) H):yo ⟨n,Q,bk,ct⟩ [some (.int c),some (.int w),none,none,none,none,none] H:=by
 obtain ⟨w0,w1,q⟩:=q;have c1:=Int.emod_nonneg c (show (12:Int)≠0 by decide);have c2:=Int.emod_lt_of_pos c (show (0:Int) < 12 by decide);obtain ⟨sz,es⟩:=toN (x:=1 + c % 12) (by omega);have hs:1≤sz∧sz≤12:=by omega
 have a0:=Int.emod_nonneg (c / 12) (show (1 + c % 12)≠0 by omega);have a1:=Int.emod_lt_of_pos (c / 12) (show 0 < 1 + c % 12 by omega);unfold yo;walk_at "ev";have d1:=Int.emod_nonneg (c / 5) (show (26:Int)≠0 by decide);have d2:=Int.emod_lt_of_pos (c / 5) (show (0:Int) < 26 by decide);refine Zlu (by decide) d1 (by show c / 5 % 26 < 26;exact d2) fun ch=>?_;walk_at "ev";have e1:=Int.emod_nonneg (c / 7 + 5 * w) (show (26:Int)≠0 by decide);have e2:=Int.emod_lt_of_pos (c / 7 + 5 * w) (show (0:Int) < 26 by decide);refine Zlu (by decide) e1 (by show (c / 7 + 5 * w) % 26 < 26;exact e2) fun ch2=>?_;walk_at "ev";refine Zls a0 (by omega) (by rw [Us];decide) fun t1 l1 et1=>?_;have lt1:t1.length≤12:=by rw [et1,Ou,Us];omega
 walk_at "ev";refine Zlx (by rw [Us];exact aV (by omega)) ?_;walk_at "ev";refine Zls (by omega) (by omega) (by rw [Us];decide) fun t2 l2 et2=>?_;have lt2:t2.length≤12:=by rw [et2,Ou,Us];omega
 walk_at "ev";refine Zlx (by rw [Zu6,Us];exact aV (by omega)) ?_;exact q _
theorem Tu {a:Addr} (q:∃ ns:List Int,cU K H a (ns.map V.int)∧∀ l hs H',aY H H'→H l=none→HsO H' l hs→HsB hs→Q (.ref l) H'):vY K (pU K) iZ pR ⟨n,Q,bk,ct⟩ [some (.ref a),none,none,none,none] H:=by
 obtain ⟨ns,hS,q⟩:=q;unfold vY;walk_at "ev";refine ⟨a,1,rfl,ns,hS,by decide,fun c=>?_⟩;walk_at "ev";refine ⟨by decide,fun l nl=>?_⟩;have s1:=aO nl (.lst []);have g1:upd H l (.lst []) l=some (.lst (([]:List Addr).map V.ref)):=aq;generalize upd H l (.lst [])=H1 at s1 g1 ⊢;walk_at "ev";refine ⟨_,_,_,rfl,by decide,by decide,by decide,fun z z0 z1=>?_⟩;walk_at "ev";refine ⟨_,rfl,by omega,by omega,?_⟩;refine forR (fun k σ Hx=>∃ (ts:List Addr) (hs:QH) (v3 v4:Option V),σ=[some (.ref a),some (.int c),some (.ref l),v3,v4]∧aY H Hx∧Hx l=some (.lst (ts.map V.ref))∧Al (fun (a:Addr) (m:Str×Int)=>Hx a=some (.tup [.str m.1,.int m.2])) ts hs∧hs.length=k∧∀ m∈hs,3≤m.2∧m.2≤9) ⟨[],[],_,_,rfl,s1,g1,.nil,rfl,fun m hm=>(nomatch hm)⟩ ?_ ?_
 ·rintro k σ Hx hk ⟨ts,hs,v3,v4,rfl,s2,g2,al,hl,hb⟩;have hk5:k < 5:=by omega
  have lts:=al.length;have fin:∀ {many:Int},3≤many→many≤9→∀ (nn:St→Hp→Prop) (rr:VK) (bb cc:St→Hp→Prop),(∀ σ H',(∃ (ts:List Addr) (hs:QH) (v3 v4:Option V),σ=[some (.ref a),some (.int c),some (.ref l),v3,v4]∧aY H H'∧H' l=some (.lst (ts.map V.ref))∧Al (fun (a:Addr) (m:Str×Int)=>H' a=some (.tup [.str m.1,.int m.2])) ts hs∧hs.length=k + 1∧∀ m∈hs,3≤m.2∧m.2≤9)→nn σ H')→
    uO (tBM K "list" uT (ak 2) (aj (fP (aj (aR pR [] E0 (aj (ak 1) (aj (ak 3) aG))) (aj (ak 4) aG))) aG)) ⟨nn,rr,bb,cc⟩ [some (.ref a),some (.int c),some (.ref l),some (.int ((0:Int) + k)),some (.int many)] Hx:=by
   intro many m3 m9 nn rr bb cc hD;walk_at "ev";refine ⟨.inl ⟨rfl,_,cU.of g2⟩,?_⟩;walk_at "ev";refine ⟨_,_,rfl,by omega,by omega,fun wd=>?_⟩;walk_at "ev";refine ⟨aV (by simp),fun t nt=>?_⟩;have s3:=aO nt (.tup [.str wd,.int many]);have g3:upd Hx t (.tup [.str wd,.int many]) t=some (.tup [.str wd,.int many]):=aq;have g4:=s3 _ _ g2;generalize upd Hx t (.tup [.str wd,.int many])=H3 at s3 g3 g4 ⊢;walk_at "ev";refine ⟨l,_,_,rfl,rfl,g4,?_,?_⟩
   ·rw [bu];exact Nat.lt_of_le_of_lt (show _≤1000 by omega) (by decide)
   rw [show ts.map V.ref ++ [V.ref t]=(ts ++ [t]).map V.ref from by rw [List.map_append];rfl];have kt:∀ b xs,H3 b=some (.tup xs)→upd H3 l (.lst ((ts ++ [t]).map V.ref)) b=some (.tup xs):=fun b xs hb=>by
    rw [aB (pI hb g4 (fun z=>by cases z))];exact hb
   walk_at "ev";refine hD _ _ ⟨ts ++ [t],hs ++ [(wd,many)],_,_,rfl,fun b o hb=>by rw [aB (aD hb nl)];exact s3 _ _ (s2 _ _ hb),aq,?_,by rw [List.length_append,hl];rfl,fun m hm=>?_⟩
   ·refine Ls (by rw [List.length_append,List.length_append,lts];rfl) fun i x y e1 e2=>?_
    by_cases hi:i < ts.length
    ·rw [List.getElem?_append_left hi] at e1;rw [List.getElem?_append_left (by omega)] at e2;obtain ⟨x',e3,z⟩:=al.get e2;rw [e1] at e3;cases e3;exact kt _ _ (s3 _ _ z)
    ·have h1:=(fG e1).1;rw [List.length_append,List.length_singleton] at h1;rw [List.getElem?_append_right (by omega)] at e1 e2;rw [show i - ts.length=0 by omega] at e1;rw [show i - hs.length=0 by omega] at e2;cases e1;cases e2;exact kt _ _ g3
   ·rcases List.mem_append.mp hm with hm | hm
    ·exact hb m hm
    ·rw [List.mem_singleton.mp hm];exact ⟨m3,m9⟩
  walk_at "ev";refine wJ (fun _=>?_) (fun _=>?_)
  ·walk_at "ev";refine ⟨_,_,_,rfl,by decide,by decide,by decide,fun y y0 y1=>?_⟩;refine Zv4 ?_;refine Zpm ?_;exact fin (many:=3 + y) (by omega) (by omega) _ _ _ _ fun σ H' h=>h
  ·refine sO ?_;exact fin (many:=3) (by omega) (by omega) _ _ _ _ fun σ H' h=>h
 ·rintro σ Hx ⟨ts,hs,v3,v4,rfl,s2,g2,al,hl,hb⟩;walk_at "ev";exact q l hs Hx s2 nl ⟨ts,g2,al⟩ ⟨by omega,by omega,hb⟩
theorem YJ {a:Addr} (q:∃ ns:List Int,cU K H a (ns.map V.int)∧∀ z:Int,Q (.int z) H):yr (pU K) iZ ⟨n,Q,bk,ct⟩ [some (.ref a),none] H:=by
 obtain ⟨ns,hS,q⟩:=q;unfold yr;walk_at "ev";refine ⟨a,2,rfl,ns,hS,by decide,fun c=>?_⟩;walk_at "ev";refine ⟨_,_,_,rfl,by decide,by decide,by decide,fun z z0 z1=>?_⟩;walk_at "ev";refine wJ (fun _=>?_) (fun _=>?_)
 ·walk_at "ev";exact q _
 ·walk_at "ev";exact q _
theorem PX {C:Addr}{w t:Int}{σ:St}{tt:TE} (ht:∀ (H1:Hp) (Q':VK),Q' (.int t) H1→tt σ H1 Q') (hw:∀ {H1:Hp}{lk dl:Addr},H1 lk=some (.ins C dl [])→(w=0∧H1 lk=some (.ins X.F dl []))∨(w=1∧H1 lk=some (.ins X.E dl []))∨(w=2∧H1 lk=some (.ins X.L dl [])))
  (q:∀ ki lk H',aY H H'→H ki=none→H lk=none→KdO X H' ki lk w t→Q (.ref ki) H'):zB X.K (rG X.K) [] E0 (aj (G.Ib C) (aj tt aG)) σ H Q:=by
 walk_at "ev";intro lk dl nlk ndl nel;have s1:aY H (upd (upd H dl (.own lk)) lk (.ins C dl [])):=fun b o hb=>by rw [aB (aD hb nlk),aB (aD hb ndl)];exact hb
 have g1:upd (upd H dl (.own lk)) lk (.ins C dl []) lk=some (.ins C dl []):=aq;generalize upd (upd H dl (.own lk)) lk (.ins C dl [])=H1 at s1 g1 ⊢;walk_at "es";refine ht H1 _ ?_;walk_at "es";intro ki dk nki ndk nek;have s2:aY H1 (upd (upd H1 dk (.own ki)) ki (.ins X.K dk [])):=fun b o hb=>by rw [aB (aD hb nki),aB (aD hb ndk)];exact hb
 have g2:upd (upd H1 dk (.own ki)) ki (.ins X.K dk []) ki=some (.ins X.K dk []):=aq;generalize upd (upd H1 dk (.own ki)) ki (.ins X.K dk [])=H2 at s2 g2 ⊢;refine ⟨ki,lk,t,rfl,dk,g2,fun H3 o3 k3=>⟨rfl,?_⟩⟩;have s3:aY H H3:=fun b o hb=>k3 b o (s2 _ _ (s1 _ _ hb)) (aD (s1 _ _ hb) nki);have Zw1:lk≠ki:=aD g1 nki;exact q ki lk H3 s3 (s1.free nki) nlk ⟨⟨dk,o3⟩,⟨dl,hw (k3 _ _ (s2 _ _ g1) Zw1)⟩⟩
theorem YQ {c:Int} (q:∀ ki lk w t H',0≤t→t < 4→w=c % 3→aY H H'→H ki=none→H lk=none→KdO X H' ki lk w t→Q (.ref ki) H'):yx X.E X.F X.K X.L (rG X.K) ⟨n,Q,bk,ct⟩ [some (.int c)] H:=by
 have t0:=Int.emod_nonneg (c / 3) (show (4:Int)≠0 by decide);have t1:=Int.emod_lt_of_pos (c / 3) (show (0:Int) < 4 by decide);have w0:=Int.emod_nonneg c (show (3:Int)≠0 by decide);have w1:=Int.emod_lt_of_pos c (show (0:Int) < 3 by decide);unfold yx;walk_at "ev";refine wJ (fun z=>?_) (fun z=>?_)
 ·refine Zg8 ?_;exact PX (fun H1 Q' h=>by walk_at "ev";exact h) (fun e=>.inl ⟨rfl,e⟩) fun ki lk H' s n1 n2 kd=>q ki lk 0 (c / 3 % 4) H' t0 t1 z.symm s n1 n2 kd
 ·refine sO ?_;refine Hg ?_;walk_at "es";refine wJ (fun y=>?_) (fun y=>?_)
  ·refine Zg8 ?_;exact PX (fun H1 Q' h=>by walk_at "ev";exact h) (fun e=>.inr (.inl ⟨rfl,e⟩)) fun ki lk H' s n1 n2 kd=>q ki lk 1 (c / 3 % 4) H' t0 t1 y.symm s n1 n2 kd
  ·refine sO ?_;refine Zg8 ?_;exact PX (fun H1 Q' h=>by walk_at "ev";exact h) (fun e=>.inr (.inr ⟨rfl,e⟩)) fun ki lk H' s n1 n2 kd=>q ki lk 2 (c / 3 % 4) H' t0 t1 (by omega) s n1 n2 kd
theorem Zuh {z:Int} (h0:0≤z) (h1:z < 6):∃ m:Int,atI [V.int 1,.int 2,.int 2,.int 3,.int 0,.int 8] z=some (.int m)∧0≤m∧m≤8:=by
 have:z=0∨z=1∨z=2∨z=3∨z=4∨z=5:=by omega
 rcases this with rfl | rfl | rfl | rfl | rfl | rfl
 ·exact ⟨1,rfl,by decide,by decide⟩
 ·exact ⟨2,rfl,by decide,by decide⟩
 ·exact ⟨2,rfl,by decide,by decide⟩
 ·exact ⟨3,rfl,by decide,by decide⟩
 ·exact ⟨0,rfl,by decide,by decide⟩
 ·exact ⟨8,rfl,by decide,by decide⟩
theorem YL {c h s:Int} (q:∃ (hn sn:Nat),h=(hn:Int)∧s=(sn:Int)∧∀ t many bulk H',aY H H'→H t=none→0≤many→many≤8→0≤bulk→H' t=some (.tup (dV (.make hn sn many bulk)))→Q (.ref t) H'):
  yu K iZ ⟨n,Q,bk,ct⟩ [some (.int c),some (.int h),some (.int s),none,none] H:=by
 obtain ⟨hn,sn,rfl,rfl,q⟩:=q;have b1:=Int.emod_nonneg c (show (7:Int)≠0 by decide);have b2:(0:Int) < 10 ^ Int.toNat 12 + 1:=by decide
 have b3:=Int.emod_nonneg c (show (10:Int) ^ Int.toNat 12 + 1≠0 by decide);unfold yu;walk_at "ev";refine ⟨aV (by simp),fun l nl=>?_⟩;have s1:=aO nl (.lst [.int 1,.int 2,.int 2,.int 3,.int 0,.int 8]);have g1:upd H l (.lst [.int 1,.int 2,.int 2,.int 3,.int 0,.int 8]) l=some (.lst [.int 1,.int 2,.int 2,.int 3,.int 0,.int 8]):=aq;generalize upd H l (.lst [.int 1,.int 2,.int 2,.int 3,.int 0,.int 8])=H1 at s1 g1 ⊢;walk_at "ev";refine ⟨_,_,_,rfl,by decide,by decide,by decide,fun z z0 z1=>?_⟩;obtain ⟨m,em,m0,m8⟩:=Zuh z0 z1;walk_at "ev";refine j9 (cU.of g1) em ?_;have fin:∀ {b:Int},0≤b→∀ {v:Option V},(bI (fP (aj (tC (.str "make")) (aj (ak 1) (aj (ak 2) (aj (ak 3) (aj (ak 4) aG))))))) ⟨n,Q,bk,ct⟩ [some (.int c),some (.int hn),some (.int sn),some (.int m),some (.int b)] H1:=by
  intro b hb v;walk_at "ev";refine ⟨aV (by simp),fun t nt=>?_⟩;exact q t m b _ (s1.trans (aO nt _)) (s1.free nt) m0 m8 hb aq
 walk_at "ev";refine wJ (fun y=>?_) (fun y=>?_)
 ·walk_at "ev";refine wJ (fun x=>absurd (y.symm.trans x) (by decide)) (fun x=>?_);refine sO ?_;exact fin b1 (v:=none)
 ·walk_at "ev";refine wJ (fun x=>?_) (fun x=>?_)
  ·walk_at "es";exact ⟨aV (by simp),fun t nt=>q t m _ _ (s1.trans (aO nt _)) (s1.free nt) m0 m8 b3 aq⟩
  ·refine sO ?_;exact fin (Int.le_refl _) (v:=none)
theorem YM {c:Int} (q:∀ z:Int,Q (.int z) H):yw ⟨n,Q,bk,ct⟩ [some (.int c),none] H:=by
 have b2:(0:Int) < 10 ^ Int.toNat 60:=by decide
 unfold yw;walk_at "ev";refine wJ (fun _=>?_) (fun _=>?_)
 ·walk_at "ev";exact q _
 ·walk_at "ev";exact q _
theorem QG {i:Int} (q:Q (.bl true) H):uv ⟨n,Q,bk,ct⟩ [some (.int i)] H:=by
 unfold uv;walk_at "ev";exact q
theorem Tv {a b:Addr} (q:∃ (z:Str) (i:Int) (l l':Addr) (ns:List Int),H a=some (.tup [.str z,.int i,.ref l])∧H b=some (.tup [.str z,.int i,.ref l'])∧H l=some (.lst (ns.map V.int))∧H l'=some (.lst (ns.map V.int))∧Q (.bl true) H):
  vZ K HH ⟨n,Q,bk,ct⟩ [some (.ref a),some (.ref b),none] H:=by
 obtain ⟨z,i,l,l',ns,oa,ob,ol,ol',q⟩:=q;unfold vZ;walk_at "ev";refine X5 oa ?_;walk_at "ev";refine ⟨a,_,rfl,.inr (gU.of oa),?_⟩;walk_at "ev";refine SN (fun z=>absurd rfl z) (fun _=>?_);walk_at "ev";refine ⟨a,_,0,_,rfl,rfl,gU.of oa,rfl,?_⟩;walk_at "ev";refine ⟨a,_,1,_,rfl,rfl,gU.of oa,rfl,?_⟩;walk_at "ev";refine ⟨_,rfl,?_⟩;walk_at "ev";refine ⟨a,_,2,_,rfl,rfl,gU.of oa,rfl,?_⟩;walk_at "ev";refine Zau ol ?_;walk_at "ev";refine ⟨a,_,2,_,rfl,rfl,gU.of oa,rfl,?_⟩;refine ⟨l,rfl,⟨_,cU.of ol⟩,forL (ns.map V.int) (fun _ σ Hx=>∃ v,σ=[some (.ref a),some (.ref b),v]∧Hx=H) ⟨_,rfl,rfl⟩ (fun _ _ _ _ ⟨_,_,e⟩=>by rw [e];exact cU.of ol) ?_ ?_⟩
 ·rintro k x σ Hx hk ⟨v,rfl,rfl⟩;obtain ⟨y,_,rfl⟩:=List.mem_map.mp (List.mem_of_getElem? hk);walk_at "ev";refine ⟨_,rfl,?_⟩;walk_at "ev";exact ⟨_,rfl,rfl⟩
 ·rintro σ Hx ⟨v,rfl,rfl⟩;walk_at "ev";refine Zlv (.inr ⟨gU.of oa,gU.of ob⟩) (.cons (.inl ⟨rfl,rfl⟩) (.cons (.inl ⟨rfl,rfl⟩) (.cons (.inr ⟨l,l',rfl,rfl,.inr ⟨_,_,.inl ⟨cU.of ol,cU.of ol'⟩,Zb8 (Zij _)⟩⟩) .nil))) ?_;exact q
end
def Ny (K:aC):Sp:=fun vs H Q E=>∃ c l sd,vs=[.int c,.ref l,.int sd]∧∃ hs,HsO H l hs∧HsB hs∧∀ t d H',aY H H'→H t=none→H' t=some (.tup (dV d))→okR hs d→Q (.ref t) H'
def Ck (K:aC):Sp:=fun vs H Q E=>∃ c l sd,vs=[.int c,.ref l,.int sd]∧∃ hs,HsO H l hs∧HsB hs∧∀ r H',aY H H'→H r=none→RL H H' hs r 2→Q (.ref r) H'
def HD (K:aC):Sp:=fun vs H Q E=>∃ l c sd,vs=[.ref l,.int c,.int sd]∧∃ hs,HsO H l hs∧HsB hs∧∀ r H',aY H H'→RL H H' hs r 200→Q (.ref r) H'
def Nm (K:aC):Sp:=fun vs H Q E=>∃ a l,vs=[.ref a,.ref l]∧∃ ns:List Int,∃ hs,cU K H a (ns.map V.int)∧ns.length≤63∧HsO H l hs∧HsB hs∧∀ r H',aY H H'→RL H H' hs r 700→Q (.ref r) H'
section
theorem f38 {x:Int} (h0:0≤x) (h1:x < 2):∃ m:Int,atI [V.int 3,.int 8] x=some (.int m)∧0 < m:=by
 have:x=0∨x=1:=by omega
 rcases this with rfl | rfl
 ·exact ⟨3,rfl,by decide⟩
 ·exact ⟨8,rfl,by decide⟩
theorem YW {c sd:Int}{l:Addr} (q:∃ hs,HsO H l hs∧HsB hs∧∀ t d H',aY H H'→H t=none→H' t=some (.tup (dV d))→okR hs d→Q (.ref t) H'):
  yD K iZ Nr Nq pR ⟨n,Q,bk,ct⟩ [some (.int c),some (.ref l),some (.int sd),none,none,none,none,none,none,none] H:=by
 obtain ⟨hs,ho,hb,q⟩:=q;have n1:=hb.n1;have Zae:∀ {H':Hp}{ts:List Addr},HsO H' l hs→H' l=some (.lst (ts.map V.ref))→ts.length=hs.length:=fun {H' ts} h e=>by
  obtain ⟨ts',h1,h2⟩:=h;rw [h1] at e;have:=congrArg (fun o=>match o with | some (HO.lst xs)=>xs.length | _=>0) e;simp only [bu] at this;rw [← this];exact h2.length
 obtain ⟨ts,ol,al⟩:=id ho;have lts:=al.length;unfold yD;walk_at "ev";refine jV (cU.of ol) ?_;rw [bu,lts];walk_at "ev";refine ⟨_,_,_,rfl,by decide,by decide,by omega,fun zh h0 h1=>?_⟩;obtain ⟨h,rfl⟩:=toN h0;have hh:h < hs.length:=by omega
 obtain ⟨m,hm⟩:∃ m,hs[h]? =some m:=⟨_,cj hh⟩;have mb:=hb.sb m (List.mem_of_getElem? hm);obtain ⟨tt,ett,ott⟩:=al.get hm;have hix:atI (ts.map V.ref) (h:Int)=some (.ref tt):=ie (by rw [dz,ett];rfl);walk_at "ev";refine j9 (cU.of ol) hix ?_;refine ⟨tt,_,1,_,rfl,rfl,gU.of ott,rfl,?_⟩;walk_at "ev";refine ⟨_,_,_,rfl,by decide,by decide,by omega,fun zs s0 s1=>?_⟩;obtain ⟨s,rfl⟩:=toN s0;walk_at "ev";refine j9 (cU.of ol) hix ?_;refine ⟨tt,_,1,_,rfl,rfl,gU.of ott,rfl,?_⟩;walk_at "ev";refine ⟨_,_,_,rfl,by decide,by decide,by omega,fun zt t0 t1=>?_⟩;obtain ⟨t,rfl⟩:=toN t0;walk_at "ev";refine ⟨aV (by simp),fun l2 nl2=>?_⟩;have s2:=aO nl2 (.lst [.int 3,.int 8]);have g2:upd H l2 (.lst [.int 3,.int 8]) l2=some (.lst [.int 3,.int 8]):=aq;generalize upd H l2 (.lst [.int 3,.int 8])=H2 at s2 g2 ⊢;walk_at "ev";obtain ⟨mf,emf,mf0⟩:=f38 (x:=c % 5 / 4) (by omega) (by omega);refine j9 (cU.of g2) emf ?_;walk_at "ev";refine ⟨_,_,_,rfl,by decide,by decide,mf0,fun zf f0 _=>?_⟩;obtain ⟨f,rfl⟩:=toN f0;walk_at "ev";refine ⟨_,_,_,rfl,by decide,by decide,by decide,fun w w0 w1=>?_⟩;have os:Pb hs h s:=⟨m,hm,s1⟩;have ot:Pb hs h t:=⟨m,hm,t1⟩;have tup:∀ (d:oU),okR hs d→∀ tp,H2 tp=none→Q (.ref tp) (upd H2 tp (.tup (dV d))):=fun d ok tp QW=>q tp d _ (s2.trans (aO QW _)) (s2.free QW) aq ok;walk_at "ev";refine wJ (fun _=>?_) (fun w5=>?_)
 ·walk_at "ev";exact ⟨_,_,_,rfl,h,s,rfl,rfl,fun tp many bulk H' sm QW m0 m8 b0 o=>q tp _ H' (s2.trans sm) (s2.free QW) o ⟨os,m0,m8,b0⟩⟩
 walk_at "ev";refine wJ (fun _=>?_) (fun w8=>?_)
 ·walk_at "ev";exact ⟨aV (by simp),fun tp QW=>tup (.get h s t f) ⟨os,ot⟩ tp QW⟩
 walk_at "ev";refine wJ (fun _=>?_) (fun w11=>?_)
 ·walk_at "ev";exact ⟨aV (by simp),fun tp QW=>tup (.put h t f s) ⟨ot,os⟩ tp QW⟩
 walk_at "ev";refine wJ (fun _=>?_) (fun ZE0=>?_)
 ·walk_at "ev";exact ⟨aV (by simp),fun tp QW=>tup (.copy h s t) ⟨os,ot⟩ tp QW⟩
 walk_at "ev";refine wJ (fun _=>?_) (fun w12=>?_)
 ·walk_at "ev";exact ⟨aV (by simp),fun tp QW=>tup (.drop h s) os tp QW⟩
 walk_at "ev";refine wJ (fun _=>?_) (fun w15=>?_)
 ·have ol2:=s2 _ _ ol;walk_at "ev";refine jV (cU.of ol2) ?_;rw [bu,lts];walk_at "ev";refine ⟨_,_,_,rfl,by decide,by decide,by omega,fun zg g0 g1=>?_⟩;obtain ⟨g,rfl⟩:=toN g0;have hg:g < hs.length:=by omega
  obtain ⟨mg,hmg⟩:∃ m,hs[g]? =some m:=⟨_,cj hg⟩;have mgb:=hb.sb mg (List.mem_of_getElem? hmg);obtain ⟨tg,etg,otg⟩:=al.get hmg;walk_at "ev";refine j9 (cU.of ol2) (ie (v:=.ref tg) (by rw [dz,etg];rfl)) ?_;refine ⟨tg,_,1,_,rfl,rfl,gU.of (s2 _ _ otg),rfl,?_⟩;walk_at "ev";refine ⟨_,_,_,rfl,by decide,by decide,by omega,fun zu u0 u1=>?_⟩;obtain ⟨u,rfl⟩:=toN u0;walk_at "ev";exact ⟨aV (by simp),fun tp QW=>tup (.give h s g u) ⟨os,mg,hmg,u1⟩ tp QW⟩
 walk_at "ev";refine wJ (fun _=>?_) (fun ZDz=>?_)
 ·walk_at "ev";refine ⟨_,rfl,fun ld=>?_⟩;walk_at "ev";exact ⟨aV (by simp),fun tp QW=>tup (.write h t ld) ot tp QW⟩
 walk_at "ev";refine ⟨_,_,_,rfl,by decide,by decide,by decide,fun zw a0 a1=>?_⟩;walk_at "ev";refine ⟨_,_,rfl,a0,by omega,fun wd=>?_⟩;walk_at "ev";refine wJ (fun _=>?_) (fun w18=>?_)
 ·walk_at "ev";exact ⟨aV (by simp),fun tp QW=>tup (.name h t wd) ot tp QW⟩
 walk_at "ev";exact ⟨aV (by simp),fun tp QW=>tup (.seek h s wd) os tp QW⟩
def dW:oU→Str
 | .make .. =>"make"
 | .get .. =>"get"
 | .put .. =>"put"
 | .copy .. =>"copy"
 | .drop .. =>"drop"
 | .give .. =>"give"
 | .write .. =>"write"
 | .read .. =>"read"
 | .name .. =>"name"
 | .seek .. =>"seek"
theorem dV0 (d:oU):∃ r,dV d=.str (dW d) :: r:=by cases d<;>exact ⟨_,rfl⟩
theorem Zth {d:oU} (h:dW d="put"):∃ h t f s,d=.put h t f s:=by
 cases d<;>first | exact ⟨_,_,_,_,rfl⟩ | exact absurd h (by simp only [dW];decide)
theorem Zti {d:oU} (h:dW d="get"):∃ h s t f,d=.get h s t f:=by
 cases d<;>first | exact ⟨_,_,_,_,rfl⟩ | exact absurd h (by simp only [dW];decide)
theorem Tw {c sd:Int}{l:Addr} (q:∃ hs,HsO H l hs∧HsB hs∧∀ r H',aY H H'→H r=none→RL H H' hs r 2→Q (.ref r) H'):
  v9 K (Ny K) iZ ⟨n,Q,bk,ct⟩ [some (.int c),some (.ref l),some (.int sd),none] H:=by
 obtain ⟨hs,ho,hb,q⟩:=q;unfold v9;walk_at "ev";refine ⟨_,_,_,rfl,hs,ho,hb,fun t d H1 s1 nt ot ok=>?_⟩;obtain ⟨r0,e0⟩:=dV0 d;have ix0:atI (dV d) 0=some (.str (dW d)):=by rw [e0];exact ie (j:=0) rfl
 have one:bI (iw (aj (ak 3) aG)) ⟨n,Q,bk,ct⟩ [some (.int c),some (.ref l),some (.int sd),some (.ref t)] H1:=by
  walk_at "ev";refine ⟨aV (by simp),fun r nr=>?_⟩;have s2:=aO nr (.lst [.ref t]);exact q r _ (s1.trans s2) (s1.free nr) ((rl1 (d:=d) (s1.trans s2) (s1.free nr) nt aq (s2 _ _ ot) ok).mono (by decide))
 have gets:(aL (fB ((Zgr (cC (bA (Cv) (bA (eZ K) (ak 3) (tC (.int 0))) (tC (.str "get")))) (cC (bA (Cv) (bA (rI (fun _ j=>0 < j) fun i j=>.int (i % j)) (bA (rI KJ fun i j=>.int (i / j)) (ak 0) (tC (.int 5))) (tC (.int 2))) (tC (.int 0)))))) (bI (iw (aj (ak 3) (aj (fP (aj (tC (.str "put")) (aj (bA (eZ K) (ak 3) (tC (.int 1))) (aj (bA (eZ K) (ak 3) (tC (.int 3))) (aj (bA (eZ K) (ak 3) (tC (.int 4))) (aj (aR iZ [] E0 (aj (ak 0) (aj (tC (.int 1159523)) (aj (tC (.int 3)) aG)))) aG)))))) aG)))) cL)
   (bI (iw (aj (ak 3) aG)))) ⟨n,Q,bk,ct⟩ [some (.int c),some (.ref l),some (.int sd),some (.ref t)] H1:=by
  walk_at "ev";refine ⟨t,_,0,_,rfl,rfl,gU.of ot,ix0,?_⟩;walk_at "ev";refine wJ (fun hp=>?_) (fun _=>?_)
  ·obtain ⟨h,s,tt,f,rfl⟩:=Zti hp;obtain ⟨o1,o2⟩:=ok;walk_at "ev";refine wJ (fun _=>?_) (fun _=>?_)
   ·walk_at "ev";refine ⟨t,_,1,_,rfl,rfl,gU.of ot,rfl,?_⟩;walk_at "ev";refine ⟨t,_,3,_,rfl,rfl,gU.of ot,rfl,?_⟩;walk_at "ev";refine ⟨t,_,4,_,rfl,rfl,gU.of ot,rfl,?_⟩;walk_at "ev";refine ⟨_,_,_,rfl,by decide,by decide,by decide,fun z z0 z1=>?_⟩;obtain ⟨sl,rfl⟩:=toN z0;walk_at "ev";refine ⟨aV (by simp),fun u nu=>⟨aV (by simp),fun r nr=>?_⟩⟩;have s2:=aO nu (.tup (dV (.put h tt f sl)));have s3:=aO nr (.lst [.ref t,.ref u]);have hh:h < hs.length:=by obtain ⟨m,hm,_⟩:=o1;exact (fG hm).1
    exact q r _ (s1.trans (s2.trans s3)) (s1.free (s2.free nr)) (rl2 (d:=.get h s tt f) (e:=.put h tt f sl) (s1.trans (s2.trans s3)) (s1.free (s2.free nr)) nt (s1.free nu) aq (s3 _ _ (s2 _ _ ot)) ⟨o1,o2⟩ (s3 _ _ aq) ⟨o2,hb.ok hh (by omega)⟩)
   ·exact one
  ·exact one
 walk_at "ev";refine ⟨t,_,0,_,rfl,rfl,gU.of ot,ix0,?_⟩;walk_at "ev";refine wJ (fun hp=>?_) (fun _=>?_)
 ·obtain ⟨h,tt,f,s,rfl⟩:=Zth hp;obtain ⟨o1,o2⟩:=ok;walk_at "ev";refine wJ (fun _=>?_) (fun _=>?_)
  ·walk_at "ev";refine ⟨t,_,1,_,rfl,rfl,gU.of ot,rfl,?_⟩;walk_at "ev";refine ⟨t,_,4,_,rfl,rfl,gU.of ot,rfl,?_⟩;walk_at "ev";refine ⟨aV (by simp),fun u nu=>⟨aV (by simp),fun r nr=>?_⟩⟩;have s2:=aO nu (.tup (dV (.drop h s)));have s3:=aO nr (.lst [.ref t,.ref u]);exact q r _ (s1.trans (s2.trans s3)) (s1.free (s2.free nr)) (rl2 (d:=.put h tt f s) (e:=.drop h s) (s1.trans (s2.trans s3)) (s1.free (s2.free nr)) nt (s1.free nu) aq (s3 _ _ (s2 _ _ ot)) ⟨o1,o2⟩ (s3 _ _ aq) o2)
  ·exact gets
 ·exact gets
end
section
def Zj1 (σ:St) (ta:TE) (d:oU):Prop:=∀ (H1:Hp) (Q':VK),(∀ t H2,aY H1 H2→H1 t=none→H2 t=some (.tup (dV d))→Q' (.ref t) H2)→ta σ H1 Q'
theorem Vs {σ:St}{ta:TE}{d:oU} (h:∀ (H1:Hp) (Q':VK),(∀ t,H1 t=none→Q' (.ref t) (upd H1 t (.tup (dV d))))→ta σ H1 Q'):Zj1 σ ta d:=fun H1 Q' k=>h H1 Q' fun t nt=>k t _ (aO nt _) nt aq
theorem Zc0 {H0:Hp}{hs:QH}{d e:oU}{ta tb:TE}{σ:St} (s0:aY H0 H) (ha:Zj1 σ ta d) (hb:Zj1 σ tb e) (kd:okR hs d) (ke:okR hs e) (k:∀ l H',aY H H'→RL H0 H' hs l 2→Q (.ref l) H'):iw (aj ta (aj tb aG)) σ H Q:=by
 walk_at "es";refine ha H _ fun t H1 s1 nt ot=>?_;walk_at "es";refine hb H1 _ fun u H2 s2 nu ou=>?_;walk_at "es";refine ⟨aV (by simp),fun l nl=>?_⟩;have s3:=aO nl (.lst [.ref t,.ref u]);have s03:=s0.trans (s1.trans (s2.trans s3));exact k l _ (s1.trans (s2.trans s3)) (rl2 s03 (s0.free (s1.free (s2.free nl))) (s0.free nt) (s0.free (s1.free nu)) aq (s3 _ _ (s2 _ _ ot)) kd (s3 _ _ ou) ke)
theorem Zj7 {H0:Hp}{hs:QH}{d e f:oU}{ta tb tc:TE}{σ:St} (s0:aY H0 H) (ha:Zj1 σ ta d) (hb:Zj1 σ tb e) (hc:Zj1 σ tc f) (kd:okR hs d) (ke:okR hs e) (kf:okR hs f) (k:∀ l H',aY H H'→RL H0 H' hs l 3→Q (.ref l) H'):iw (aj ta (aj tb (aj tc aG))) σ H Q:=by
 walk_at "es";refine ha H _ fun t H1 s1 nt ot=>?_;walk_at "es";refine hb H1 _ fun u H2 s2 nu ou=>?_;walk_at "es";refine hc H2 _ fun w H3 s3 nw ow=>?_;walk_at "es";refine ⟨aV (by simp),fun l nl=>?_⟩;have s4:=aO nl (.lst [.ref t,.ref u,.ref w]);have s04:=s0.trans (s1.trans (s2.trans (s3.trans s4)));exact k l _ (s1.trans (s2.trans (s3.trans s4))) (rl3 s04 (s0.free (s1.free (s2.free (s3.free nl)))) (s0.free nt) (s0.free (s1.free nu)) (s0.free (s1.free (s2.free nw))) aq (s4 _ _ (s3 _ _ (s2 _ _ ot))) kd (s4 _ _ (s3 _ _ ou)) ke (s4 _ _ ow) kf)
theorem Tt {l:Addr}{c sd:Int} (q:∃ hs,HsO H l hs∧HsB hs∧∀ r H',aY H H'→RL H H' hs r 200→Q (.ref r) H'):
  vX K iZ pR ⟨n,Q,bk,ct⟩ [some (.ref l),some (.int c),some (.int sd),none,none,none] H:=by
 obtain ⟨hs,ho,hb,q⟩:=q;obtain ⟨ts,ol,al⟩:=id ho;have lts:=al.length;have n5:=hb.n5;unfold vX;walk_at "ev";refine ⟨by decide,fun r0 nr0=>?_⟩;have s1:=aO nr0 (.lst []);have g1:RL H (upd H r0 (.lst [])) hs r0 0:=⟨s1,nr0,[],aq,Nat.le_refl _,fun v hv=>(nomatch hv)⟩;generalize upd H r0 (.lst [])=H1 at s1 g1 ⊢;walk_at "ev";refine jV (cU.of (s1 _ _ ol)) ?_;rw [bu,lts];walk_at "ev";refine ⟨_,rfl,by omega,by omega,?_⟩;refine forR (fun k σ Hx=>∃ r v4,σ=[some (.ref l),some (.int c),some (.int sd),some (.ref r),v4,none]∧aY H Hx∧RL H Hx hs r (4 * k)) ⟨r0,_,rfl,s1,g1⟩ ?_ ?_
 ·rintro k σ Hx hk ⟨r,v4,rfl,s2,rl⟩;have hk':k < hs.length:=by omega
  rw [Int.zero_add];obtain ⟨f,ef⟩:=toN (x:=(k:Int) % 2) (by omega);have o0:Pb hs k 0:=hb.ok hk' (by decide);have o1:Pb hs k 1:=hb.ok hk' (by decide);refine Zpm ?_;refine Hg ?_;refine Qm ?_;refine Zee ?_;refine Zed ?_;refine Zc0 (H0:=H) s2 (d:=.make k 0 2 0) (e:=.make k 1 1 0) (Vs fun H1 Q' h=>by walk_at "ev";exact ⟨aV (by simp),h⟩) (Vs fun H1 Q' h=>by walk_at "ev";exact ⟨aV (by simp),h⟩) ⟨o0,by decide,by decide,by decide⟩ ⟨o1,by decide,by decide,by decide⟩ fun l2 H2 sm2 rl2=>?_;refine wW (rl.same sm2) rl2 (by omega) fun r3 H3 sm3 _ rl3=>?_;refine Zaw ?_;refine Qm ?_;refine Zee ?_;refine Zed ?_;refine Zc0 (H0:=H) rl3.s (d:=.put k 0 f 1) (e:=.drop k 1) (Vs fun H1 Q' h=>by walk_at "ev";rw [ef];exact ⟨aV (by simp),h⟩) (Vs fun H1 Q' h=>by walk_at "ev";exact ⟨aV (by simp),h⟩) ⟨o0,o1⟩ o1 fun l4 H4 sm4 rl4=>?_;refine wW (rl3.same sm4) rl4 (by omega) fun r5 H5 sm5 _ Ry=>?_;refine Zaw ?_;exact ⟨r5,_,rfl,s2.trans (sm2.trans (sm3.trans (sm4.trans sm5))),Ry.mono (by omega)⟩
 ·rintro σ Hx ⟨r,v4,rfl,s2,rl⟩;have rl:=rl.mono (N':=20) (by omega);walk_at "ev";refine ⟨_,_,_,rfl,by decide,by decide,by decide,fun w w0 w1=>?_⟩;have rest:∀ {r1:Addr}{H3:Hp}{v4:Option V},aY H H3→RL H H3 hs r1 30→(aL (bD (bA (yI) (ak 3) (bA (ZK) (iw (aj (tC .non) aG)) (bA (nO fun i j=>.int (i + j)) (tC (.int 1)) (aR iZ [] E0 (aj (ak 1) (aj (tC (.int 882377)) (aj (tC (.int 4)) aG))))))) (aN 3))
   (oJ K pR)) ⟨n,Q,bk,ct⟩ [some (.ref l),some (.int c),some (.int sd),some (.ref r1),v4,some (.int w)] H3:=by
   intro r1 H3 v4 s3 rl1;walk_at "ev";refine ⟨by decide,fun l0 nl0=>?_⟩;have s4:=aO nl0 (.lst [V.non]);have g4:upd H3 l0 (.lst [V.non]) l0=some (.lst [V.non]):=aq;have rl4:=rl1.same s4;generalize upd H3 l0 (.lst [V.non])=H4 at s4 g4 rl4 ⊢;walk_at "ev";refine ⟨_,_,_,rfl,by decide,by decide,by decide,fun z z0 z1=>?_⟩;walk_at "ev";refine Pj (H0:=H) (hs:=hs) rl4.s g4 (by omega) (by omega) fun l5 H5 s5 _ Ry=>?_;refine wW (rl4.same s5) (Ry.mono (N':=4) (by omega)) (by decide) fun r6 H6 s6 _ rl6=>?_;have s06:=s3.trans (s4.trans (s5.trans s6));refine Zaw ?_;unfold oJ;walk_at "ev";refine jV (cU.of (s06 _ _ ol)) ?_;rw [bu,lts];walk_at "ev";refine ⟨_,rfl,by omega,by omega,?_⟩;refine forR (fun k σ Hx=>∃ r v4,σ=[some (.ref l),some (.int c),some (.int sd),some (.ref r),v4,some (.int w)]∧aY H Hx∧RL H Hx hs r (34 + 7 * k)) ⟨r6,_,rfl,s06,rl6⟩ ?_ ?_
   ·rintro k σ Hx hk ⟨r,v4,rfl,s2,rl⟩;have hk':k < hs.length:=by omega
    rw [Int.zero_add];obtain ⟨f,ef⟩:=toN (x:=(k:Int) % 2) (by omega);have o0:Pb hs k 0:=hb.ok hk' (by decide);have o1:Pb hs k 1:=hb.ok hk' (by decide);have o2:Pb hs k 2:=hb.ok hk' (by decide);refine Zpm ?_;refine Hg ?_;have third:∀ {r1:Addr}{H3:Hp},aY H H3→RL H H3 hs r1 (34 + 7 * k + 5)→(fB (cC (bA (Cv) (ak 5) (tC (.int 3)))) (bD (bA (yI) (ak 3) (iw (aj (fP (aj (tC (.str "name")) (aj (ak 4) (aj (tC (.int 0)) (aj (aR pR [] E0 (aj (ak 2) (aj (bA (rI (fun _ j=>0 < j) fun i j=>.int (i % j)) (ak 4) (tC (.int 2))) aG))) aG))))) (aj (fP (aj (tC (.str "drop")) (aj (ak 4) (aj (tC (.int 0)) aG)))) aG)))) (aN 3)) cL) ⟨fun σ Hx=>∃ r v4,σ=[some (.ref l),some (.int c),some (.int sd),some (.ref r),v4,some (.int w)]∧aY H Hx∧RL H Hx hs r (34 + 7 * (k + 1)),Q,bI (ak 3) ⟨n,Q,bk,ct⟩,fun σ Hx=>∃ r v4,σ=[some (.ref l),some (.int c),some (.int sd),some (.ref r),v4,some (.int w)]∧aY H Hx∧RL H Hx hs r (34 + 7 * (k + 1))⟩ [some (.ref l),some (.int c),some (.int sd),some (.ref r1),some (.int k),some (.int w)] H3:=by
     intro r1 H3 s3 rl3;walk_at "ev";refine wJ (fun _=>?_) (fun _=>?_)
     ·refine Qm ?_;refine Zee ?_;refine Zed ?_;walk_at "es";refine ⟨_,_,rfl,by omega,by omega,fun wd=>?_⟩;walk_at "es";refine ⟨aV (by simp),fun t nt=>?_⟩;have s4:=aO nt (.tup (dV (.name k 0 wd)));have g4:upd H3 t (.tup (dV (.name k 0 wd))) t=some (.tup (dV (.name k 0 wd))):=aq;show aj _ _ _ (upd H3 t (.tup (dV (.name k 0 wd)))) _;generalize upd H3 t (.tup (dV (.name k 0 wd)))=H4 at s4 g4 ⊢;walk_at "es";refine ⟨aV (by simp),fun u nu=>⟨aV (by simp),fun l2 nl2=>?_⟩⟩;have s5:=aO nu (.tup (dV (.drop k 0)));have g5:upd H4 u (.tup (dV (.drop k 0))) u=some (.tup (dV (.drop k 0))):=aq;show yI _ _ (upd (upd H4 u (.tup (dV (.drop k 0)))) l2 _) _;have nl2:upd H4 u (.tup (dV (.drop k 0))) l2=none:=nl2;generalize upd H4 u (.tup (dV (.drop k 0)))=H5 at s5 g5 nl2 ⊢;have s6:=aO nl2 (.lst [.ref t,.ref u]);have r6:RL H (upd H5 l2 (.lst [.ref t,.ref u])) hs l2 2:=rl2 (d:=.name k 0 wd) (e:=.drop k 0) (s3.trans (s4.trans (s5.trans s6))) (s3.free (s4.free (s5.free nl2))) (s3.free nt) (s3.free (s4.free nu)) aq (s6 _ _ (s5 _ _ g4)) o0 (s6 _ _ g5) o0;have s36:=s4.trans (s5.trans s6);refine wW (rl3.same s36) r6 (by omega) fun r7 H7 s7 _ rl7=>?_;refine Zaw ?_;exact ⟨r7,_,rfl,s3.trans (s36.trans s7),rl7.mono (by omega)⟩
     ·refine sO ?_;exact ⟨r1,_,rfl,s3,rl3.mono (by omega)⟩
    have second:∀ {r1:Addr}{H3:Hp},aY H H3→RL H H3 hs r1 (34 + 7 * k + 2)→(aL (fB (cC (bA (nO fun i j=>.bl (decide (j < i))) (ak 5) (tC (.int 1)))) (bD (bA (yI) (ak 3) (iw (aj (fP (aj (tC (.str "make")) (aj (ak 4) (aj (tC (.int 0)) (aj (tC (.int 1)) (aj (tC (.int 0)) aG)))))) (aj (fP (aj (tC (.str "put")) (aj (ak 4) (aj (tC (.int 0)) (aj (tC (.int 0)) (aj (tC (.int 1)) aG)))))) (aj (fP (aj (tC (.str "drop")) (aj (ak 4) (aj (tC (.int 1)) aG)))) aG))))) (aN 3)) cL)
     (fB (cC (bA (Cv) (ak 5) (tC (.int 3)))) (bD (bA (yI) (ak 3) (iw (aj (fP (aj (tC (.str "name")) (aj (ak 4) (aj (tC (.int 0)) (aj (aR pR [] E0 (aj (ak 2) (aj (bA (rI (fun _ j=>0 < j) fun i j=>.int (i % j)) (ak 4) (tC (.int 2))) aG))) aG))))) (aj (fP (aj (tC (.str "drop")) (aj (ak 4) (aj (tC (.int 0)) aG)))) aG)))) (aN 3)) cL)) ⟨fun σ Hx=>∃ r v4,σ=[some (.ref l),some (.int c),some (.int sd),some (.ref r),v4,some (.int w)]∧aY H Hx∧RL H Hx hs r (34 + 7 * (k + 1)),Q,bI (ak 3) ⟨n,Q,bk,ct⟩,fun σ Hx=>∃ r v4,σ=[some (.ref l),some (.int c),some (.int sd),some (.ref r),v4,some (.int w)]∧aY H Hx∧RL H Hx hs r (34 + 7 * (k + 1))⟩ [some (.ref l),some (.int c),some (.int sd),some (.ref r1),some (.int k),some (.int w)] H3:=by
     intro r1 H3 s3 rl3;refine Hg ?_;walk_at "es";refine wJ (fun _=>?_) (fun _=>?_)
     ·refine Qm ?_;refine Zee ?_;refine Zed ?_;refine Zj7 (H0:=H) s3 (d:=.make k 0 1 0) (e:=.put k 0 0 1) (f:=.drop k 1) (Vs fun H1 Q' h=>by walk_at "ev";exact ⟨aV (by simp),h⟩) (Vs fun H1 Q' h=>by walk_at "ev";exact ⟨aV (by simp),h⟩) (Vs fun H1 Q' h=>by walk_at "ev";exact ⟨aV (by simp),h⟩) ⟨o0,by decide,by decide,by decide⟩ ⟨o0,o1⟩ o1 fun l4 H4 s4 rl4=>?_;refine wW (rl3.same s4) rl4 (by omega) fun r5 H5 s5 _ Ry=>?_;refine Zaw ?_;exact third (s3.trans (s4.trans s5)) (Ry.mono (by omega))
     ·refine sO ?_;exact third s3 (rl3.mono (by omega))
    walk_at "es";refine wJ (fun _=>?_) (fun _=>?_)
    ·refine Qm ?_;refine Zee ?_;refine Zed ?_;refine Zc0 (H0:=H) s2 (d:=.get k 1 0 f) (e:=.put k 0 f 2) (Vs fun H1 Q' h=>by walk_at "ev";rw [ef];exact ⟨aV (by simp),h⟩) (Vs fun H1 Q' h=>by walk_at "ev";rw [ef];exact ⟨aV (by simp),h⟩) ⟨o1,o0⟩ ⟨o0,o2⟩ fun l4 H4 s4 rl4=>?_;refine wW (rl.same s4) rl4 (by omega) fun r5 H5 s5 _ Ry=>?_;refine Zaw ?_;exact second (s2.trans (s4.trans s5)) (Ry.mono (by omega))
    ·refine sO ?_;exact second s2 (rl.mono (by omega))
   ·rintro σ Hx ⟨r,v4,rfl,s2,rl⟩;walk_at "ev";exact q r Hx s2 (rl.mono (by omega))
  walk_at "ev";refine wJ (fun _=>?_) (fun _=>?_)
  ·refine Qm ?_;refine Zee ?_;refine Zed ?_;refine Ql ?_;walk_at "es";refine jV (cU.of (s2 _ _ ol)) ?_;rw [bu,lts];walk_at "es";refine ⟨_,rfl,by omega,by omega,?_⟩;refine Zp0 (n:=hs.length) rfl (by omega) (fun i y Hx=>∃ t,y=.ref t∧H t=none∧Hx t=some (.tup (dV (.make i 1 0 0)))) (fun i y H1 H2 ⟨t,e,f,z⟩ s=>⟨t,e,f,s _ _ z⟩) (fun i H1 q hq=>BJ hq) (fun i H1 hi s3 q hq=>?_) ?_
   ·walk_at "caps";walk_at "ev";exact ⟨aV (by simp),fun t nt=>hq _ _ (aO nt _) ⟨t,rfl,s2.free (s3.free nt),aq⟩⟩
   ·intro ys H3 s3 ly hy p np;have s4:=aO np (.lst ys);have r4:RL H (upd H3 p (.lst ys)) hs p 5:=⟨s2.trans (s3.trans s4),s2.free (s3.free np),ys,aq,by omega,fun v hv=>by
     obtain ⟨i,hi,e⟩:=List.getElem_of_mem hv;obtain ⟨t,e2,fz,z⟩:=hy i v (by rw [cj hi,e]);exact .inr ⟨t,_,e2,fz,s4 _ _ z,hb.ok (by omega) (by decide),by decide,by decide,by decide⟩⟩
    refine wW (rl.same (s3.trans s4)) r4 (by decide) fun r5 H5 s5 _ Ry=>?_;refine Zaw ?_;exact rest (s2.trans (s3.trans (s4.trans s5))) (Ry.mono (by decide))
  ·refine sO ?_;exact rest s2 (rl.mono (by decide))
theorem YH {a l:Addr} (q:∃ ns:List Int,∃ hs,cU K H a (ns.map V.int)∧ns.length≤63∧HsO H l hs∧HsB hs∧∀ r H',aY H H'→RL H H' hs r 700→Q (.ref r) H'):
  yq K (pU K) (Ck K) iZ (HD K) ⟨n,Q,bk,ct⟩ [some (.ref a),some (.ref l),none,none,none,none,none] H:=by
 obtain ⟨ns,hs,hS,hlen,ho,hb,q⟩:=q;unfold yq;walk_at "ev";refine ⟨by decide,fun r0 nr0=>?_⟩;have s1:=aO nr0 (.lst []);have g1:RL H (upd H r0 (.lst [])) hs r0 200:=⟨s1,nr0,[],aq,Nat.zero_le _,fun v hv=>(nomatch hv)⟩;generalize upd H r0 (.lst [])=H1 at s1 g1 ⊢;have rest:∀ {r1:Addr}{H2:Hp},aY H H2→RL H H2 hs r1 200→(pq K (pU K) (Ck K) iZ) ⟨n,Q,bk,ct⟩ [some (.ref a),some (.ref l),some (.ref r1),none,none,none,none] H2:=by
  intro r1 H2 s2 rl2;unfold pq;walk_at "ev";refine ⟨a,2,rfl,ns,s2.seq hS,by decide,fun sd=>?_⟩;walk_at "ev";refine ⟨a,_,rfl,s2.seq hS,fun src Zwr=>?_⟩;have Zu1:∃ zs:List Int,Ziw (ns.map V.int) (some 3) (some 63)=zs.map V.int∧zs.length≤63:=by
   refine ⟨(ns.drop (HT.Zi ns.length 0 (some 3))).take (HT.Zi ns.length ns.length (some 63) - HT.Zi ns.length 0 (some 3)),?_,?_⟩
   ·unfold Ziw;rw [List.map_take,List.map_drop,bu]
   ·rw [List.length_take,List.length_drop];omega
  obtain ⟨zs,ez,lz⟩:=Zu1;rw [ez];have s3:=aO Zwr (.lst (zs.map V.int));have g3:upd H2 src (.lst (zs.map V.int)) src=some (.lst (zs.map V.int)):=aq;generalize upd H2 src (.lst (zs.map V.int))=H3 at s3 g3 ⊢;refine ⟨src,rfl,⟨_,cU.of g3⟩,forL (zs.map V.int) (fun i σ Hx=>∃ r v5 v6,σ=[some (.ref a),some (.ref l),some (.ref r),some (.int sd),some (.int i),v5,v6]∧aY H3 Hx∧RL H Hx hs r (200 + 6 * i)) ⟨r1,_,_,rfl,aY.refl _,rl2.same s3⟩ (fun _ _ _ _ ⟨_,_,_,_,z,_⟩=>cU.of (z _ _ g3)) ?_ ?_⟩
  ·rintro i x σ Hx hi ⟨r,v5,v6,rfl,s4,rl⟩;have hil:=(fG hi).1;rw [bu] at hil;obtain ⟨c,hc,rfl⟩:=List.mem_map.mp (List.mem_of_getElem? hi);have hii:(i:Int) * i≤3969:=by
    have:=Nat.mul_le_mul (show i≤63 by omega) (show i≤63 by omega);have e:((i * i:Nat):Int)=(i:Int) * i:=by push_cast;rfl
    omega
   have hi0:0≤(i:Int) * i:=Int.mul_nonneg (by omega) (by omega);have s04:=s2.trans (s3.trans s4);walk_at "ev";generalize c + (i:Int) * i * 1000003=z;refine ⟨_,_,_,rfl,by decide,by decide,by decide,fun y y0 y1=>?_⟩;walk_at "ev";refine wJ (fun _=>?_) (fun _=>?_)
   ·walk_at "ev";refine ⟨by decide,fun l0 nl0=>?_⟩;have s5:=aO nl0 (.lst [V.non]);have g5:upd Hx l0 (.lst [V.non]) l0=some (.lst [V.non]):=aq;have Ry:=rl.same s5;generalize upd Hx l0 (.lst [V.non])=H5 at s5 g5 Ry ⊢;walk_at "ev";refine ⟨_,_,_,rfl,by decide,by decide,by decide,fun w w0 w1=>?_⟩;walk_at "ev";refine Pj (H0:=H) (hs:=hs) Ry.s g5 (by omega) (by omega) fun l6 H6 s6 _ rl6=>?_;refine wW (Ry.same s6) (rl6.mono (N':=6) (by omega)) (by omega) fun r7 H7 s7 _ rl7=>?_;walk_at "ev";refine Zly rfl ?_;exact ⟨r7,_,_,by rw [show ((i + 1:Nat):Int)=(i:Int) + 1 from by push_cast;rfl];rfl,s4.trans (s5.trans (s6.trans s7)),rl7.mono (by omega)⟩
   ·walk_at "ev";refine ⟨_,_,_,rfl,hs,ho.same s04,hb,fun r5 H5 s5 _ Ry=>?_⟩;have Ry:=Ry.base s04;refine wW (rl.same s5) Ry (by omega) fun r7 H7 s7 _ rl7=>?_;walk_at "ev";refine Zly rfl ?_;exact ⟨r7,_,_,by rw [show ((i + 1:Nat):Int)=(i:Int) + 1 from by push_cast;rfl];rfl,s4.trans (s5.trans s7),rl7.mono (by omega)⟩
  ·rintro σ Hx ⟨r,v5,v6,rfl,s4,rl⟩;rw [bu] at rl;walk_at "ev";refine ⟨by decide,fun l0 nl0=>?_⟩;have s5:=aO nl0 (.lst [V.non]);have g5:upd Hx l0 (.lst [V.non]) l0=some (.lst [V.non]):=aq;have Ry:=rl.same s5;generalize upd Hx l0 (.lst [V.non])=H5 at s5 g5 Ry ⊢;walk_at "ev";refine ⟨_,_,_,rfl,by decide,by decide,by decide,fun w w0 w1=>?_⟩;walk_at "ev";refine Pj (H0:=H) (hs:=hs) Ry.s g5 (by omega) (by omega) fun l6 H6 s6 _ rl6=>?_;refine wW (Ry.same s6) (rl6.mono (N':=24) (by omega)) (by omega) fun r7 H7 s7 _ rl7=>?_;exact q r7 H7 (s2.trans (s3.trans (s4.trans (s5.trans (s6.trans s7))))) (rl7.mono (by omega))
 walk_at "ev";refine ⟨a,0,rfl,ns,s1.seq hS,by decide,fun c0=>?_⟩;walk_at "ev";refine ⟨_,_,_,rfl,by decide,by decide,by decide,fun z z0 z1=>?_⟩;walk_at "ev";refine wJ (fun _=>?_) (fun _=>?_)
 ·walk_at "ev";refine ⟨a,0,rfl,ns,s1.seq hS,by decide,fun c1=>?_⟩;walk_at "ev";refine ⟨a,2,rfl,ns,s1.seq hS,by decide,fun c2=>?_⟩;walk_at "ev";refine ⟨_,_,_,rfl,hs,ho.same s1,hb,fun r H2 s2 rl2=>?_⟩;refine Zsy ?_;exact rest (s1.trans s2) (rl2.base s1)
 ·refine sO ?_;exact rest s1 g1
end
def Ztu (M:Wm):Prop:=M.sw.phase="walk"→M.sw.grey.Nodup∧∀ x∈M.sw.grey,∃ c,cellAt M x=some c∧c.tone=M.sw.sense
structure KW (M:Wm) (hs:QH) (k:Nat):Prop where
 hl:M.hands.length=hs.length
 hn:∀ (i:Nat) m n,M.hands[i]? =some m→hs[i]? =some n→m.2.length=n.2.toNat
 cl:M.cells.length≤k
 nl:M.names.length≤k
 fl:∀ c,some c∈M.cells→c.fl.length≤8
 gr:Ztu M
 ph:M.sw.phase="rest"∨M.sw.phase="walk"∨M.sw.phase="give"∨M.sw.phase="lost"
 a0:0≤M.sw.at'
 tl:0≤M.tells∧M.tells < 4
section
variable {M:Wm}{hs:QH}{k:Nat}
theorem Za5:∀ (n:Nat) (l:List Int),l.Nodup→(∀ x∈l,0≤x∧x < n)→l.length≤n
 | 0,l,_,h=>by
  cases l with
  | nil=>exact Nat.le_refl _
  | cons x l=>have:=h x (by simp);omega
 | n + 1,l,nd,h=>by
  have h1:(l.erase (n:Int)).length≤n:=Za5 n _ (nd.erase _) fun x hx=>by
   have h2:=h x (List.mem_of_mem_erase hx);have h3:x≠(n:Int):=((nd.mem_erase_iff).mp hx).1
   push_cast at h2
   omega
  have h4:=List.length_erase (a:=(n:Int)) (l:=l);split at h4<;>omega
theorem Zix {x:Int}{c:Ce} (h:cellAt M x=some c):0≤x∧x < M.cells.length:=by
 obtain ⟨h0,h1⟩:=fU.mp h;have:=(fG h1).1;omega
theorem KW.ok (p:KW M hs k) (hb:HsB hs) (hk:k≤900):MN M:=by
 have hcl:=p.cl;have hnl:=p.nl;refine ⟨by omega,fun m hm=>?_,fun c hc=>by have:=p.fl c hc;omega,by omega,fun ph=>?_,fun ph x hx=>?_,p.ph,p.a0⟩
 ·obtain ⟨i,hi,e⟩:=List.getElem_of_mem hm;have hi2:i < hs.length:=by rw [← p.hl];exact hi
  have h1:=p.hn i m _ (by rw [cj hi,e]) (cj hi2);have h2:=hb.sb _ (List.getElem_mem hi2);omega
 ·obtain ⟨nd,h1⟩:=p.gr ph;refine Nat.le_trans (Za5 M.cells.length _ nd fun x hx=>?_) (by omega);obtain ⟨c,hc,_⟩:=h1 x hx;exact Zix hc
 ·obtain ⟨c,hc,_⟩:=(p.gr ph).2 x hx;exact ⟨c,hc⟩
theorem KW.zO (p:KW M hs k) {h s:Nat} (o:Pb hs h s):zO M h s:=by
 obtain ⟨m,hm,hlt⟩:=o;have hh:h < M.hands.length:=by rw [p.hl];exact (fG hm).1
 refine ⟨_,cj hh,?_⟩;have:=p.hn h _ m (cj hh) hm;omega
theorem KW.okD (p:KW M hs k) {d:oU} (o:okR hs d):okD M d:=by
 cases d with
 | make h s many bulk=>exact ⟨p.zO o.1,o.2.1,by have:=o.2.2.1;omega,o.2.2.2⟩
 | get h s t f=>exact ⟨p.zO o.1,p.zO o.2⟩
 | put h t f s=>exact ⟨p.zO o.1,p.zO o.2⟩
 | copy h s t=>exact ⟨p.zO o.1,p.zO o.2⟩
 | drop h s=>exact p.zO o
 | give h s g t=>exact ⟨p.zO o.1,p.zO o.2⟩
 | write h t l=>exact p.zO o
 | read h t=>exact p.zO o
 | name h t z=>exact p.zO o
 | seek h s z=>exact p.zO o
theorem KW.mono {k':Nat} (p:KW M hs k) (h:k≤k'):KW M hs k':=by
 obtain ⟨a1,a2,a3,a4,a5,a6,a7,a8,a9⟩:=p;exact ⟨a1,a2,by omega,by omega,a5,a6,a7,a8,a9⟩
theorem KW.slot (p:KW M hs k) (h s:Nat) (x:Option Int):KW (setSlot M h s x) hs k:=by
 obtain ⟨a1,a2,a3,a4,a5,a6,a7,a8,a9⟩:=p;refine ⟨by show (M.hands.modify h _).length=_;rw [List.length_modify];exact a1,fun i m n e1 e2=>?_,a3,a4,a5,a6,a7,a8,a9⟩;have e1:(M.hands.modify h fun m=>(m.1,m.2.set s x))[i]? =some m:=e1;rw [List.getElem?_modify] at e1;cases em:M.hands[i]? with
 | none=>rw [em] at e1;cases e1
 | some m0=>
  rw [em] at e1
  by_cases z:h=i
  ·have e3:(m0.1,m0.2.set s x)=m:=by simpa [z] using e1
   rw [← e3];show (m0.2.set s x).length=_;rw [List.length_set];exact a2 i m0 n em e2
  ·have e3:m0=m:=by simpa [z] using e1
   rw [← e3];exact a2 i m0 n em e2
theorem BZ {i:Int}{c c':Ce} (h:cellAt M i=some c) (x:Int):cellAt (setCell M i c') x=if x=i then some c' else cellAt M x:=by
 obtain ⟨h0,h1⟩:=fU.mp h;unfold cellAt;show (if 0≤x then ((M.cells.set i.toNat (some c'))[x.toNat]?).join else none)=_
 by_cases e:x=i
 ·subst e;rw [if_pos h0,if_pos rfl,List.getElem?_set_self (fG h1).1];rfl
 ·rw [if_neg e]
  by_cases x0:0≤x
  ·rw [if_pos x0,if_pos x0,List.getElem?_set_ne (by omega)]
  ·rw [if_neg x0,if_neg x0]
theorem KW.cell (p:KW M hs k) {i:Int}{c c':Ce} (h:cellAt M i=some c) (ht:c'.tone=c.tone) (hf:c'.fl.length=c.fl.length):KW (setCell M i c') hs k:=by
 have h8:=p.fl c (zb h);obtain ⟨a1,a2,a3,a4,a5,a6,a7,a8,a9⟩:=p;refine ⟨a1,a2,by show (M.cells.set _ _).length≤_;rw [List.length_set];exact a3,a4,fun d hd=>?_,fun ph=>?_,a7,a8,a9⟩
 ·rcases List.mem_or_eq_of_mem_set (show some d∈M.cells.set _ _ from hd) with hd | hd
  ·exact a5 d hd
  ·cases hd;omega
 ·obtain ⟨nd,h1⟩:=a6 ph;refine ⟨nd,fun x hx=>?_⟩;obtain ⟨d,hd,td⟩:=h1 x hx;rw [BZ h]
  by_cases e:x=i
  ·subst e;rw [h] at hd;cases hd;exact ⟨c',by rw [if_pos rfl],by rw [ht];exact td⟩
  ·exact ⟨d,by rw [if_neg e];exact hd,td⟩
theorem KW.note (p:KW M hs k) (x:Option Int):KW (cN M x).2 hs k:=by
 cases x with
 | none=>exact p
 | some i=>
  unfold cN;dsimp only;cases hc:cellAt M i with
  | none=>exact p
  | some c=>
   dsimp only;split
   ·rename_i z
    obtain ⟨z1,z2⟩:=z;have h8:=p.fl c (zb hc);obtain ⟨a1,a2,a3,a4,a5,a6,a7,a8,a9⟩:=p;obtain ⟨nd,h1⟩:=a6 z1;have hni:i∉M.sw.grey:=fun hi=>by
     obtain ⟨d,hd,td⟩:=h1 i hi;rw [hc] at hd;cases hd;exact z2 td
    refine ⟨a1,a2,by show (M.cells.set _ _).length≤_;rw [List.length_set];exact a3,a4,fun d hd=>?_,fun _=>⟨?_,fun x hx=>?_⟩,a7,a8,a9⟩
    ·rcases List.mem_or_eq_of_mem_set (show some d∈M.cells.set _ _ from hd) with hd | hd
     ·exact a5 d hd
     ·cases hd;exact h8
    ·show (M.sw.grey ++ [i]).Nodup;rw [List.nodup_append];exact ⟨nd,by simp,fun a ha b hb e=>hni (by rw [List.mem_singleton.mp hb] at e;rw [← e];exact ha)⟩
    ·have e:=BZ (c':={ c with tone:=M.sw.sense }) hc x;show ∃ d,cellAt (setCell M i { c with tone:=M.sw.sense }) x=some d∧d.tone=M.sw.sense;rw [e]
     by_cases ex:x=i
     ·exact ⟨_,by rw [if_pos ex],rfl⟩
     ·rcases List.mem_append.mp (show x∈M.sw.grey ++ [i] from hx) with hx | hx
      ·obtain ⟨d,hd,td⟩:=h1 x hx;exact ⟨d,by rw [if_neg ex];exact hd,td⟩
      ·exact absurd (List.mem_singleton.mp hx) ex
   ·exact p
theorem KW.notes:∀ {l:List (Option Int)}{M:Wm},KW M hs k→KW (bz M l).2 hs k
 | [],_,p=>p
 | x :: l,_,p=>KW.notes (l:=l) (p.note x)
theorem KW.nh (bits:Int):∀ {l:List (Str×List (Option Int))}{j:Nat}{M:Wm},KW M hs k→KW (iY bits l j M).2 hs k
 | [],_,_,p=>p
 | m :: l,j,M,p=>by
  unfold iY;split
  ·exact KW.nh bits (l:=l) (KW.notes p)
  ·exact KW.nh bits (l:=l) p
theorem KW.put (p:KW M hs k) {u b:Int}{c:Ce} (hf:c.fl.length≤8):KW { M with used:=u,born:=b,cells:=rA M.cells c } hs (k + 1):=by
 obtain ⟨a1,a2,a3,a4,a5,a6,a7,a8,a9⟩:=p;refine ⟨a1,a2,?_,by show M.names.length≤_;omega,fun d hd=>?_,fun ph=>?_,a7,a8,a9⟩
 ·have:=Znx M.cells c;show (rA M.cells c).length≤_;omega
 ·rcases Zl0 hd with hd | hd
  ·exact a5 d hd
  ·cases hd;exact hf
 ·obtain ⟨nd,h1⟩:=a6 ph;refine ⟨nd,fun x hx=>?_⟩;obtain ⟨d,hd,td⟩:=h1 x hx;exact ⟨d,Zf8 hd,td⟩
theorem Zh4 {l:List (Str×(Int×Int))}{z:Str}{v:Int×Int}:(uV l z v).length≤l.length + 1:=by
 unfold uV;split
 ·rw [bu];omega
 ·rw [List.length_append];simp
theorem KW.name (p:KW M hs k) {z:Str}{v:Int×Int}:KW { M with names:=uV M.names z v } hs (k + 1):=by
 obtain ⟨a1,a2,a3,a4,a5,a6,a7,a8,a9⟩:=p;refine ⟨a1,a2,by show M.cells.length≤_;omega,?_,a5,a6,a7,a8,a9⟩;have:=Zh4 (l:=M.names) (z:=z) (v:=v);show (uV M.names z v).length≤_;omega
theorem KW.deed (p:KW M hs k) {d:oU}{e:Ev}{M':Wm} (o:okR hs d) (h:CG M d=.ok (e,M')):KW M' hs (k + 1):=by
 have le:k≤k + 1:=by omega
 cases d with
 | make hh s many bulk=>
  simp only [CG] at h;split at h
  ·have h2:=(Except.ok.inj h);rw [← (Prod.mk.inj h2).2];refine KW.slot (KW.put p ?_) _ _ _;show (List.replicate many.toNat none).length≤8;rw [List.length_replicate];have:=o.2.2.1;omega
  ·cases h
 | get hh s t f=>
  simp only [CG] at h;split at h
  ·cases h
  ·split at h
   ·cases h
   ·split at h
    ·cases h
    ·have h2:=(Except.ok.inj h);rw [← (Prod.mk.inj h2).2];exact (p.slot _ _ _).mono le
 | put hh t f s=>
  simp only [CG] at h;split at h
  ·cases h
  ·split at h
   ·cases h
   ·rename_i c hc
    split at h
    ·cases h
    ·have h2:=(Except.ok.inj h);rw [← (Prod.mk.inj h2).2];exact (KW.notes (p.cell (c':={ c with fl:=c.fl.set f (aU M hh s) }) hc rfl (by show (List.set _ _ _).length=_;rw [List.length_set]))).mono le
 | copy hh s t=>
  have h2:=(Except.ok.inj h);rw [← (Prod.mk.inj h2).2];exact (p.slot _ _ _).mono le
 | drop hh s=>
  have h2:=(Except.ok.inj h);rw [← (Prod.mk.inj h2).2];exact (p.slot _ _ _).mono le
 | give hh s g t=>
  have h2:=(Except.ok.inj h);rw [← (Prod.mk.inj h2).2];exact (KW.notes (p.slot _ _ _)).mono le
 | write hh t l=>
  simp only [CG] at h;split at h
  ·cases h
  ·split at h
   ·cases h
   ·rename_i c hc
    have h2:=(Except.ok.inj h);rw [← (Prod.mk.inj h2).2];exact (p.cell (c':={ c with load:=l }) hc rfl rfl).mono le
 | read hh t=>
  simp only [CG] at h;split at h
  ·cases h
  ·split at h
   ·cases h
   ·have h2:=(Except.ok.inj h);rw [← (Prod.mk.inj h2).2];exact p.mono le
 | name hh t z=>
  simp only [CG] at h;split at h
  ·cases h
  ·split at h
   ·cases h
   ·have h2:=(Except.ok.inj h);rw [← (Prod.mk.inj h2).2];exact p.name
 | seek hh s z=>
  simp only [CG] at h;split at h
  ·cases h
  ·split at h
   ·have h2:=(Except.ok.inj h);rw [← (Prod.mk.inj h2).2];exact (p.slot _ _ _).mono le
   ·have h2:=(Except.ok.inj h);rw [← (Prod.mk.inj h2).2];exact (KW.notes (p.slot _ _ _)).mono le
theorem KW.step (p:KW M hs k) {lb:Int}{lw:List Int}{e:Ev}{M':Wm} (h:uE lb lw M e M'):KW M' hs k:=by
 cases h with
 | begin ph=>
  refine KW.nh _ ?_;obtain ⟨a1,a2,a3,a4,a5,a6,a7,a8,a9⟩:=p;exact ⟨a1,a2,a3,a4,a5,fun _=>⟨List.nodup_nil,fun x hx=>(nomatch hx)⟩,.inr (.inl rfl),a8,a9⟩
 | walk x g c ph hg hc=>
  refine KW.notes ?_;obtain ⟨a1,a2,a3,a4,a5,a6,a7,a8,a9⟩:=p;refine ⟨a1,a2,a3,a4,a5,fun _=>?_,a7,a8,a9⟩;obtain ⟨nd,h1⟩:=a6 ph;rw [hg] at nd h1;exact ⟨(List.nodup_cons.mp nd).2,fun y hy=>h1 y (List.mem_cons_of_mem _ hy)⟩
 | look N ph hg nc hN=>
  have p':KW N hs k:=by rw [hN];exact KW.nh _ p
  obtain ⟨a1,a2,a3,a4,a5,a6,a7,a8,a9⟩:=p';exact ⟨a1,a2,a3,a4,a5,a6,a7,a8,a9⟩
 | cut q qs ph hg cd bf hno=>
  obtain ⟨a1,a2,a3,a4,a5,a6,a7,a8,a9⟩:=p;exact ⟨a1,a2,a3,a4,a5,fun z=>absurd z (show ¬ ("give":Str)="walk" by decide),.inr (.inr (.inl rfl)),Int.le_refl _,a9⟩
 | lost q qs i x c v ph hg cd bf hx hno hc ht=>
  obtain ⟨a1,a2,a3,a4,a5,a6,a7,a8,a9⟩:=p;exact ⟨a1,a2,a3,a4,a5,fun z=>absurd z (show ¬ ("lost":Str)="walk" by decide),.inr (.inr (.inr rfl)),Int.le_refl _,a9⟩
 | pass ph lt hp=>
  obtain ⟨a1,a2,a3,a4,a5,a6,a7,a8,a9⟩:=p;exact ⟨a1,a2,a3,a4,a5,a6,a7,by show 0≤M.sw.at' + 1;omega,a9⟩
 | back c ph lt hc ht=>
  obtain ⟨a1,a2,a3,a4,a5,a6,a7,a8,a9⟩:=p;refine ⟨a1,a2,by show (M.cells.set _ _).length≤_;rw [List.length_set];exact a3,a4,fun d hd=>?_,fun z=>absurd (ph.symm.trans z) (by decide),a7,by show 0≤M.sw.at' + 1;omega,a9⟩;rcases List.mem_or_eq_of_mem_set (show some d∈M.cells.set _ _ from hd) with hd | hd
  ·exact a5 d hd
  ·cases hd
 | fin ph lt=>
  obtain ⟨a1,a2,a3,a4,a5,a6,a7,a8,a9⟩:=p;exact ⟨a1,a2,a3,a4,a5,fun z=>absurd z (show ¬ ("rest":Str)="walk" by decide),.inl rfl,a8,a9⟩
 | again ph=>exact p
theorem KW.new {room:Int}{w t:Int} (h0:0≤t) (h1:t < 4):KW (Zkv room hs w t) hs 0:=by
 refine ⟨by show (hs.map _).length=_;rw [bu],fun i m n e1 e2=>?_,Nat.le_refl _,Nat.le_refl _,fun c hc=>(nomatch hc),fun z=>absurd z (show ¬ ("rest":Str)="walk" by decide),.inl rfl,Int.le_refl _,⟨h0,h1⟩⟩;have e1:(hs.map fun m=>(m.1,List.replicate m.2.toNat (none:Option Int)))[i]? =some m:=e1;rw [dz,e2] at e1;cases e1;exact List.length_replicate
end
inductive Tr where
 | fl:V→Tr
 | ls:List Tr→Tr
 | tp:List Tr→Tr
def Rp (H:Hp) (T:Tg):Nat→V→Tr→Prop
 | 0,v,t=>t=.fl v∧oZ v=true
 | d + 1,v,t=>(t=.fl v∧oZ v=true)∨∃ a xs ts,v=.ref a∧T a=(0,0)∧((H a=some (.lst xs)∧t=.ls ts)∨(H a=some (.tup xs)∧t=.tp ts))∧xs.length≤1000∧Al (Rp H T d) xs ts
structure Kp (H H':Hp) (T T':Tg):Prop where
 k:∀ b o,H b=some o→(T b).1=0∨6≤(T b).1→H' b=some o
 tg:∀ b o,H b=some o→T' b=T b
 al:∀ b o,H b=some o→∃ o',H' b=some o'
theorem Kp.same {H H':Hp}{T:Tg} (s:aY H H'):Kp H H' T T:=⟨fun b o h _=>s _ _ h,fun _ _ _=>rfl,fun b o h=>⟨o,s _ _ h⟩⟩
theorem Kp.stp {s:Nat}{H H':Hp}{T T':Tg} (st:iU s H H' T T') (n:s≠0∧s < 6):Kp H H' T T':=⟨fun b o h t=>st.kp b o h (by omega),st.tg,st.al⟩
theorem Kp.trans {H H1 H2:Hp}{T T1 T2:Tg} (a:Kp H H1 T T1) (b:Kp H1 H2 T1 T2):Kp H H2 T T2:=
 ⟨fun x o h t=>b.k x o (a.k x o h t) (by rw [a.tg x o h];exact t),fun x o h=>by
  obtain ⟨o1,h1⟩:=a.al x o h;exact (b.tg x o1 h1).trans (a.tg x o h),fun x o h=>by
  obtain ⟨o1,h1⟩:=a.al x o h;exact b.al x o1 h1⟩
theorem Kp.tag {H H':Hp}{T:Tg}{l:Addr}{v:Nat×Nat} (n:H l=none) (s:aY H H'):Kp H H' T (fM T l v):=⟨fun b o h _=>s _ _ h,fun b o h=>gZ (aD h n),fun b o h=>⟨o,s _ _ h⟩⟩
theorem kj {α β:Type}{P R:α→β→Prop} (f:∀ a b,P a b→R a b):∀ {xs:List α}{ys:List β},Al P xs ys→Al R xs ys
 | _,_,.nil=>.nil
 | _,_,.cons h t=>.cons (f _ _ h) (kj f t)
theorem YD {α β γ:Type}{P:α→γ→Prop}{P':β→γ→Prop}{R:α→β→Prop} (f:∀ a b c,P a c→P' b c→R a b):∀ {xs:List α}{ys:List β}{zs:List γ},Al P xs zs→Al P' ys zs→Al R xs ys
 | _,_,_,.nil,.nil=>.nil
 | _,_,_,.cons h t,.cons h' t'=>.cons (f _ _ _ h h') (YD f t t')
theorem Rp.kp {H H':Hp}{T T':Tg} (k:Kp H H' T T'):∀ {d:Nat}{v:V}{t:Tr},Rp H T d v t→Rp H' T' d v t:=by
 intro d
 induction d with
 | zero=>intro v t h;exact h
 | succ d ih=>
  rintro v t (h | ⟨a,xs,ts,rfl,ta,h,hl,al⟩)
  ·exact .inl h
  ·rcases h with ⟨h,ht⟩ | ⟨h,ht⟩
   ·have h1:=k.k _ _ h (.inl (by rw [ta]));have t1:=(k.tg _ _ h).trans ta;exact .inr ⟨a,xs,ts,rfl,t1,.inl ⟨h1,ht⟩,hl,kj (fun _ _ z=>ih z) al⟩
   ·have h1:=k.k _ _ h (.inl (by rw [ta]));have t1:=(k.tg _ _ h).trans ta;exact .inr ⟨a,xs,ts,rfl,t1,.inr ⟨h1,ht⟩,hl,kj (fun _ _ z=>ih z) al⟩
theorem qO {H:Hp}{T:Tg}{d:Nat}{v:V} (h:oZ v=true):Rp H T d v (.fl v):=by
 cases d with
 | zero=>exact ⟨rfl,h⟩
 | succ d=>exact .inl ⟨rfl,h⟩
theorem Zq2 (x:Option Int):oZ (oV x)=true:=by cases x<;>rfl
def Zrm (x:List (Option Int)):Tr:=.ls (x.map fun y=>.fl (oV y))
theorem Zjo {H:Hp}{T:Tg}{d:Nat}{a:Addr}{x:List (Option Int)} (t:T a=(0,0)) (h:H a=some (.lst (x.map oV))) (hl:x.length≤1000):Rp H T (d + 1) (.ref a) (Zrm x):=by
 refine .inr ⟨a,_,_,rfl,t,.inl ⟨h,rfl⟩,by rw [bu];exact hl,Ls (by rw [bu,bu]) fun i u w e1 e2=>?_⟩;rw [dz] at e1 e2;obtain ⟨y,hy,rfl⟩:=Option.map_eq_some_iff.mp e1;rw [hy] at e2;cases e2;exact qO (Zq2 y)
def Zjp (rows:List (List (Option Int))):Tr:=.ls (rows.map Zrm)
theorem Zns {H:Hp}{T:Tg}{l:Addr}{ls:List Addr}{rows:List (List (Option Int))} (t:T l=(0,0)) (h:H l=some (.lst (ls.map V.ref))) (n:ls.length=rows.length) (hb:rows.length≤1000) (hr:∀ x∈rows,x.length≤1000) (tr:∀ r∈ls,T r=(0,0))
  (g:∀ (j:Nat) r x,ls[j]? =some r→rows[j]? =some x→H r=some (.lst (x.map oV))):Rp H T 3 (.ref l) (Zjp rows):=by
 refine .inr ⟨l,_,_,rfl,t,.inl ⟨h,rfl⟩,by rw [bu];omega,Ls (by rw [bu,bu];exact n) fun i u w e1 e2=>?_⟩;rw [dz] at e1 e2;obtain ⟨r,hr1,rfl⟩:=Option.map_eq_some_iff.mp e1;obtain ⟨x,hx,rfl⟩:=Option.map_eq_some_iff.mp e2;exact Zjo (tr r (List.mem_of_getElem? hr1)) (g i r x hr1 hx) (hr x (List.mem_of_getElem? hx))
theorem Rp.tg {H:Hp}{T T':Tg} (k:∀ a,T a=(0,0)→T' a=(0,0)):∀ {d:Nat}{v:V}{t:Tr},Rp H T d v t→Rp H T' d v t:=by
 intro d
 induction d with
 | zero=>intro v t h;exact h
 | succ d ih=>
  rintro v t (h | ⟨a,xs,ts,rfl,ta,h,hl,al⟩)
  ·exact .inl h
  ·exact .inr ⟨a,xs,ts,rfl,k a ta,h,hl,kj (fun _ _ z=>ih z) al⟩
theorem Zff {α β:Type}{P:α→β→Prop}:∀ {xs:List α}{ys:List β}{x:α}{y:β},Al P xs ys→P x y→Al P (xs ++ [x]) (ys ++ [y])
 | _,_,_,_,.nil,h=>.cons h .nil
 | _,_,_,_,.cons h0 t,h=>.cons h0 (Zff t h)
theorem Rp.upd {H:Hp}{T:Tg}{l:Addr}{o:HO}{d:Nat}{v:V}{t:Tr} (nl:T l≠(0,0)) (al:∃ u,H l=some u) (z:Rp H T d v t):Rp (L2.upd H l o) T d v t:=by
 have ne:∀ b,T b=(0,0)→b≠l:=fun b tb e=>nl (by rw [← e];exact tb);have z':Rp H (fM T l (3,9)) d v t:=Rp.tg (T:=T) (fun b tb=>by rw [gZ (ne b tb)];exact tb) z;have kk:Kp H (L2.upd H l o) (fM T l (3,9)) (fM T l (3,9)):=⟨fun b u hb t=>by
  rw [aB (fun z=>by
   rw [z,fD] at t;rcases t with t | t
   ·cases t
   ·exact absurd t (by decide))]
  exact hb,fun _ _ _=>rfl,fun b u hb=>by
  by_cases z:b=l
  ·exact ⟨_,by rw [z];exact aq⟩
  ·exact ⟨u,by rw [aB z];exact hb⟩⟩
 refine Rp.tg (fun b tb=>?_) (z'.kp kk)
 by_cases e:b=l
 ·rw [e,fD] at tb;cases tb
 ·rw [gZ e] at tb;exact tb
def Tl (H:Hp):Nat→V→Tr→Prop
 | 0,v,t=>t=.fl v∧oZ v=true
 | d + 1,v,t=>(t=.fl v∧oZ v=true)∨∃ a xs ts,v=.ref a∧((H a=some (.lst xs)∧t=.ls ts)∨(H a=some (.tup xs)∧t=.tp ts))∧Al (Tl H d) xs ts
theorem Rp.tl {H:Hp}{T:Tg}:∀ {d:Nat}{v:V}{t:Tr},Rp H T d v t→Tl H d v t:=by
 intro d
 induction d with
 | zero=>intro v t h;exact h
 | succ d ih=>
  rintro v t (h | ⟨a,xs,ts,rfl,_,h,_,al⟩)
  ·exact .inl h
  ·exact .inr ⟨a,xs,ts,rfl,h,kj (fun _ _ z=>ih z) al⟩
theorem Tl.dq {K:aC}{H:Hp}:∀ {d:Nat}{v w:V}{t:Tr},Tl H d v t→Tl H d w t→Dq K H d v w:=by
 intro d
 induction d with
 | zero=>
  rintro v w t ⟨h1,f1⟩ ⟨h2,f2⟩;rw [h1] at h2;cases h2;exact ⟨rfl,f1⟩
 | succ d ih=>
  rintro v w t (⟨h1,f1⟩ | ⟨a,xs,ts,rfl,h,al⟩) (⟨h2,f2⟩ | ⟨b,ys,us,rfl,h',al'⟩)
  ·rw [h1] at h2;cases h2;exact .inl ⟨rfl,f1⟩
  ·rcases h' with ⟨_,e⟩ | ⟨_,e⟩<;>rw [h1] at e<;>cases e
  ·rcases h with ⟨_,e⟩ | ⟨_,e⟩<;>rw [h2] at e<;>cases e
  ·rcases h with ⟨h,e⟩ | ⟨h,e⟩<;>rcases h' with ⟨h',e'⟩ | ⟨h',e'⟩<;>rw [e] at e'<;>cases e'
   ·exact .inr ⟨a,b,rfl,rfl,.inr ⟨xs,ys,.inl ⟨cU.of h,cU.of h'⟩,YD (P:=Tl H d) (P':=Tl H d) (R:=Dq K H d) (fun _ _ _ z1 z2=>ih z1 z2) al al'⟩⟩
   ·exact .inr ⟨a,b,rfl,rfl,.inr ⟨xs,ys,.inr ⟨gU.of h,gU.of h'⟩,YD (P:=Tl H d) (P':=Tl H d) (R:=Dq K H d) (fun _ _ _ z1 z2=>ih z1 z2) al al'⟩⟩
theorem Zve {K:aC}{H:Hp}:∀ {d e:Nat}{v w:V},d≤e→Dq K H d v w→Dq K H e v w:=by
 intro d
 induction d with
 | zero=>
  intro e v w _ h;cases e with
  | zero=>exact h
  | succ e=>exact .inl h
 | succ d ih=>
  intro e v w he h;cases e with
  | zero=>omega
  | succ e=>
   rcases h with h | ⟨a,b,rfl,rfl,h | ⟨xs,ys,hs,al⟩⟩
   ·exact .inl h
   ·exact .inr ⟨a,b,rfl,rfl,.inl h⟩
   ·exact .inr ⟨a,b,rfl,rfl,.inr ⟨xs,ys,hs,kj (fun _ _ z=>ih (by omega) z) al⟩⟩
theorem Zb7 {K:aC}{H:Hp}{d:Nat}{vs ws:List V}{ts:List Tr} (hd:d≤6) (h1:Al (Tl H d) vs ts) (h2:Al (Tl H d) ws ts):Al (Dq K H 6) vs ws:=kj (fun _ _ z=>Zve hd z) (YD (P:=Tl H d) (P':=Tl H d) (R:=Dq K H d) (fun _ _ _ z1 z2=>Tl.dq z1 z2) h1 h2)
def Zgk (K:aC):Sp:=fun vs H Q E=>∃ a,vs=[.ref a]∧∃ ns:List Int,cU K H a (ns.map V.int)∧ns.length≤63∧∀ H',Q (.bl true) H'
def Nv (X:Cs) (rf:Rf→Addr):Sp:=fun vs H Q E=>∃ wo dd,vs=[.ref wo,.ref dd]∧∃ T s A M d,WT H T∧s≠0∧WJ X H T s A M∧A.wo=wo∧H dd=some (.tup (dV d))∧okD M d∧M.cells.length≤900∧(M.sw.phase="walk"→M.sw.grey.length≤10000)∧(0≤M.tells∧M.tells < 4)∧M.names.length≤1000∧
 (∀ r,CG M d=.error r→∀ H',aY H H'→Q .non H')∧
 (∀ e M',CG M d=.ok (e,M')→∀ H' T' A' a,iU s H H' T T'→WJ X H' T' s A' M'→A'.wo=wo→EvN H H' a e→Q (.ref a) H')
def pQ:Option Ce→Tr
 | none=>.fl .non
 | some c=>.tp [.fl (.int c.birth),.fl (.int c.bulk),.fl (.int c.load),Zrm c.fl]
def Zg0 (names:List (Str×(Int×Int))) (m:Str×(Int×Int)):Tr:=match rF names m.1 with
 | some v=>.tp [.fl (.str m.1),.tp [.fl (.int v.1),.fl (.int v.2)]]
 | none=>.fl .non
def Aj (M:Wm):List Tr:=[Zjp (heldOf M),.ls (M.names.map (Zg0 M.names)),.ls (M.hands.map fun m=>.fl (.str m.1)),.fl (.int M.room),.fl (.int M.born)]
def Cm (X:Cs):Sp:=fun vs H Q E=>∃ wo,vs=[.ref wo]∧∃ T s A M,WT H T∧WJ X H T s A M∧A.wo=wo∧MN M∧∀ l vs H',aY H H'→H l=none→H' l=some (.lst vs)→Al (Rp H' (fM T l (6,9)) 2) vs (M.cells.map pQ)→Q (.ref l) H'
def HF (X:Cs):Sp:=fun vs H Q E=>∃ wo,vs=[.ref wo]∧∃ T s A M,WT H T∧WJ X H T s A M∧A.wo=wo∧MN M∧∀ l vs H',aY H H'→H l=none→H' l=some (.lst vs)→Al (Rp H' T 3) vs (Aj M)→Q (.ref l) H'
section
theorem YS {wo dd CE CN CF CM:Addr} (hE:rf .empty=CE) (hN:rf .qR=CN) (hF:rf .full=CF) (hM:rf .Pk=CM) (q:∃ T s A M d,WT H T∧s≠0∧WJ X H T s A M∧A.wo=wo∧H dd=some (.tup (dV d))∧okD M d∧M.cells.length≤900∧(M.sw.phase="walk"→M.sw.grey.length≤10000)∧(0≤M.tells∧M.tells < 4)∧M.names.length≤1000∧
 (∀ r,CG M d=.error r→∀ H',aY H H'→Q .non H')∧
 (∀ e M',CG M d=.ok (e,M')→∀ H' T' A' a,iU s H H' T T'→WJ X H' T' s A' M'→A'.wo=wo→EvN H H' a e→Q (.ref a) H')):
  yz CE CF CN CM (ZDt X rf) ⟨n,Q,bk,ct⟩ [some (.ref wo),some (.ref dd),none] H:=by
 obtain ⟨T,s,A,M,d,w,s0,j,rfl,ed,od,hc,hg,tl,nm,h1,h2⟩:=q;unfold yz;walk_at "ev";refine ⟨_,dd,rfl,T,s,A,M,d,trivial,w,s0,j,rfl,ed,od,hc,hg,tl,nm,fun r er H' sm=>?_,fun e M' he H' T' A' a st j' aw ev=>?_⟩
 ·refine ⟨?_,?_⟩
  ·cases r
   ·exact .inr (.inr (.inl (by rw [hF])))
   ·exact .inl (by rw [hE])
   ·exact .inr (.inl (by rw [hN]))
   ·exact .inr (.inr (.inr (by rw [hM])))
  ·walk_at "ev";exact h1 r er H' sm
 ·walk_at "ev";exact h2 e M' he H' T' A' a st j' aw ev
theorem Tz {wo:Addr} (Tx:q8 K X) (q:∃ T s A M,WT H T∧WJ X H T s A M∧A.wo=wo∧MN M∧∀ l vs H',aY H H'→H l=none→H' l=some (.lst vs)→Al (Rp H' (fM T l (6,9)) 2) vs (M.cells.map pQ)→Q (.ref l) H'):
  wg K ⟨n,Q,bk,ct⟩ [some (.ref wo),none,none] H:=by
 obtain ⟨T,s,A,M,w,j,rfl,ok,q⟩:=q;have hcl:=ok.cl;have hlc:=j.jc.lc;unfold wg;walk_at "ev";refine ⟨by decide,fun l nl=>?_⟩;have s1:=aO nl (.lst []);have g1:upd H l (.lst []) l=some (.lst []):=aq;generalize upd H l (.lst [])=H1 at s1 g1 ⊢;have j1:=j.same s1;obtain ⟨dw,ow⟩:=j1.jb.ow;obtain ⟨dh,oh⟩:=j1.jh.oh;walk_at "ev";refine aH ow Tx.cW Tx.M8 bC ?_;refine aH oh Tx.c.cB Tx.c.bL bV ?_;have tl:fM T l (6,9) l=(6,9):=fD;have nk:fM T l (6,9) l≠(0,0):=by rw [tl];decide
 refine ⟨_,rfl,⟨_,cU.of j1.jh.oc⟩,forL (A.cs.map pV) (fun i σ Hx=>∃ vs v2,σ=[some (.ref A.wo),some (.ref l),v2]∧aY H Hx∧Hx l=some (.lst vs)∧vs.length=i∧Al (Rp Hx (fM T l (6,9)) 2) vs ((M.cells.take i).map pQ)) ⟨[],_,rfl,s1,g1,rfl,.nil⟩ (fun _ _ _ _ ⟨_,_,_,z,_⟩=>cU.of (j.same z).jh.oc) ?_ ?_⟩
 ·rintro i x σ Hx hi ⟨vs,v2,rfl,s2,g2,hl,al⟩;have hil:=(fG hi).1;rw [bu] at hil;have Zwu:i < M.cells.length:=by omega
  have j2:=j.same s2;rw [dz] at hi;obtain ⟨po,hpo,rfl⟩:=Option.map_eq_some_iff.mp hi;have hco:M.cells[i]? =some M.cells[i]:=cj Zwu;have ce:=j2.jc.ce i _ _ hpo hco;have etk:M.cells.take (i + 1)=M.cells.take i ++ [M.cells[i]]:=by rw [List.take_add_one,hco];rfl
  have hln:vs.length < sizeLine:=Nat.lt_of_le_of_lt (show _≤1000 by omega) (by decide);cases po with
  | none=>
   cases hcc:M.cells[i] with
   | some c=>rw [hcc] at ce;exact ce.elim
   | none=>
    rw [show pV none=V.non from rfl];walk_at "ev";refine ⟨.inl ⟨rfl,_,cU.of g2⟩,?_⟩;walk_at "ev";refine ⟨l,_,_,rfl,rfl,g2,hln,?_⟩;walk_at "ev";refine ⟨vs ++ [.non],_,rfl,fun b o hb=>by rw [aB (aD hb nl)];exact s2 _ _ hb,aq,by rw [List.length_append,hl];rfl,?_⟩;rw [etk,List.map_append,hcc];exact Zff (kj (fun _ _ z=>z.upd nk ⟨_,g2⟩) al) (.inl ⟨rfl,rfl⟩)
  | some p=>
   cases hcc:M.cells[i] with
   | none=>rw [hcc] at ce;exact ce.elim
   | some c=>
    rw [hcc] at ce;have ce:QZ X.C Hx T s i p c:=ce;obtain ⟨_,_,⟨dc,oc⟩,ofl⟩:=ce;have h50:=ok.fl c (List.mem_of_getElem? (by rw [hco,hcc]));rw [show pV (some p)=V.ref p.1 from rfl];walk_at "ev";refine ⟨.inl ⟨rfl,_,cU.of g2⟩,?_⟩;walk_at "ev";refine aH oc Tx.c.cP Tx.c.dN gA ?_;walk_at "ev";refine aH oc Tx.c.cP Tx.c.lM Dz ?_;walk_at "ev";refine aH oc Tx.c.cP Tx.c.jj wV ?_;walk_at "ev";refine aH oc Tx.c.cP Tx.c.eO jW ?_;walk_at "ev";refine Ni (cU.of ofl) fun f nf=>?_;have s3:=aO nf (.lst (c.fl.map oV));have g3:upd Hx f (.lst (c.fl.map oV)) f=some (.lst (c.fl.map oV)):=aq;generalize upd Hx f (.lst (c.fl.map oV))=H3 at s3 g3 ⊢;walk_at "ev";refine ⟨aV (by simp),fun r nr=>?_⟩;have s4:=aO nr (.tup [.int c.birth,.int c.bulk,.int c.load,.ref f]);have g4:upd H3 r (.tup [.int c.birth,.int c.bulk,.int c.load,.ref f]) r=some (.tup [.int c.birth,.int c.bulk,.int c.load,.ref f]):=aq;generalize upd H3 r (.tup [.int c.birth,.int c.bulk,.int c.load,.ref f])=H4 at s4 g4 ⊢;have s34:=s3.trans s4;have nlf:f≠l:=fun z=>by rw [z,g2] at nf;cases nf
    have nlr:r≠l:=fun z=>by rw [z,s3 _ _ g2] at nr;cases nr
    have tf:fM T l (6,9) f=(0,0):=by rw [gZ nlf];exact w _ (s2.free nf)
    have tr:fM T l (6,9) r=(0,0):=by rw [gZ nlr];exact w _ (s2.free (s3.free nr))
    walk_at "ev";refine ⟨l,_,_,rfl,rfl,s34 _ _ g2,hln,?_⟩;walk_at "ev";refine ⟨vs ++ [.ref r],_,rfl,fun b o hb=>by rw [aB (aD hb nl)];exact s34 _ _ (s2 _ _ hb),aq,by rw [List.length_append,hl];rfl,?_⟩;rw [etk,List.map_append,hcc];refine Zff (kj (fun _ _ z=>(Rp.kp (Kp.same s34) z).upd nk ⟨_,s34 _ _ g2⟩) al) ?_;refine Rp.upd nk ⟨_,s34 _ _ g2⟩ ?_;exact .inr ⟨r,_,_,rfl,tr,.inr ⟨g4,rfl⟩,by simp,.cons (qO rfl) (.cons (qO rfl) (.cons (qO rfl) (.cons (Zjo tf (s4 _ _ g3) (by omega)) .nil)))⟩
 ·rintro σ Hx ⟨vs,v2,rfl,s2,g2,hl,al⟩;walk_at "ev";rw [bu,hlc,List.take_length] at al;exact q l vs Hx s2 nl g2 al
theorem Zfz {H:Hp}{T:Tg}:∀ {ns:List Addr}{names:List (Str×(Int×Int))},Al (NmO H T) ns names→(yS names ns).map (fun p=>kV p.1)=names.map fun m=>V.str m.1
 | [],[],_=>rfl
 | [],_ :: _,h=>nomatch h
 | _ :: _,[],h=>nomatch h
 | t :: ns,m :: names,.cons _ h=>by
  show V.str m.1 :: (yS names ns).map (fun p=>kV p.1)=_;rw [Zfz h];rfl
end
section
theorem Zih {l:List (Str×(Int×Int))}{m:Str×(Int×Int)} (h:m∈l):∃ v,rF l m.1=some v:=by
 unfold rF;cases e:l.find? fun x=>decide (x.1=m.1) with
 | some x=>exact ⟨x.2,rfl⟩
 | none=>
  have:=List.find?_eq_none.mp e m h;simp at this
theorem YK {wo:Addr} (Tx:q8 K X) (q:∃ T s A M,WT H T∧WJ X H T s A M∧A.wo=wo∧MN M∧∀ l vs H',aY H H'→H l=none→H' l=some (.lst vs)→Al (Rp H' T 3) vs (Aj M)→Q (.ref l) H'):
  yt K (Ez X) ⟨n,Q,bk,ct⟩ [some (.ref wo),none,none] H:=by
 obtain ⟨T,s,A,M,w,j,rfl,ok,q⟩:=q;have hnl:=ok.nl;have lh:=j.jd.lh;have l5:=j.jd.l5;obtain ⟨dw,ow⟩:=j.jb.ow;unfold yt;walk_at "ev";refine Ql ?_;walk_at "ev";refine aH ow Tx.cW Tx.nWn iW ?_;walk_at "ev";refine Zpi j.jn.om fun la nla=>?_;rw [Zfz j.jn.nms];have s1:=aO nla (.lst (M.names.map fun m=>V.str m.1));have g1:upd H la (.lst (M.names.map fun m=>V.str m.1)) la=some (.lst (M.names.map fun m=>V.str m.1)):=aq;generalize upd H la (.lst (M.names.map fun m=>V.str m.1))=H1 at s1 g1 ⊢;refine ⟨la,rfl,⟨_,cU.of g1⟩,?_⟩;refine Zaf (cU.of g1) (by rw [bu];omega) (fun i r Hx=>∃ m v p,M.names[i]? =some m∧rF M.names m.1=some v∧Hx r=some (.tup [.str m.1,.ref p])∧Hx p=some (.tup [.int v.1,.int v.2])∧T p=(0,0)) (fun i r Ha Hb h s=>by
   obtain ⟨m,v,p,e1,e2,e3,e4,e5⟩:=h;exact ⟨m,v,p,e1,e2,s _ _ e3,s _ _ e4,e5⟩) (fun i r Ha h=>by
   obtain ⟨_,_,_,_,_,z,_⟩:=h;exact ⟨_,z⟩) (fun x H1 q hq=>BJ hq) (fun i x H2 hi s2 q' hq=>?_) ?_
 ·rw [dz] at hi;obtain ⟨m,hm,rfl⟩:=Option.map_eq_some_iff.mp hi;have j2:=(j.same s1).same s2;obtain ⟨dw2,ow2⟩:=j2.jb.ow;walk_at "caps";walk_at "ev";refine aH ow2 Tx.cW Tx.nWn iW ?_;walk_at "ev";obtain ⟨v,hv⟩:=Zih (List.mem_of_getElem? hm);rcases Zkt (z:=m.1) j2.jn.nms with ⟨e1,_⟩ | ⟨p,b,t,e1,e2,ot,tt⟩
  ·rw [hv] at e1;cases e1
  ·rw [hv] at e1;cases e1;refine ⟨_,_,rfl,by have:=Zgb (z:=m.1) j2.jn.om;rw [e2] at this;exact this,?_⟩;walk_at "ev";refine ⟨aV (by simp),fun r nr=>?_⟩;have s3:=aO nr (.tup [.str m.1,.ref t]);exact hq r _ s3 nr ⟨m,(p,b),t,hm,hv,aq,s3 _ _ ot,tt⟩
 ·intro rs H2 s2 hl2 nd2 nn2 hr2 ln nln;rw [bu] at hl2;have s3:=aO nln (.lst (rs.map V.ref));have g3:upd H2 ln (.lst (rs.map V.ref)) ln=some (.lst (rs.map V.ref)):=aq;generalize upd H2 ln (.lst (rs.map V.ref))=H3 at s3 g3 ⊢;have s03:=s1.trans (s2.trans s3);have j3:=j.same s03;obtain ⟨dw3,ow3⟩:=j3.jb.ow;have rn:Rp H3 T 3 (.ref ln) (.ls (M.names.map (Zg0 M.names))):=by
   refine .inr ⟨ln,_,_,rfl,w _ (s1.free (s2.free nln)),.inl ⟨g3,rfl⟩,by rw [bu];omega,Ls (by rw [bu,bu];exact hl2) fun i u v e1 e2=>?_⟩;rw [dz] at e1 e2;obtain ⟨r,hr,rfl⟩:=Option.map_eq_some_iff.mp e1;obtain ⟨m,hm,rfl⟩:=Option.map_eq_some_iff.mp e2;obtain ⟨m',v,p,z1,z2,z3,z4,z5⟩:=hr2 i r hr;rw [hm] at z1;cases z1;have:Zg0 M.names m=.tp [.fl (.str m.1),.tp [.fl (.int v.1),.fl (.int v.2)]]:=by unfold Zg0;rw [z2]
   rw [this];exact .inr ⟨r,_,_,rfl,w _ (s1.free (nn2 r (List.mem_of_getElem? hr))),.inr ⟨s3 _ _ z3,rfl⟩,by simp,.cons (qO rfl) (.cons (.inr ⟨p,_,_,rfl,z5,.inr ⟨s3 _ _ z4,rfl⟩,by simp,.cons (qO rfl) (.cons (qO rfl) .nil)⟩) .nil)⟩
  walk_at "ev";refine Ql ?_;walk_at "ev";refine aH ow3 Tx.cW Tx.nWd eN ?_;refine ⟨_,rfl,⟨_,cU.of j3.jb.on⟩,?_⟩;refine Xj (cU.of j3.jb.on) (fun i=>(M.hands[i]?).map fun m=>V.str m.1) (by rw [bu];omega) (fun i x hi=>?_) ?_
  ·rw [dz] at hi;obtain ⟨p,hp,rfl⟩:=Option.map_eq_some_iff.mp hi;obtain ⟨m,hm,hd⟩:=j3.hand hp;obtain ⟨dx,o1⟩:=hd.o1;refine ⟨fun q hq=>?_,fun y q hy hq=>?_⟩
   ·rw [hm] at hq;exact BJ hq
   ·rw [hm] at hy;cases hy;walk_at "caps";walk_at "ev";refine aH o1 Tx.cD Tx.nDn S6 ?_;exact hq
  ·intro lg nlg;have eg:(List.range (A.hs.map fun p=>V.ref p.1).length).filterMap (fun i=>(M.hands[i]?).map fun m=>V.str m.1)=M.hands.map fun m=>V.str m.1:=by
    rw [bu,lh];have:=Ox (fun (m:Str×List (Option Int))=>some (V.str m.1)) M.hands;rw [List.filterMap_eq_map'] at this;rw [← this];refine Hl fun i _=>?_;cases M.hands[i]?<;>rfl
   rw [eg];have s4:=aO nlg (.lst (M.hands.map fun m=>V.str m.1));have g4:upd H3 lg (.lst (M.hands.map fun m=>V.str m.1)) lg=some (.lst (M.hands.map fun m=>V.str m.1)):=aq;have tg:T lg=(0,0):=w _ (s03.free nlg);generalize upd H3 lg (.lst (M.hands.map fun m=>V.str m.1))=H4 at s4 g4 ⊢;have s04:=s03.trans s4;have j4:=j.same s04;have rg:Rp H4 T 3 (.ref lg) (.ls (M.hands.map fun m=>.fl (.str m.1))):=.inr ⟨lg,_,_,rfl,tg,.inl ⟨g4,rfl⟩,by rw [bu];omega,Ls (by rw [bu,bu]) fun i u v e1 e2=>by
    rw [dz] at e1 e2;obtain ⟨m,hm,rfl⟩:=Option.map_eq_some_iff.mp e1;rw [hm] at e2;cases e2;exact qO rfl⟩
   walk_at "ev";refine ⟨A.wo,rfl,T,s,A,M,j4,rfl,by omega,fun lr ls H5 s5 nlr olr hls nd5 nn5 ZE3 g5=>?_⟩;have hhl:(heldOf M).length=M.hands.length:=by unfold heldOf;rw [bu]
   have rr:Rp H5 T 3 (.ref lr) (Zjp (heldOf M)):=Zns (w _ (s04.free nlr)) olr hls (by omega) (fun x hx=>by
    obtain ⟨m,hm,rfl⟩:=List.mem_map.mp hx;have:=ok.hl m hm;omega) (fun r hr=>w _ (s04.free (nn5 r hr))) g5
   have s05:=s04.trans s5;have j5:=j.same s05;obtain ⟨dw5,ow5⟩:=j5.jb.ow;obtain ⟨dh5,oh5⟩:=j5.jh.oh;walk_at "ev";refine aH ow5 Tx.cW Tx.M8 bC ?_;refine aH oh5 Tx.c.cB Tx.c.lJ Dt ?_;walk_at "ev";refine aH ow5 Tx.cW Tx.M8 bC ?_;refine aH oh5 Tx.c.cB Tx.c.j7 Du ?_;walk_at "ev";refine ⟨aV (by simp),fun l nl=>?_⟩;have s6:=aO nl (.lst [.ref lr,.ref ln,.ref lg,.int M.room,.int M.born]);refine q l _ _ (s05.trans s6) (s05.free nl) aq ?_;exact .cons (rr.kp (Kp.same s6)) (.cons (rn.kp (Kp.same (s4.trans (s5.trans s6)))) (.cons (rg.kp (Kp.same (s5.trans s6))) (.cons (qO rfl) (.cons (qO rfl) .nil))))
end
theorem Zbg (o:Option Ce):pQ (o.map fun c=>{ c with tone:=0 })=pQ o:=by cases o<;>rfl
theorem Zm.cells {M M':Wm} (h:Zm M M'):M'.cells.map pQ=M.cells.map pQ:=by
 have e:∀ l:List (Option Ce),l.map pQ=(l.map fun o=>o.map fun c=>{ c with tone:=0 }).map pQ:=fun l=>by
  rw [List.map_map];exact List.map_congr_left fun o _=>(Zbg o).symm
 rw [e M'.cells,h.ce,← e]
theorem Zm.rest {M M':Wm} (h:Zm M M'):Aj M'=Aj M:=by
 unfold Aj heldOf;rw [h.hd,h.nm,h.rm,h.bn]
theorem uE.keeps {lb:Int}{lw:List Int}{M M':Wm}{e:Ev} (h:uE lb lw M e M'):Aj M'=Aj M∧(∃ i,e.thing=some i)∧((e.word≠"back"∧M'.cells.map pQ=M.cells.map pQ)∨∃ (p:Nat) (c:Ce),e=⟨"back",some c.birth,[(p:Int)]⟩∧M.cells[p]? =some (some c)∧M'.cells=M.cells.set p none):=by
 cases h with
 | begin ph=>
  have nt:=JD (nj M.w M.hands.length) M.hands 0 (zm M);exact ⟨nt.rest,⟨_,rfl⟩,.inl ⟨show ¬ ("begin":Str)="back" by decide,nt.cells⟩⟩
 | walk x g c ph hg hc=>
  have nt:=JC c.fl { M with sw:={ M.sw with grey:=g,walks:=M.sw.walks + 1 } };exact ⟨nt.rest,⟨_,rfl⟩,.inl ⟨show ¬ ("walk":Str)="back" by decide,nt.cells⟩⟩
 | look N ph hg nc hN=>
  subst hN;have nt:=JD (cJ M) M.hands 0 M;exact ⟨nt.rest,⟨_,rfl⟩,.inl ⟨show ¬ ("look":Str)="back" by decide,nt.cells⟩⟩
 | cut q qs ph hg cd bf hno=>exact ⟨rfl,⟨_,rfl⟩,.inl ⟨show ¬ ("cut":Str)="back" by decide,rfl⟩⟩
 | lost q qs i x c v ph hg cd bf hx hno hc ht=>exact ⟨rfl,⟨_,rfl⟩,.inl ⟨show ¬ ("lost":Str)="back" by decide,rfl⟩⟩
 | pass ph lt hp=>exact ⟨rfl,⟨_,rfl⟩,.inl ⟨show ¬ ("pass":Str)="back" by decide,rfl⟩⟩
 | back c ph lt hc ht=>
  obtain ⟨h0,h1⟩:=fU.mp hc;refine ⟨rfl,⟨_,rfl⟩,.inr ⟨M.sw.at'.toNat,c,?_,h1,rfl⟩⟩;rw [show ((M.sw.at'.toNat:Nat):Int)=M.sw.at' from by omega]
 | fin ph lt=>exact ⟨rfl,⟨_,rfl⟩,.inl ⟨show ¬ ("end":Str)="back" by decide,rfl⟩⟩
 | again ph=>exact ⟨rfl,⟨_,rfl⟩,.inl ⟨show ¬ ("lost":Str)="back" by decide,rfl⟩⟩
def Nk (X:Cs):Sp:=fun vs H Q E=>∃ wo way,vs=[.ref wo,.int way]∧∃ T A M hs k,WT H T∧WJ X H T 1 A M∧A.wo=wo∧KW M hs k∧HsB hs∧k≤900∧M.sw.phase≠"lost"∧
 ∀ H' T' A' M',Kp H H' T T'→WT H' T'→WJ X H' T' 1 A' M'→A'.wo=wo→KW M' hs k→Q (.bl true) H'
section
theorem Zr {T:Tg}{A:Wa}{M:Wm}{wo lc lo ev:Addr}{way:Int}{vs ws:List V}{v5:Option V} (w:WT H T) (j:WJ X H T 1 A M) (aw:A.wo=wo) (ok:MN M) (olc:H lc=some (.lst vs)) (al1:Al (Rp H T 2) vs (M.cells.map pQ)) (olo:H lo=some (.lst ws)) (al2:Al (Rp H T 3) ws (Aj M)) (q:∀ H',aY H H'→Q (.bl true) H'):
  o9 K (Cm X) (HF X) ⟨n,Q,bk,ct⟩ [some (.ref wo),some (.int way),some (.ref lc),some (.ref lo),some (.ref ev),v5] H:=by
 unfold o9;walk_at "ev";refine ⟨_,rfl,T,1,A,M,w,j,aw,ok,fun l vs2 H1 s1 nl o1 al=>?_⟩;walk_at "ev";refine Zlv (.inl ⟨cU.of o1,cU.of (s1 _ _ olc)⟩) (Zb7 (d:=2) (by decide) (kj (fun _ _ z=>z.tl) al) (kj (fun _ _ z=>(Rp.kp (Kp.same s1) z).tl) al1)) ?_;walk_at "ev";refine ⟨_,rfl,T,1,A,M,w.same s1,j.same s1,aw,ok,fun l' ws2 H2 s2 nl' o2 al'=>?_⟩;have s12:=s1.trans s2;walk_at "ev";refine Zlv (.inl ⟨cU.of o2,cU.of (s12 _ _ olo)⟩) (Zb7 (d:=3) (by decide) (kj (fun _ _ z=>z.tl) al') (kj (fun _ _ z=>(Rp.kp (Kp.same s12) z).tl) al2)) ?_;exact q H2 s12
theorem YG {wo:Addr}{way:Int} (q:∃ T A M hs k,WT H T∧WJ X H T 1 A M∧A.wo=wo∧KW M hs k∧HsB hs∧k≤900∧M.sw.phase≠"lost"∧
 ∀ H' T' A' M',Kp H H' T T'→WT H' T'→WJ X H' T' 1 A' M'→A'.wo=wo→KW M' hs k→Q (.bl true) H'):
  yp K (Cm X) (Nx K) (HF X) (bR X Zkg) ⟨n,Q,bk,ct⟩ [some (.ref wo),some (.int way),none,none,none,none] H:=by
 obtain ⟨T,A,M,hs,k,w,j,rfl,p,hb,hk,ph,q⟩:=q;have ok:=p.ok hb hk;unfold yp;walk_at "ev";refine ⟨_,rfl,T,1,A,M,w,j,rfl,ok,fun lc vs H1 s1 nlc olc al1=>?_⟩;have w1:WT H1 (fM T lc (6,9)):=Vq (w.same s1) olc;have j1:WJ X H1 (fM T lc (6,9)) 1 A M:=j.mv ⟨fun b o hb _ _=>s1 _ _ hb,fun b o hb=>gZ (aD hb nlc)⟩ fun b o hb _=>s1 _ _ hb;have k1:Kp H H1 T (fM T lc (6,9)):=Kp.tag nlc s1;have t1:fM T lc (6,9) lc=(6,9):=fD;generalize fM T lc (6,9)=T1 at w1 j1 k1 t1 al1;walk_at "ev";refine ⟨_,rfl,T1,1,A,M,w1,j1,rfl,ok,fun lo ws H2 s2 nlo olo al2=>?_⟩;have tlo:T1 lo=(0,0):=w1 _ nlo;have al1:=kj (fun _ _ z=>Rp.kp (Kp.same s2) z) al1;have olc:=s2 _ _ olc;have k2:=k1.trans (Kp.same s2);walk_at "ev";refine ⟨_,rfl,T1,1,A,M,0,[],w1.same s2,by decide,j1.same s2,rfl,ok,trivial,fun z=>absurd z ph,fun e M' r H3 T3 A3 a st j3 aw3 ev lo3=>?_⟩;have ks:Kp H2 H3 T1 T3:=Kp.stp st ⟨by decide,by decide⟩;have k3:=k2.trans ks;have p3:=p.step r;have ok3:=p3.ok hb hk;obtain ⟨er,⟨ti,et⟩,ec⟩:=r.keeps;have al1:=kj (fun _ _ z=>Rp.kp ks z) al1;have al2:=kj (fun _ _ z=>Rp.kp ks z) al2;have olc:=ks.k _ _ olc (.inr (by rw [t1];decide));have t3:T3 lc=(6,9):=(ks.tg _ _ (s2 _ _ ‹H1 lc=some (.lst vs)›)).trans t1;have olo:=ks.k _ _ olo (.inl (by rw [tlo]));obtain ⟨l,nl,oa,ol⟩:=ev;rw [et] at oa;rw [← er] at al2;have oa:H3 a=some (.tup [.str e.word,.int ti,.ref l]):=oa;walk_at "ev";refine ⟨_,_,rfl,e.word,ti,l,l,e.notes,oa,oa,ol,ol,?_⟩;walk_at "ev";refine ⟨a,_,0,_,rfl,rfl,gU.of oa,rfl,?_⟩;walk_at "ev";rcases ec with ⟨nb,ec⟩ | ⟨pl,c,rfl,hc,ec⟩
 ·refine wJ (fun z=>absurd z nb) (fun _=>?_);refine sO ?_;rw [← ec] at al1;exact Zr st.wt j3 aw3 ok3 olc al1 olo al2 fun H' sm=>q H' T3 A3 M' (k3.trans (Kp.same sm)) (st.wt.same sm) (j3.same sm) aw3 p3
 ·cases et;have hcl:=(fG hc).1;have lvs:vs.length=M.cells.length:=by rw [al1.length,bu]
  refine wJ (fun _=>?_) (fun z=>absurd rfl z);walk_at "ev";refine ⟨a,_,2,_,rfl,rfl,gU.of oa,rfl,?_⟩;walk_at "ev";refine jV (cU.of ol) ?_;walk_at "ev";refine SN (fun z=>absurd rfl z) (fun _=>?_);walk_at "ev";refine ⟨a,_,2,_,rfl,rfl,gU.of oa,rfl,?_⟩;walk_at "ev";refine j9 (cU.of ol) (ie (j:=0) (v:=.int pl) rfl) ?_;walk_at "ev";refine wJ (fun _=>?_) (fun z=>absurd (show (0:Int)≤pl by omega) z);walk_at "ev";refine jV (cU.of olc) ?_;walk_at "ev";refine SN (fun z=>absurd (show (pl:Int) < vs.length by omega) z) (fun _=>?_);walk_at "ev";refine ⟨a,_,2,_,rfl,rfl,gU.of oa,rfl,?_⟩;walk_at "ev";refine j9 (cU.of ol) (ie (j:=0) (v:=.int pl) rfl) ?_;obtain ⟨v,ev,rv⟩:=al1.get (y:=pQ (some c)) (i:=pl) (by rw [dz,hc];rfl);refine j9 (cU.of olc) (ie ev) ?_;rcases rv with ⟨z,_⟩ | ⟨t,xs,ts,rfl,tt,⟨_,z⟩ | ⟨ot,z⟩,_,alt⟩
  ·cases z
  ·cases z
  ·cases z;obtain ⟨x0,e0,r0⟩:=alt.get (i:=0) (y:=.fl (.int c.birth)) rfl;have ex0:x0=.int c.birth:=by
    rcases r0 with ⟨z,_⟩ | ⟨_,_,_,_,_,⟨_,z⟩ | ⟨_,z⟩,_⟩
    ·cases z;rfl
    ·cases z
    ·cases z
   subst ex0;walk_at "ev";refine ⟨t,_,0,_,rfl,rfl,gU.of ot,ie (j:=0) e0,?_⟩;walk_at "ev";refine ⟨a,_,1,_,rfl,rfl,gU.of oa,rfl,?_⟩;walk_at "ev";refine SN (fun z=>absurd rfl z) (fun _=>?_);walk_at "ev";refine ⟨a,_,2,_,rfl,rfl,gU.of oa,rfl,?_⟩;walk_at "ev";refine j9 (cU.of ol) (ie (j:=0) (v:=.int pl) rfl) ?_;refine ⟨lc,_,_,pl,rfl,rfl,olc,qX (by omega),?_⟩;have nk:T3 lc≠(0,0):=by rw [t3];decide
   have st4:iU 6 H3 (upd H3 lc (.lst (vs.set pl .non))) T3 T3:=iU.upd st.wt olc (by rw [t3]);have j4:=j3.other st4 (by decide) (by decide);have al3:Al (Rp (upd H3 lc (.lst (vs.set pl .non))) T3 2) (vs.set pl .non) (M'.cells.map pQ):=by
    refine Ls (by rw [List.length_set,bu,ec,List.length_set];exact lvs) fun i x y e1 e2=>?_;rw [ec,List.map_set] at e2
    by_cases hi:pl=i
    ·subst hi;rw [List.getElem?_set_self (by omega)] at e1;rw [List.getElem?_set_self (by rw [bu];exact hcl)] at e2;cases e1;cases e2;exact .inl ⟨rfl,rfl⟩
    ·rw [List.getElem?_set_ne hi] at e1 e2;obtain ⟨x',e3,z⟩:=al1.get e2;rw [e1] at e3;cases e3;exact z.upd nk ⟨_,olc⟩
   have al4:=kj (fun _ _ z=>Rp.upd (o:=.lst (vs.set pl .non)) nk ⟨_,olc⟩ z) al2;have nlo:lo≠lc:=fun z=>nk (by rw [← z];exact (ks.tg _ _ ‹H2 lo=some (.lst ws)›).trans tlo);have kp4:∀ b o,H3 b=some o→(T3 b).1=0∨6≤(T3 b).1→b≠lc→upd H3 lc (.lst (vs.set pl .non)) b=some o:=fun b o hb _ nb=>by rw [aB nb];exact hb
   refine Zr st4.wt j4 aw3 ok3 aq al3 (by rw [aB nlo];exact olo) al4 fun H' sm=>?_;refine q H' T3 A3 M' ?_ (st4.wt.same sm) (j4.same sm) aw3 p3;refine ⟨fun b o hb tb=>?_,k3.tg,fun b o hb=>?_⟩
   ·have h3:=k3.k b o hb tb;have nb:b≠lc:=fun z=>by rw [z,nlc] at hb;cases hb
    exact sm _ _ (by rw [aB nb];exact h3)
   ·obtain ⟨o',h3⟩:=k3.al b o hb;have nb:b≠lc:=fun z=>by rw [z,nlc] at hb;cases hb
    exact ⟨o',sm _ _ (by rw [aB nb];exact h3)⟩
end
section
theorem Zs9 {a:Addr} (Tx:q8 K X) (q:∃ ns:List Int,cU K H a (ns.map V.int)∧ns.length≤63∧∀ H',Q (.bl true) H'):
  Zd2 K X.W (tQ X) (pU K) (Nv X rf) (Nu K) (Nt X) (Y0 K) (Nm K) (Nk X) ⟨n,Q,bk,ct⟩ [some (.ref a),none,none,none,none] H:=by
 obtain ⟨ns0,hS,hlen,h⟩:=q;unfold Zd2;walk_at "ev";refine ⟨a,0,rfl,ns0,hS,by decide,fun z0=>?_⟩;walk_at "ev";generalize z0 % 12=way;refine ⟨a,rfl,ns0,hS,fun lh hs H1 s1 nlh ho hb=>?_⟩;walk_at "ev";refine ⟨a,rfl,ns0,s1.seq hS,fun room=>?_⟩;walk_at "ev";refine ⟨_,rfl,fun ki lk w t H2 t0 t1 ew s2 nki nlk kd=>?_⟩;have s02:=s1.trans s2;have ho2:=ho.same s2;obtain ⟨ts,olh,al⟩:=id ho2;have lts:=al.length;have n5:=hb.n5;walk_at "ev";refine Ni (cU.of olh) fun hl0 Zw2=>?_;have s3:=aO Zw2 (.lst (ts.map V.ref));have g3:upd H2 hl0 (.lst (ts.map V.ref)) hl0=some (.lst (ts.map V.ref)):=aq;generalize upd H2 hl0 (.lst (ts.map V.ref))=H3 at s3 g3 ⊢;have kd3:=kd.same s3;have ho3:=ho2.same s3;have s03:=s02.trans s3;walk_at "ev";intro wo dx nwo ndx ned;have s7:aY H3 (upd (upd H3 dx (.own wo)) wo (.ins X.W dx [])):=fun b o hb=>by rw [aB (aD hb nwo),aB (aD hb ndx)];exact hb
 have g7:upd (upd H3 dx (.own wo)) wo (.ins X.W dx []) wo=some (.ins X.W dx []):=aq;generalize upd (upd H3 dx (.own wo)) wo (.ins X.W dx [])=H7 at s7 g7 ⊢;have kd7:=kd3.same s7;have nkw:ki≠wo:=by
  obtain ⟨⟨_,e⟩,_⟩:=kd3;exact aD e nwo
 have nlw:lk≠wo:=by
  obtain ⟨_,⟨_,e⟩⟩:=kd3;rcases e with ⟨_,e⟩ | ⟨_,e⟩ | ⟨_,e⟩
  ·exact aD e nwo
  ·exact aD e nwo
  ·exact aD e nwo
 refine ⟨wo,_,ki,hl0,rfl,dx,fun _=>(0,0),1,lk,w,t,ts,hs,g7,fun _ _=>rfl,by decide,kd7,rfl,rfl,nkw,nlw,s7 _ _ g3,Ls lts fun i x m e1 e2=>?_,by omega,fun H8 T8 A8 k8 t8 w8 aw8 j8=>⟨rfl,?_⟩⟩
 ·obtain ⟨x',e3,z⟩:=al.get e2;rw [e1] at e3;cases e3;have:=hb.sb m (List.mem_of_getElem? e2);exact ⟨s7 _ _ (s3 _ _ z),by omega,by omega⟩
 have s38:aY H3 H8:=fun b o hb=>k8 b o (s7 _ _ hb) (aD hb nwo);have s08:aY H H8:=s03.trans s38;have ho8:=ho3.same s38;have p0:KW (Zkv room hs w t) hs 0:=KW.new t0 t1;generalize Zkv room hs w t=M at j8 p0;clear k8 t8 s7 g7 kd7 kd3;walk_at "ev";refine ⟨a,lh,rfl,ns0,hs,s08.seq hS,hlen,ho8,hb,fun lr H9 s9 rl=>?_⟩;obtain ⟨_,nlr,vs,olr,lvs,rows⟩:=rl;have rk:∀ v∈vs,v=.non∨∃ t d,v=.ref t∧T8 t=(0,0)∧H9 t=some (.tup (dV d))∧okR hs d:=fun v hv=>by
  rcases rows v hv with z | ⟨t,d,e,f,o,k⟩
  ·exact .inl z
  ·exact .inr ⟨t,d,e,w8 _ f,o,k⟩
 refine ⟨lr,rfl,⟨_,cU.of olr⟩,forL vs (fun i σ Hx=>∃ T A M v4,σ=[some (.ref a),some (.int way),some (.ref lh),some (.ref wo),v4]∧WT Hx T∧WJ X Hx T 1 A M∧A.wo=wo∧KW M hs i∧Hx lr=some (.lst vs)∧T lr=(0,0)∧∀ v∈vs,v=.non∨∃ t d,v=.ref t∧T t=(0,0)∧Hx t=some (.tup (dV d))∧okR hs d) ⟨T8,A8,M,_,rfl,w8.same s9,j8.same s9,aw8,p0,olr,w8 _ nlr,rk⟩ (fun _ _ _ _ ⟨_,_,_,_,_,_,_,_,_,z,_⟩=>cU.of z) ?_ ?_⟩
 ·rintro i x σ Hx hi ⟨T,A,M,v4,rfl,w,j,aw,p,ol,tl,rk⟩;have hil:=(fG hi).1;obtain ⟨dw,ow⟩:=j.jb.ow;obtain ⟨ds,os⟩:=j.js.os;rw [aw] at ow;have kp:∀ {H':Hp}{T':Tg},Kp Hx H' T T'→H' lr=some (.lst vs)∧T' lr=(0,0)∧∀ v∈vs,v=.non∨∃ t d,v=.ref t∧T' t=(0,0)∧H' t=some (.tup (dV d))∧okR hs d:=fun {H' T'} k=>by
   refine ⟨k.k _ _ ol (.inl (by rw [tl])),(k.tg _ _ ol).trans tl,fun v hv=>?_⟩;rcases rk v hv with z | ⟨t,d,e,f,o,kk⟩
   ·exact .inl z
   ·exact .inr ⟨t,d,e,(k.tg _ _ o).trans f,k.k _ _ o (.inl (by rw [f])),kk⟩
  walk_at "ev";refine aH ow Tx.cW Tx.RZ bw ?_;walk_at "ev";refine aH os Tx.cS Tx.n2 mz ?_;walk_at "ev";refine wJ (fun _=>?_) (fun ph=>?_)
  ·walk_at "ev";exact h _
  ·rcases rk x (List.mem_of_getElem? hi) with rfl | ⟨t,d,rfl,tt,ot,od⟩
   ·walk_at "ev";refine ⟨_,_,rfl,T,A,M,hs,i,w,j,aw,p,hb,by omega,ph,fun H' T' A' M' k w' j' aw' p'=>?_⟩;walk_at "ev";obtain ⟨k1,k2,k3⟩:=kp k;exact ⟨T',A',M',_,rfl,w',j',aw',p'.mono (by omega),k1,k2,k3⟩
   ·have ok:=p.ok hb (by omega);have hcl:=ok.cl;have hnl:=ok.nl;walk_at "ev";refine ⟨_,t,rfl,T,1,A,M,d,w,by decide,j,aw,ot,p.okD od,hcl,fun z=>by have:=ok.gl z;omega,p.tl,by omega,fun r er H' sm=>?_,fun e M' he H' T' A' av st j' aw' ev=>?_⟩
    ·walk_at "ev";obtain ⟨k1,k2,k3⟩:=kp (Kp.same sm);exact ⟨T,A,M,_,rfl,w.same sm,j.same sm,aw,p.mono (by omega),k1,k2,k3⟩
    ·walk_at "ev";obtain ⟨k1,k2,k3⟩:=kp (Kp.stp st ⟨by decide,by decide⟩);exact ⟨T',A',M',_,rfl,st.wt,j',aw',p.deed od he,k1,k2,k3⟩
 ·rintro σ Hx ⟨T,A,M,v4,rfl,w,j,aw,p,ol,tl,rk⟩;walk_at "ev";exact h _
end
def top (i:Nat):Stmt:=PySem.Challenge.pw_greywalk_k32_steps_change_nothing.main.body.getD i (.Pass ⟨0,0,0,0⟩)
abbrev rR:Stmt:=inClass (top 8) 0
abbrev yf:Stmt:=inClass (top 8) 1
abbrev qg:Stmt:=inClass (top 8) 2
abbrev rP:Stmt:=inClass (top 9) 0
abbrev uR:Stmt:=inClass (top 9) 1
abbrev Eb:Stmt:=inClass (top 9) 2
abbrev Ai:Stmt:=inClass (top 9) 3
abbrev Ah:Stmt:=inClass (top 9) 4
abbrev ye:Stmt:=inClass (top 9) 5
abbrev Jf:Stmt:=top 10
abbrev Ea:Stmt:=top 11
abbrev Iv:Stmt:=top 13
abbrev Oj:Stmt:=top 14
abbrev rQ:Stmt:=inClass (top 16) 0
abbrev oG:Stmt:=inClass (top 17) 0
abbrev p8:Stmt:=inClass (top 18) 0
abbrev Zcx:Stmt:=top 19
abbrev zY:Stmt:=top 20
abbrev zV:Stmt:=top 21
abbrev zW:Stmt:=top 22
abbrev xU:Stmt:=top 23
abbrev Wl:Stmt:=top 24
abbrev Zcw:Stmt:=top 25
abbrev DW:Stmt:=top 26
abbrev Zcy:Stmt:=top 27
abbrev Wk:Stmt:=top 28
abbrev Iu:Stmt:=top 29
abbrev xT:Stmt:=top 31
abbrev uf:Stmt:=top 32
abbrev ud:Stmt:=top 33
abbrev Zcu:Stmt:=top 34
abbrev vO:Stmt:=top 35
abbrev Zjn:Stmt:=top 36
abbrev xV:Stmt:=top 37
abbrev DX:Stmt:=top 38
abbrev xQ:Stmt:=top 39
abbrev ue:Stmt:=top 40
abbrev xR:Stmt:=top 41
abbrev s_end:Stmt:=top 42
abbrev p7:Stmt:=top 43
abbrev Zcv:Stmt:=top 45
abbrev Oq:Stmt:=top 49
abbrev oH:Stmt:=inClass (top 50) 2
abbrev nA:Stmt:=inClass (top 50) 3
abbrev rN:Stmt:=inClass (top 50) 4
abbrev qd:Stmt:=inClass (top 51) 2
abbrev qe:Stmt:=inClass (top 52) 2
abbrev qb:Stmt:=inClass (top 53) 2
abbrev yd:Stmt:=inClass (top 53) 3
abbrev rO:Stmt:=inClass (top 54) 0
abbrev DR:Stmt:=top 56
abbrev Je:Stmt:=top 57
abbrev zX:Stmt:=top 58
abbrev vL:Stmt:=top 59
abbrev vM:Stmt:=top 60
abbrev IV:Stmt:=top 61
abbrev Oo:Stmt:=top 62
abbrev Om:Stmt:=top 63
abbrev Jc:Stmt:=top 64
abbrev Jb:Stmt:=top 65
abbrev IW:Stmt:=top 66
abbrev DY:Stmt:=top 67
abbrev Iz:Stmt:=top 68
abbrev IK:Stmt:=top 69
abbrev Iw:Stmt:=top 70
abbrev vN:Stmt:=top 71
abbrev Zrl:Stmt:=top 73
abbrev Ag:Stmt:=top 75
abbrev Ae:Stmt:=top 76
abbrev zZ:Stmt:=top 77
abbrev xX:Stmt:=top 78
abbrev z8:Stmt:=top 79
abbrev Ac:Stmt:=top 80
abbrev Aa:Stmt:=top 81
abbrev Ab:Stmt:=top 82
abbrev Af:Stmt:=top 83
abbrev xZ:Stmt:=top 84
abbrev xW:Stmt:=top 85
abbrev z7:Stmt:=top 86
abbrev vP:Stmt:=top 87
abbrev xY:Stmt:=top 88
abbrev Ad:Stmt:=top 89
abbrev yc:Stmt:=top 90
abbrev z9:Stmt:=top 91
abbrev z6:Stmt:=top 92
abbrev Ol:Stmt:=top 93
structure Hh (P:Program) (w:World) (K:aC) (mg:Str→Option Value) (base:Heap) (n:Nat) (f:Addr) (fd:FuncData) (ps:List Str) (sp:Sp):Prop where
 g:uK P w K mg base (G.QT P w) n f fd ps sp
 b:Binds K fd ps []
 k:PySem.W.keepIn K (.ref f)=true
theorem hh {P:Program}{w:World}{K:aC}{mg:Str→Option Value}{base:Heap}{n:Nat}{f:Addr}{fd:FuncData}{ps:List Str}{sp:Sp} (g:uK P w K mg base (G.QT P w) n f fd ps sp) (b:Binds K fd ps []) (k:PySem.W.keepIn K (.ref f)=true):Hh P w K mg base n f fd ps sp:=⟨g,b,k⟩
abbrev lu (P:Program) (w:World) (K:aC) (mg:Str→Option Value) (base:Heap) (n:Nat) (f:Addr) (fd:FuncData) (ps:List Str) (sp:Sp):Prop:=uK P w K mg base (G.QT P w) n f fd ps sp
theorem ig {X:Cx}{n k:Nat}{f:Addr}{fd:FuncData}{ps:List Str}{sp:Sp}{x:Str}{e:Expr}{es:List Expr}{t:TA}{p pos:Pos} (g0:Hh X.prog X.w X.K X.mg X.base n f fd ps sp) (hr:Room k X.A) (hm:X.mg x=some (.ref f)) (ha:PA X (e :: es) t) (hn:n≤k:=by decide) (hg:X.env.kindOf x=some .globalImplicit:=by rfl) (hdb:(x == ("__debug__":Str))=false:=by decide) (he:starEach (e :: es) X.env=(false,eval e X.env) :: starEach es X.env:=by rfl) (hpl:(backTo pos (starEach es X.env)).any (·.1)=false:=by rfl):PE X (.Call (.Name x p) (e :: es) [] pos) (aR sp [] E0 t):=uX g0.g (hr.mono hn) hg hm g0.k g0.b .nil G.fV ha hdb he hpl
theorem cX {N P:List Str}{sc:Scope} (a:sc.kind=.function:=by rfl) (b:sc.isCoroutine=false:=by rfl) (c:sc.isGenerator=false:=by rfl) (d:N.Nodup:=by decide +kernel) (e:N.take P.length=P:=by rfl) (f:∀ x∈P,sc.names.lookup x=some .local∨sc.names.lookup x=some .cell:=by decide +kernel) (g:∀ y∈sc.names,y.2≠.free:=by decide +kernel):aP N P sc:=⟨a,b,c,d,e,f,g⟩
structure Txt (w:World) (K:aC) (mg:Str→Option Value) (aZ aW kZ bG eX dI eY fX jP fu aK aQ bM bh dm fL dG di gR jN iR iQ gw ir eG mG nQ dj cu cR uB jl jk eF iB qZ wU gn uC qY mF gm cI cG wQ gb Dw iC kY gk cH iy Dv bO wR mR bJ bQ cz dD dF dB gq dg dU jD iM fY fJ gG jf je gK gJ gH fc gD gF gB fZ Tp fQ dR gQ iG jq jw jt ju jz iI iD jo gf iH jx iJ jr jm:Addr):Prop where
 Uo:G.Tab K w mg "STEPS" [("rest",cI),("walk",cG),("give",cH),("lost",bO)]
 Up:G.Tab K w mg "DEEDS" [("make",gG),("get",jf),("put",je),("copy",gK),("drop",gJ),("give",gH),("write",fc),("read",gD),("name",gF),("seek",gB)]
 cP:DN K aZ
 Zlc:mg "Cell"=some (.ref aZ)
 Nf:Mk K aZ dm
 dN:bH K aZ "birth"
 lM:bH K aZ "bulk"
 lK:bH K aZ "tone"
 jj:bH K aZ "load"
 eO:bH K aZ "fields"
 Nj:G.EqD K aZ
 cB:DN K aW
 Zl8:mg "Heap"=some (.ref aW)
 M9:Mk K aW di
 lJ:bH K aW "room"
 bL:bH K aW "cells"
 iK:bH K aW "used"
 j7:bH K aW "born"
 Zgi:DN K kZ
 Zl9:mg "Hand"=some (.ref kZ)
 Nb:Mk K kZ dj
 u9:bH K kZ "name"
 tG:bH K kZ "slots"
 Qz:DN K bG
 Uy:mg "Sweeper"=some (.ref bG)
 yU:Mk K bG cu
 nZ:bH K bG "sense"
 oA:bH K bG "phase"
 pM:bH K bG "grey"
 mZ:bH K bG "looked"
 pJ:bH K bG "turn"
 tD:bH K bG "at"
 pK:bH K bG "stop"
 nY:bH K bG "walks"
 oE:bH K bG "looks"
 mY:bH K bG "passes"
 pL:bH K bG "loss"
 Zbe:DN K eX
 Zg3:mg "World"=some (.ref eX)
 Gq:Mk K eX cR
 sZ:bH K eX "heap"
 sY:bH K eX "kind"
 qU:bH K eX "hands"
 qT:bH K eX "names"
 nW:bH K eX "sweeper"
 BX:DN K dI
 Zg4:mg "First"=some (.ref dI)
 Uv:G.Mk0 K dI
 Hw:DN K eY
 Zlb:mg "Each"=some (.ref eY)
 Za9:G.Mk0 K eY
 Hv:DN K fX
 Zl7:mg "Last"=some (.ref fX)
 Za8:G.Mk0 K fX
 Zgh:DN K jP
 Xh:mg "Kind"=some (.ref jP)
 Cy:Mk K jP dg
 pN:bH K jP "looking"
 tE:bH K jP "tells"
 Lf:mg "GreyError"=some (.ref fu)
 Lg:mg "EmptySlot"=some (.ref aK)
 Uz:mg "NoField"=some (.ref aQ)
 Zla:mg "Full"=some (.ref bM)
 Zac:mg "NoName"=some (.ref bh)
 uN:G.Zn4 K aK
 Vp:G.Zn4 K bM
 Cr:G.Zn4 K aQ
 Fg:G.Zn4 K bh
 jQ:PySem.W.exmOne K (.ref aK) (.ref fu)=some true
 lA:PySem.W.exmOne K (.ref aQ) (.ref fu)=some true
 m7:PySem.W.exmOne K (.ref bM) (.ref fu)=some true
 lW:PySem.W.exmOne K (.ref bh) (.ref fu)=some true
 xu:Meth K eY "at_begin" bJ
 wG:Meth K eY "stays" cz
 uy:Meth K dI "next_look" bQ
 ux:Meth K dI "stays" cz
 xr:Meth K fX "at_begin" bJ
 JM:Meth K aZ "__init__" dm
 qW:Meth K aZ "units" fL
 vh:Meth K aZ "has_field" dG
 JK:Meth K aW "__init__" di
 Gs:Meth K aW "make" gR
 K3:Meth K aW "lay" jN
 Gv:Meth K aW "back" iR
 Gu:Meth K aW "free" iQ
 Dm:Meth K aW "there" gw
 qI:mg "cell_at"=some (.ref ir)
 lR:mg "birth_at"=some (.ref eG)
 Ux:mg "reached"=some (.ref mG)
 Pz:mg "onward"=some (.ref nQ)
 JL:Meth K kZ "__init__" dj
 Dd:Meth K bG "__init__" cu
 Gr:Meth K eX "__init__" cR
 Ze1:mg "held"=some (.ref uB)
 K5:mg "births_at"=some (.ref jl)
 K4:mg "looked_at"=some (.ref jk)
 mQ:mg "has_sense"=some (.ref eF)
 Gx:mg "is_walking"=some (.ref iB)
 Zg2:mg "begin"=some (.ref qZ)
 Zl4:mg "note"=some (.ref wU)
 qH:mg "note_all"=some (.ref gn)
 Ze2:mg "gone"=some (.ref uC)
 Zg1:mg "roots"=some (.ref qY)
 Uw:mg "root_of"=some (.ref mF)
 yW:mg "note_hands"=some (.ref gm)
 Py:mg "step_at_rest"=some (.ref cI)
 Pu:mg "step_in_walk"=some (.ref cG)
 Zl2:mg "walk"=some (.ref wQ)
 Dr:mg "look_or_cut"=some (.ref gb)
 Zqw:mg "cut"=some (.ref Dw)
 Gy:mg "first_loss"=some (.ref iC)
 PB:mg "given_up"=some (.ref kY)
 yV:mg "told_again"=some (.ref gk)
 Px:mg "step_in_give"=some (.ref cH)
 Gw:mg "pass_place"=some (.ref iy)
 Zqv:mg "end"=some (.ref Dv)
 JN:mg "step_when_lost"=some (.ref bO)
 Zl3:mg "step"=some (.ref wR)
 PJ:mg "all_of"=some (.ref mR)
 De:Meth K eY "at_begin" bJ
 Bu:Meth K dI "next_look" bQ
 JG:Meth K eY "stays" cz
 vf:Meth K dI "at_begin" dD
 vg:Meth K eY "next_look" dF
 vd:Meth K fX "next_look" dB
 wF:Meth K fX "stays" gq
 JH:Meth K jP "__init__" dg
 jK:mg "slots_of"=some (.ref dU)
 xx:mg "cell_in"=some (.ref jD)
 Bv:mg "fields_in"=some (.ref iM)
 Dn:mg "told_as_old"=some (.ref fY)
 wH:mg "told_as_new"=some (.ref fJ)
 Zhn:mg "do_make"=some (.ref gG)
 Zl6:mg "do_get"=some (.ref jf)
 Zl5:mg "do_put"=some (.ref je)
 Zhq:mg "do_copy"=some (.ref gK)
 Zhp:mg "do_drop"=some (.ref gJ)
 Zho:mg "do_give"=some (.ref gH)
 Ze3:mg "do_write"=some (.ref fc)
 Zhl:mg "do_read"=some (.ref gD)
 Zhm:mg "do_name"=some (.ref gF)
 Zhk:mg "do_seek"=some (.ref gB)
 Dp:mg "place_named"=some (.ref fZ)
 Zui:mg "do"=some (.ref Tp)
 lN:mg "_law_cell"=some (.ref fQ)
 cM:mg "_law_draw"=some (.ref dR)
 vm:mg "_law_word"=some (.ref gQ)
 GD:mg "_law_hands"=some (.ref iG)
 K8:mg "_law_room"=some (.ref jq)
 Lb:mg "_law_kind"=some (.ref jw)
 K9:mg "_law_made"=some (.ref jt)
 La:mg "_law_load"=some (.ref ju)
 Le:mg "_law_deed"=some (.ref jz)
 GJ:mg "_law_deeds"=some (.ref iI)
 Gz:mg "_law_start"=some (.ref iD)
 K7:mg "_law_rows"=some (.ref jo)
 wI:mg "_law_number"=some (.ref gf)
 GF:mg "_law_event"=some (.ref iH)
 Ld:mg "_law_hand"=some (.ref jx)
 yX:mg "_law_cells"=some (.ref iJ)
 Bw:mg "_law_rest"=some (.ref jr)
 K6:mg "_law_step"=some (.ref jm)
 Vo:mg "bool"=none
 oW:mg "enumerate"=none
 Zfm:mg "int"=none
 jY:mg "isinstance"=none
 lG:mg "len"=none
 tX:mg "list"=none
 sV:mg "range"=none
 Zfl:mg "str"=none
 MP:mg "tuple"=none
 Zr1:G.GC mg "NEW" (.int 2)
 Zr0:G.GC mg "OLD" (.int 1)
abbrev sI:List Str:=["self","birth","many","bulk","tone"]
abbrev qF:List Str:=["self","field"]
abbrev sG:List Str:=["self","room"]
abbrev Bk:List Str:=["self","many","bulk","tone"]
abbrev Ep:List Str:=["self","cell"]
abbrev Bl:List Str:=["self","place"]
abbrev oX:List Str:=["heap","place"]
abbrev kJ:List Str:=["heap","place"]
abbrev Jl:List Str:=["heap","rows"]
abbrev OJ:List Str:=["heap","places","way"]
abbrev sH:List Str:=["self","name","many"]
abbrev qy:List Str:=["self","room","kind","hands"]
abbrev Az:List Str:=["heap","places"]
abbrev Ay:List Str:=["world","hand"]
abbrev lH:List Str:=["world","cell"]
abbrev Zdf:List Str:=["world","place"]
abbrev oK:List Str:=["world","places"]
abbrev WK:List Str:=["world","place","birth"]
abbrev Jk:List Str:=["world","place","birth"]
abbrev sX:List Str:=["world","hands"]
abbrev oM:List Str:=["self","hands"]
abbrev nJ:List Str:=["self","looked","hands"]
abbrev qC:List Str:=["self","hands"]
abbrev qD:List Str:=["self","looked","hands"]
abbrev qz:List Str:=["self","looked","hands"]
abbrev sE:List Str:=["self","looking","tells"]
abbrev jH:List Str:=["world","hand"]
abbrev tW:List Str:=["world","hand","slot"]
abbrev uZ:List Str:=["world","hand","slot","field"]
abbrev wB:List Str:=["world","place"]
abbrev qQ:List Str:=["world","hand","place"]
abbrev Jq:List Str:=["world","deed"]
abbrev O2:List Str:=["world","deed"]
abbrev O1:List Str:=["world","deed"]
abbrev Jt:List Str:=["world","deed"]
abbrev Js:List Str:=["world","deed"]
abbrev Jr:List Str:=["world","deed"]
abbrev Eo:List Str:=["world","deed"]
abbrev Jo:List Str:=["world","deed"]
abbrev Jp:List Str:=["world","deed"]
abbrev Jm:List Str:=["world","deed"]
abbrev wC:List Str:=["world","word"]
abbrev Zrr:List Str:=["world","deed"]
abbrev oY:List Str:=["_law_script","_law_k"]
abbrev j6:List Str:=["_law_cell_here","_law_prime","_law_many"]
abbrev rC:List Str:=["_law_cell_here","_law_w"]
abbrev yM:List Str:=["_law_script"]
abbrev Bc:List Str:=["_law_script"]
abbrev Bg:List Str:=["_law_number_here"]
abbrev Be:List Str:=["_law_n","_law_h","_law_s"]
abbrev Bf:List Str:=["_law_n"]
abbrev Bj:List Str:=["_law_n","_law_hands_here","_law_seed"]
abbrev yO:List Str:=["_law_n","_law_hands_here","_law_seed"]
abbrev yL:List Str:=["_law_hands_here","_law_cell_here","_law_seed"]
abbrev Bb:List Str:=["_law_script","_law_hands_here"]
abbrev wD:List Str:=["_law_found"]
abbrev yN:List Str:=["_law_found","_law_due"]
abbrev Bh:List Str:=["_law_world","_law_deed_here"]
abbrev yP:List Str:=["_law_world"]
abbrev Bd:List Str:=["_law_world"]
abbrev Ba:List Str:=["_law_world","_law_way"]
theorem Ir:aP ["self","birth","many","bulk","tone"] sI (aF rR):=cX
theorem Rx:aP ["self"] ["self"] (aF yf):=cX
theorem Gd:aP ["self","field"] qF (aF qg):=cX
theorem Im:aP ["self","room"] sG (aF rP):=cX
theorem Wh:aP ["self","many","bulk","tone","cell"] Bk (aF uR):=cX
theorem ZF:aP ["self","cell","place"] Ep (aF Eb):=cX
theorem Wj:aP ["self","place","cell"] Bl (aF Ai):=cX
theorem Wi:aP ["self"] ["self"] (aF Ah):=cX
theorem Rv:aP ["self"] ["self"] (aF ye):=cX
theorem Zcs:aP ["heap","place"] oX (aF Jf):=cX
theorem ZD:aP ["heap","place","cell"] kJ (aF Ea):=cX
theorem Zcj:aP ["heap","rows","queue","number","row","listed","taken","place","way"] Jl (aF Iv):=cX
theorem Zgy:aP ["heap","places","way"] OJ (aF Oj):=cX
theorem Io:aP ["self","name","many"] sH (aF rQ):=cX
theorem CV:aP ["self"] ["self"] (aF oG):=cX
theorem FW:aP ["self","room","kind","hands"] qy (aF p8):=cX
theorem Znj:aP ["world"] ["world"] (aF Zcx):=cX
theorem V3:aP ["heap","places"] Az (aF zY):=cX
theorem V0:aP ["world","hand"] Ay (aF zV):=cX
theorem V1:aP ["world","cell"] lH (aF zW):=cX
theorem Rk:aP ["world"] ["world"] (aF xU):=cX
theorem Zjk:aP ["world","sweeper"] ["world"] (aF Wl):=cX
theorem Zni:aP ["world","place","sweeper","cell"] Zdf (aF Zcw):=cX
theorem Zy:aP ["world","places","births","place","birth"] oK (aF DW):=cX
theorem Znk:aP ["world","place","birth","cell"] WK (aF Zcy):=cX
theorem Zjj:aP ["world"] ["world"] (aF Wk):=cX
theorem Zci:aP ["world","place","birth"] Jk (aF Iu):=cX
theorem Rj:aP ["world","hands","noted","number","hand"] sX (aF xT):=cX
theorem Mp:aP ["world","noted"] ["world"] (aF uf):=cX
theorem Ml:aP ["world"] ["world"] (aF ud):=cX
theorem Zng:aP ["world","sweeper","cell"] ["world"] (aF Zcu):=cX
theorem Og:aP ["world","sweeper","looking","hands","noted"] ["world"] (aF vO):=cX
theorem Zrk:aP ["world","sweeper","loss","births"] ["world"] (aF Zjn):=cX
theorem Rm:aP ["world","place","way","cell"] ["world"] (aF xV):=cX
theorem Zz:aP ["world","heap"] ["world"] (aF DX):=cX
theorem Rh:aP ["event"] ["event"] (aF xQ):=cX
theorem Mm:aP ["world"] ["world"] (aF ue):=cX
theorem Ri:aP ["world","sweeper","place","cell"] ["world"] (aF xR):=cX
theorem Zrj:aP ["world","sweeper"] ["world"] (aF s_end):=cX
theorem FT:aP ["world"] ["world"] (aF p7):=cX
theorem Znh:aP ["world","act"] ["world"] (aF Zcv):=cX
theorem Zh1:aP ["hands"] ["hands"] (aF Oq):=cX
theorem CW:aP ["self","hands"] oM (aF oH):=cX
theorem zU:aP ["self","looked","hands"] nJ (aF nA):=cX
theorem Ik:aP ["self"] ["self"] (aF rN):=cX
theorem Ga:aP ["self","hands"] qC (aF qd):=cX
theorem Gb:aP ["self","looked","hands","hand"] qD (aF qe):=cX
theorem FZ:aP ["self","looked","hands"] qz (aF qb):=cX
theorem Ru:aP ["self"] ["self"] (aF yd):=cX
theorem Il:aP ["self","looking","tells"] sE (aF rO):=cX
theorem Zx:aP ["world","hand"] jH (aF DR):=cX
theorem Zcr:aP ["world","hand","slot","cell"] tW (aF Je):=cX
theorem V2:aP ["world","hand","slot","field","cell"] uZ (aF zX):=cX
theorem Oc:aP ["world","place"] wB (aF vL):=cX
theorem Od:aP ["world","hand","place"] qQ (aF vM):=cX
theorem Zcn:aP ["world","deed","slots","many","bulk","place"] Jq (aF IV):=cX
theorem Zh0:aP ["world","deed","hand","source","field","place"] O2 (aF Oo):=cX
theorem Zgz:aP ["world","deed","hand","field","fields","old","new","noted"] O1 (aF Om):=cX
theorem Zcq:aP ["world","deed","slots","place"] Jt (aF Jc):=cX
theorem Zcp:aP ["world","deed","slots","place"] Js (aF Jb):=cX
theorem Zco:aP ["world","deed","giver","taker","place","noted"] Jr (aF IW):=cX
theorem ZC:aP ["world","deed","cell","before"] Eo (aF DY):=cX
theorem Zcl:aP ["world","deed","cell"] Jo (aF Iz):=cX
theorem Zcm:aP ["world","deed","hand","slot","birth"] Jp (aF IK):=cX
theorem Zck:aP ["world","deed","place","noted"] Jm (aF Iw):=cX
theorem Oe:aP ["world","word","place","birth"] wC (aF vN):=cX
theorem Zu8:aP ["world","deed","act"] Zrr (aF Zrl):=cX
theorem Wg:aP ["_law_script","_law_k"] oY (aF Ag):=cX
theorem We:aP ["_law_cell_here","_law_prime","_law_many"] j6 (aF Ae):=cX
theorem V4:aP ["_law_cell_here","_law_w","_law_letters","_law_size","_law_at","_law_rest_here","_law_sign"] rC (aF zZ):=cX
theorem Ro:aP ["_law_script","_law_cell_here","_law_hands_here","_law_h","_law_many"] yM (aF xX):=cX
theorem V7:aP ["_law_script","_law_cell_here"] Bc (aF z8):=cX
theorem Wc:aP ["_law_number_here"] Bg (aF Ac):=cX
theorem V9:aP ["_law_n","_law_h","_law_s","_law_many","_law_bulk"] Be (aF Aa):=cX
theorem Wb:aP ["_law_n","_law_load_here"] Bf (aF Ab):=cX
theorem Wf:aP ["_law_n","_law_hands_here","_law_seed","_law_h","_law_s","_law_t","_law_f","_law_what","_law_g","_law_word_here"] Bj (aF Af):=cX
theorem Rr:aP ["_law_n","_law_hands_here","_law_seed","_law_deed_here"] yO (aF xZ):=cX
theorem Rn:aP ["_law_hands_here","_law_cell_here","_law_seed","_law_rows_here","_law_h","_law_way"] yL (aF xW):=cX
theorem V6:aP ["_law_script","_law_hands_here","_law_rows_here","_law_seed","_law_k","_law_cell_here","_law_n"] Bb (aF z7):=cX
theorem Oh:aP ["_law_found"] wD (aF vP):=cX
theorem Rq:aP ["_law_found","_law_due","_law_number_here"] yN (aF xY):=cX
theorem Wd:aP ["_law_world","_law_deed_here","_law_event_here"] Bh (aF Ad):=cX
theorem Rt:aP ["_law_world","_law_rows_here","_law_cell_here"] yP (aF yc):=cX
theorem V8:aP ["_law_world","_law_names","_law_hands_here"] Bd (aF z9):=cX
theorem V5:aP ["_law_world","_law_way","_law_cells_here","_law_others","_law_event_here","_law_cell_here"] Ba (aF z6):=cX
theorem Zri:aP ["_law_script","_law_way","_law_hands_here","_law_world","_law_row"] ["_law_script"] (aF Ol):=cX
section
variable {X:Cx}
theorem jT {a b:Expr}{ta tb:TE}{pos:Pos}{r:R2} (hr:IxR X r) (ha:PE X a ta) (hb:PE X b tb) (hs:Y6 b:=by exact fun _ _=>rfl):PE X (.Subscript a b pos) (bA r ta tb):=Zqs hr ha hb hs
theorem pdg {o i:Expr}{td ty:TE}{pos:Pos}{k:Nat} (hr:Room k X.A) (ho:PE X o td) (hi:PE X i ty) (hs:Zqh i:=by exact fun _ _=>rfl):PE X (.Subscript o i pos) (Uq td ty):=Zog (Qn hr) ho hi hs
theorem pX {a b:Expr}{ta tb:TE}{pos:Pos}{op:CmpOp}{r:R2} (ho:zy X (compareOp op) r) (ha:PE X a ta) (hb:PE X b tb) (hm:behindInMarks op b=false:=by exact Er _):PT X (.Compare a [op] [b] pos) (cC (bA r ta tb)):=Zny ho ha hb hm
theorem gP (i:Nat) {x:Str}{e:Expr}{te:TE}{pos' pos:Pos} (hN:X.N.Nodup) (he:PE X e te) (hi:X.N[i]? =some x:=by rfl) (hx:Loc X.env.scope x:=by exact Or.inl rfl) (hs:swapsWith e (some (.Name x pos')) pos.line X.env=pure false:=by rfl) (hf:X.fn x=true∨X.env.scope.names.lookup x=some .local:=by first | exact .inl rfl | exact .inr rfl | assumption):PS X (.Assign [.Name x pos'] e pos) (bD te (aN i)):=Zd6 hN hi hx he hs hf
end
structure PAw (X:Cx) (es:List Expr) (t:TA):Prop where
 h:PA X es t
structure PSw (X:Cx) (st:List Stmt) (t:TS):Prop where
 h:Zk X st t
structure PPw (X:Cx) (pos:Pos) (keys:List (Option Expr)) (values:List Expr) (trs:List (TE×TE)):Prop where
 h:PPs X pos keys values trs
structure PEw (X:Cx) (e:Expr) (t:TE):Prop where
 h:PE X e t
section
variable {X:Cx}
theorem Zoh:PAw X [] aG:=⟨au⟩
theorem xm {e es te t} (ha:PE X e te) (hr:PAw X es t) (hs:starEach (e :: es) X.env=(false,eval e X.env) :: starEach es X.env:=by rfl):PAw X (e :: es) (aj te t):=⟨aa ha hr.h hs⟩
theorem Oz {st rest t u} (h1:PS X st t) (h2:PSw X rest u):PSw X (st :: rest) (aL t u):=⟨ao h1 h2.h⟩
theorem Znz {st t} (h1:PS X st t):PSw X [st] t:=⟨aA h1⟩
theorem Zo0 {i:Nat}{x:Str}{es t b tb p q pos' pos rest u} (hN:X.N.Nodup) (hi:X.N[i]? =some x) (hx:Loc X.env.scope x) (h:PAw X es t) (hb:PE X b tb) (hp:Y6 b) (h2:PSw X rest u) (hs:swapsWith (.Subscript (.List es p) b q) (some (.Name x pos')) pos.line X.env=pure false:=by rfl) (hf:X.fn x=true∨X.env.scope.names.lookup x=some .local:=by first | exact .inl rfl | exact .inr rfl | assumption):PSw X (.Assign [.Name x pos'] (.Subscript (.List es p) b q) pos :: rest) (aL (bD (bA (nH X.K) (iw t) tb) (aN i)) u):=⟨ao (Zd6 hN hi hx (Zqs dZ (cY h.h) hb hp) hs hf) h2.h⟩
end
open PySem.Spec PyProof.Rows in
theorem ZDo {P:Program}{w:World}{K:aC}{mg:Str→Option Value}{base:Heap}{x qual:Str}{st:Stmt}{f:Addr}{fd:FuncData}{N ps:List Str}{sp:Sp}{k:Nat} (F:jF K x qual st f fd) (S:aP N ps (aF st)) (len:∀ vs H Q E,sp vs H Q E→vs.length=ps.length)
  (hbody:∀ (cdv:Value) (A:Around) (outer:List Env) (s:Shared) (H:Hp) (vs:List V) (Q:VK) (E:XK),Room k (A.deeper (envOfC qual (aF st) s.heap.objs.size f cdv))→sp vs H Q E→
   ∃ t,PSw (Kh (QT P w) P w K mg base N qual (aF st) f cdv A outer s H E).nox (jR st) t∧t { nx:=fun _ H'=>Q .non H',rt:=Q } (start N vs) H):uK P w K mg base (QT P w) (k + 1) f fd ps sp:=
 G.fok F S len fun cdv A outer s H vs Q E hr h=>let ⟨t,p,q⟩:=hbody cdv A outer s H vs Q E hr h;⟨t,p.h,q⟩
set_option hygiene false in
local macro_rules | `(tactic| walk_at "ok")=>`(tactic| (refine G.fok F sc (fun vs H Q E h=>?_) (fun cdv A outer s H vs Q E hr h=>?_);· (first | (obtain ⟨_,rfl,_⟩:=h;rfl) | (obtain ⟨_,_,rfl,_⟩:=h;rfl) | (obtain ⟨_,_,_,rfl,_⟩:=h;rfl) | (obtain ⟨_,_,_,_,rfl,_⟩:=h;rfl) | (obtain ⟨_,_,_,_,_,rfl,_⟩:=h;rfl) | (obtain ⟨_,_,_,_,_,_,rfl,_⟩:=h;rfl) | (obtain ⟨_,_,_,_,_,_,_,rfl,_⟩:=h;rfl))))
set_option hygiene false in
local macro_rules | `(tactic| walk_at "okw")=>`(tactic| (refine ZDo F sc (fun vs H Q E h=>?_) (fun cdv A outer s H vs Q E hr h=>?_);· (first | (obtain ⟨_,rfl,_⟩:=h;rfl) | (obtain ⟨_,_,rfl,_⟩:=h;rfl) | (obtain ⟨_,_,_,rfl,_⟩:=h;rfl) | (obtain ⟨_,_,_,_,rfl,_⟩:=h;rfl) | (obtain ⟨_,_,_,_,_,rfl,_⟩:=h;rfl) | (obtain ⟨_,_,_,_,_,_,rfl,_⟩:=h;rfl) | (obtain ⟨_,_,_,_,_,_,_,rfl,_⟩:=h;rfl))))
set_option hygiene false in
local macro_rules | `(tactic| walk_at "okX")=>`(tactic| (refine G.ZDp F sc (fun vs H Q E h=>?_) (fun cdv A outer s H vs Q E hr h=>?_);· (first | (obtain ⟨_,rfl,_⟩:=h;rfl) | (obtain ⟨_,_,rfl,_⟩:=h;rfl) | (obtain ⟨_,_,_,rfl,_⟩:=h;rfl) | (obtain ⟨_,_,_,_,rfl,_⟩:=h;rfl) | (obtain ⟨_,_,_,_,_,rfl,_⟩:=h;rfl) | (obtain ⟨_,_,_,_,_,_,rfl,_⟩:=h;rfl) | (obtain ⟨_,_,_,_,_,_,_,rfl,_⟩:=h;rfl))))
set_option hygiene false in
local macro_rules | `(tactic| walk_at "okDX")=>`(tactic| (refine G.Zvb F sc (fun vs H Q E h=>?_) (fun cdv A outer s H vs Q E hr h=>?_);· (first | (obtain ⟨_,rfl,_⟩:=h;rfl) | (obtain ⟨_,_,rfl,_⟩:=h;rfl) | (obtain ⟨_,_,_,rfl,_⟩:=h;rfl) | (obtain ⟨_,_,_,_,rfl,_⟩:=h;rfl) | (obtain ⟨_,_,_,_,_,rfl,_⟩:=h;rfl) | (obtain ⟨_,_,_,_,_,_,rfl,_⟩:=h;rfl) | (obtain ⟨_,_,_,_,_,_,_,rfl,_⟩:=h;rfl))))
section
variable (P:Program) {w:World}{K:aC}{mg:Str→Option Value} (base:Heap) {fu aK aQ bM bh dm fL dG di gR jN iR iQ gw ir eG mG nQ dj cu cR uB jl jk eF iB qZ wU gn uC qY mF gm cI cG wQ gb Dw iC kY gk cH iy Dv bO wR mR bJ bQ cz dD dF dB gq dg dU jD iM fY fJ gG jf je gK gJ gH fc gD gF gB fZ Tp fQ dR gQ iG jq jw jt ju jz iI iD jo gf iH jx iJ jr jm:Addr} (XQ:Cs) (T:Txt w K mg XQ.C XQ.H XQ.D XQ.S XQ.W XQ.F XQ.E XQ.L XQ.K fu aK aQ bM bh dm fL dG di gR jN iR iQ gw ir eG mG nQ dj cu cR uB jl jk eF iB qZ wU gn uC qY mF gm cI cG wQ gb Dw iC kY gk cH iy Dv bO wR mR bJ bQ cz dD dF dB gq dg dU jD iM fY fJ gG jf je gK gJ gH fc gD gF gB fZ Tp fQ dR gQ iG jq jw jt ju jz iI iD jo gf iH jx iJ jr jm)
include T
theorem o7:q8 K XQ:=⟨⟨T.cP,T.dN,T.lM,T.lK,T.jj,T.eO,T.cB,T.lJ,T.bL,T.iK,T.j7,T.Nj⟩,T.Zbe,T.sZ,T.sY,T.qU,T.qT,T.nW,T.Zgi,T.u9,T.tG,T.Zgh,T.pN,T.tE,T.Qz,T.nZ,T.oA,T.pM,T.mZ,T.pJ,T.tD,T.pK,T.nY,T.oE,T.mY,T.pL⟩
theorem Jz {fd:FuncData} (F:jF K "__init__" "Cell.__init__" rR dm fd):lu P w K mg base 1 dm fd sI (vH XQ.C):=by
 have sc:=Ir;have tx:=o7 _ T;walk_at "ok"
 ·refine ⟨qt K,(ao (cg (pv 0) (pv 1) rfl)
   (ao (cg (pv 0) (pv 3) rfl)
   (ao (cg (pv 0) (pv 4) rfl)
   (ao (cg (pv 0) (az) rfl)
   (aA (cg (pv 0) (aX O3 (cY (aa (eU) au)) (pv 2)) rfl)))))),?_⟩
  obtain ⟨z0,z1,z2,z3,z4,rfl,q⟩:=h;exact KH tx.c q
theorem RW {fd:FuncData} (F:jF K "units" "Cell.units" yf fL fd):lu P w K mg base 1 fL fd ["self"] (lY XQ.C):=by
 have sc:=Rx;have tx:=o7 _ T;walk_at "ok"
 ·refine ⟨wu K,(aA (aM (aX kO (aX kO (az) (cV G.dH (by rfl) T.lG G.boot_len (aa (aJ (pv 0) rfl) au))) (aJ (pv 0) rfl)))),?_⟩;obtain ⟨z0,rfl,q⟩:=h;exact TX tx.c q
theorem Gn {fd:FuncData} (F:jF K "has_field" "Cell.has_field" qg dG fd):lu P w K mg base 1 dG fd qF (vz XQ):=by
 have sc:=Gd;have tx:=o7 _ T;walk_at "ok"
 ·refine ⟨pF K,(aA (aM (Zkd Zqt Bp (az) (pv 1) (cV G.dH (by rfl) T.lG G.boot_len (aa (aJ (pv 0) rfl) au))))),?_⟩;obtain ⟨z0,z1,rfl,q⟩:=h;exact HW tx q
theorem Jx {fd:FuncData} (F:jF K "__init__" "Heap.__init__" rP di fd):lu P w K mg base 1 di fd sG (vC XQ.H):=by
 have sc:=Im;have tx:=o7 _ T;walk_at "ok"
 ·refine ⟨qm K,(ao (cg (pv 0) (pv 1) rfl)
   (ao (cg (pv 0) (cY au) rfl)
   (ao (cg (pv 0) (az) rfl)
   (aA (cg (pv 0) (az) rfl))))),?_⟩
  obtain ⟨z0,z1,rfl,q⟩:=h;exact Kr tx.c q
theorem Xb {fd:FuncData}{Kg wO Yt Zb2:FuncData} (F:G.Ztz K "make" "Heap.make" uR gR fd) (zL:Hh P w K mg base 1 dm Kg sI (vH XQ.C)) (mq:Hh P w K mg base 1 fL wO ["self"] (lY XQ.C)) (Ly:Hh P w K mg base 1 iQ Yt ["self"] (vD XQ.H)) (QM:Hh P w K mg base 1 jN Zb2 Ep (zx K XQ.H)):lu P w K mg base 3 gR fd Bk (vB K XQ.C XQ.H bM):=by
 have sc:=Wh;have tx:=o7 _ T;walk_at "okDX"
 ·refine ⟨yF K XQ.C bM XQ.H (vH XQ.C) (lY XQ.C) (vD XQ.H) (zx K XQ.H) E,(ao (gP 4 sc.nd (yJ T.Nf zL.g (hr.mono (by decide)) rfl T.Zlc zL.b .nil G.fV (aa (aX kO (aJ (pv 0) rfl) (az)) (aa (pv 1) (aa (pv 2) (aa (pv 3) au))))))
   (ao (cQ (pX Zfy (mO (pv 4) T.cP T.qW mq.g (hr.mono (by decide)) mq.b .nil G.fV) (mO (pv 0) T.cB T.Gu Ly.g (hr.mono (by decide)) Ly.b .nil G.fV)) (aA (G.Ge rfl rfl T.Zla T.Vp (aa (bN) au) (fun _ _ _ _ _ _ _ I hx hE=>G.Wu I hx hE))) bB)
   (ao (cg (pv 0) (aJ (pv 4) rfl) rfl)
   (ao (cg (pv 0) (aX kO (aJ (pv 0) rfl) (mO (pv 4) T.cP T.qW mq.g (hr.mono (by decide)) mq.b .nil G.fV)) rfl)
   (aA (aM (qP (pv 0) T.cB T.K3 QM.g (hr.mono (by decide)) QM.b .nil G.fV (aa (pv 4) au)))))))),?_⟩
  obtain ⟨z0,z1,z2,z3,rfl,q⟩:=h;exact Y7 tx.c q
theorem Z7 {fd:FuncData} (F:jF K "lay" "Heap.lay" Eb jN fd):lu P w K mg base 1 jN fd Ep (zx K XQ.H):=by
 have sc:=ZF;have tx:=o7 _ T;walk_at "ok"
 ·refine ⟨Ar K,(ao (cQ (pX (G.Zh9 (Qn hr)) (eU) (aJ (pv 0) rfl) (by with_unfolding_all rfl)) (ao (pG (Aw PySem.F.plainAttrs_list PySem.F.slot_list_append PySem.F.type_list_append m5 (aJ (pv 0) rfl) (aa (pv 1) au)))
   (aA (aM (aX Bm (cV G.dH (by rfl) T.lG G.boot_len (aa (aJ (pv 0) rfl) au)) (az))))) bB)
   (ao (gP 2 sc.nd (Aw PySem.F.plainAttrs_list PySem.F.slot_list_index PySem.F.type_list_index (G.Zhi (Qn hr)) (aJ (pv 0) rfl) (aa (eU) au)))
   (ao (wz (pv 1) (wA (aJ (pv 0) rfl) (pv 2) set_list))
   (aA (aM (pv 2)))))),?_⟩
  obtain ⟨z0,z1,rfl,q⟩:=h;exact Zbn tx.c q
theorem Xd {fd:FuncData} (F:jF K "back" "Heap.back" Ai iR fd) {wO:FuncData} (mq:Hh P w K mg base 1 fL wO ["self"] (lY XQ.C)):lu P w K mg base 2 iR fd Bl (rH XQ.C XQ.H):=by
 have sc:=Wj;have tx:=o7 _ T;walk_at "ok"
 ·refine ⟨yH K XQ.C (lY XQ.C),(ao (gP 2 sc.nd (jT dZ (aJ (pv 0) rfl) (pv 1)))
   (ao (cg (pv 0) (aX Bm (aJ (pv 0) rfl) (mO (pv 2) T.cP T.qW mq.g (hr.mono (by decide)) mq.b .nil G.fV)) rfl)
   (ao (wz (eU) (wA (aJ (pv 0) rfl) (pv 1) set_list))
   (aA (aM (aJ (pv 2) rfl)))))),?_⟩
  obtain ⟨z0,z1,rfl,q⟩:=h;exact Y9 tx.c q
theorem Xc {fd:FuncData} (F:jF K "free" "Heap.free" Ah iQ fd):lu P w K mg base 1 iQ fd ["self"] (vD XQ.H):=by
 have sc:=Wi;have tx:=o7 _ T;walk_at "ok"
 ·refine ⟨yG K,(aA (aM (aX Bm (aJ (pv 0) rfl) (aJ (pv 0) rfl)))),?_⟩;obtain ⟨z0,rfl,q⟩:=h;exact Y8 tx.c q
theorem RV {fd:FuncData} (F:jF K "there" "Heap.there" ye gw fd):lu P w K mg base 1 gw fd ["self"] (tR XQ.H):=by
 have sc:=Rv;have tx:=o7 _ T;walk_at "ok"
 ·refine ⟨wk K,(aA (aM (G.ZQ (cns:=["self"]) [0] (tV rfl T.sV (aa (cV G.dH (by rfl) T.lG G.boot_len (aa (aJ (pv 0) rfl) au)) au)) (fun _ _ _ _ _=>(G.Zd9 (pX G.Bo (jT dZ (aJ (pv 1) rfl) (pv 0)) (eU)))) (fun _ _ _ _ _=>(pv 0)) rfl rfl (by repeat (first | exact trivial | refine ⟨rfl,?_⟩)) (by repeat (first | exact trivial | refine ⟨rfl,?_⟩)) rfl (by decide +kernel) rfl (by decide +kernel) (by decide +kernel) rfl (by decide +kernel)))),?_⟩;obtain ⟨z0,rfl,q⟩:=h;exact TJ tx.c q
theorem Zdu {fd:FuncData} (F:jF K "cell_at" "cell_at" Jf ir fd):lu P w K mg base 1 ir fd oX (dO XQ.H):=by
 have sc:=Zcs;have tx:=o7 _ T;walk_at "ok"
 ·refine ⟨Em K,(ao (cQ (PW.pt (uU (pX G.u5 (pv 1) (eU)) (uU (pX Bp (pv 1) (az)) (uw (pX Zue (pv 1) (cV G.dH (by rfl) T.lG G.boot_len (aa (aJ (pv 0) rfl) au))))))) (aA (aM (eU))) bB)
   (aA (aM (jT dZ (aJ (pv 0) rfl) (pv 1))))),?_⟩
  obtain ⟨z0,z1,rfl,q⟩:=h;exact Zf7 tx q
theorem Z6 {fd:FuncData} (F:jF K "birth_at" "birth_at" Ea eG fd) {jM:FuncData} (lF:Hh P w K mg base 1 ir jM oX (dO XQ.H)):lu P w K mg base 2 eG fd kJ (cA XQ):=by
 have sc:=ZD;have tx:=o7 _ T;walk_at "ok"
 ·refine ⟨Aq K (dO XQ.H),(ao (gP 2 sc.nd (ig lF hr T.qI (aa (pv 0) (aa (pv 1) au))))
   (ao (cQ (pX G.u5 (pv 2) (eU)) (aA (aM (eU))) bB)
   (aA (aM (aJ (pv 2) rfl))))),?_⟩
  obtain ⟨z0,z1,rfl,q⟩:=h;exact Zbh tx q
theorem Zdl {fd:FuncData} (F:jF K "reached" "reached" Iv mG fd) {Zik:FuncData} (Zbo:Hh P w K mg base 2 nQ Zik OJ (Cj K XQ.C XQ.H)):lu P w K mg base 3 mG fd Jl (CP K XQ.C XQ.H):=by
 have sc:=Zcj;have tx:=o7 _ T;walk_at "ok"
 ·refine ⟨yg K (Cj K XQ.C XQ.H),(ao (gP 2 sc.nd (cY au))
   (ao (rZ PassesOwn.never rfl (G.Wx rfl T.oW (aa (pv 1) au)) (Wy rfl (rB (ji (i:=3) sc.nd rfl (Or.inl rfl)) (rB (ji (i:=4) sc.nd rfl (Or.inl rfl)) M5)))
   (aA (pG (Aw PySem.F.plainAttrs_list PySem.F.slot_list_extend PySem.F.type_list_extend JF (pv 2) (aa (ig Zbo hr T.Pz (aa (pv 0) (aa (pv 4) (aa (cF (aa (pv 3) au)) au)))) au)))))
   (ao (gP 5 sc.nd (ZR))
   (ao (gP 6 sc.nd (az))
   (ao (Zk2 PassesOwn.never (pX Bp (pv 6) (cV G.dH (by rfl) T.lG G.boot_len (aa (pv 2) au))) (ao (gP 7 sc.nd (jT bK (jT dZ (pv 2) (pv 6)) (az)))
   (ao (gP 8 sc.nd (jT bK (jT dZ (pv 2) (pv 6)) (az)))
   (ao (gP 6 sc.nd (aX kO (pv 6) (az)))
   (aA (cQ (Zk0 (G.Zdd (Qn hr) (pv 7) (pv 5))) (ao (Zfv (Qn hr) (pv 5) (pv 7) (pv 8) rfl)
   (aA (pG (Aw PySem.F.plainAttrs_list PySem.F.slot_list_extend PySem.F.type_list_extend JF (pv 2) (aa (ig Zbo hr T.Pz (aa (pv 0) (aa (aJ (jT dZ (aJ (pv 0) rfl) (pv 7)) rfl) (aa (pv 8) au)))) au))))) bB))))))
   (aA (aM (qx (G.Zfa rfl) (by rfl) T.tX G.boot_list (aa (G.Zkc (pv 5)) au))))))))),?_⟩
  obtain ⟨z0,z1,z2,z3,z4,rfl,q⟩:=h;exact Zd1 tx q
theorem Zhc {fd:FuncData} (F:jF K "onward" "onward" Oj nQ fd) {jM:FuncData} (lF:Hh P w K mg base 1 ir jM oX (dO XQ.H)):lu P w K mg base 2 nQ fd OJ (Cj K XQ.C XQ.H):=by
 have sc:=Zgy;walk_at "ok"
 ·refine ⟨Cu K (dO XQ.H),(aA (aM (G.Zdb (cns:=["heap","way"]) [0,2] (G.Wx rfl T.oW (aa (pv 1) au)) (fun _ _ _ _ _=>(G.Zd9 (pX G.Bo (ig lF hr T.qI (aa (pv 2) (aa (pv 1) au))) (eU)))) (fun _ _ _ _ _=>(cF (aa (pv 1) (aa (aX Zoj (pv 3) (cF (aa (pv 0) au))) au)))) rfl rfl (by repeat (first | exact trivial | refine ⟨rfl,?_⟩)) (by repeat (first | exact trivial | refine ⟨rfl,?_⟩)) rfl (by decide +kernel) rfl (by decide +kernel) (by decide +kernel) rfl rfl (by decide +kernel)))),?_⟩;obtain ⟨z0,z1,z2,z3,z4,z5,rfl,q⟩:=h;exact Zhb q
theorem Jy {fd:FuncData} (F:jF K "__init__" "Hand.__init__" rQ dj fd):lu P w K mg base 1 dj fd sH (vG XQ.D):=by
 have sc:=Io;have tx:=o7 _ T;walk_at "ok"
 ·refine ⟨qp K,(ao (cg (pv 0) (pv 1) rfl)
   (aA (cg (pv 0) (aX O3 (cY (aa (eU) au)) (pv 2)) rfl))),?_⟩
  obtain ⟨z0,z1,z2,rfl,q⟩:=h;exact Ks tx q
theorem CZ {fd:FuncData} (F:jF K "__init__" "Sweeper.__init__" oG cu fd):lu P w K mg base 1 cu fd ["self"] (pW XQ.S):=by
 have sc:=CV;have tx:=o7 _ T;walk_at "ok"
 ·refine ⟨nF K,(ao (cg (pv 0) (az) rfl)
   (ao (cg (pv 0) (bN) rfl)
   (ao (cg (pv 0) (cY au) rfl)
   (ao (cg (pv 0) (az) rfl)
   (ao (cg (pv 0) (az) rfl)
   (ao (cg (pv 0) (az) rfl)
   (ao (cg (pv 0) (az) rfl)
   (ao (cg (pv 0) (az) rfl)
   (ao (cg (pv 0) (az) rfl)
   (ao (cg (pv 0) (az) rfl)
   (aA (cg (pv 0) (eU) rfl)))))))))))),?_⟩
  obtain ⟨z0,rfl,q⟩:=h;exact Dh tx q
theorem Gi {fd:FuncData}{Kf Ke Df:FuncData} (F:jF K "__init__" "World.__init__" p8 cR fd) (zK:Hh P w K mg base 1 dj Kf sH (vG XQ.D)) (zJ:Hh P w K mg base 1 di Ke sG (vC XQ.H)) (uJ:Hh P w K mg base 1 cu Df ["self"] (pW XQ.S)):lu P w K mg base 3 cR fd qy (tQ XQ):=by
 have sc:=FW;have tx:=o7 _ T;walk_at "ok"
 ·refine ⟨pA K XQ.D XQ.H XQ.S (vG XQ.D) (vC XQ.H) (pW XQ.S),(ao (cg (pv 0) (yJ T.M9 zJ.g (hr.mono (by decide)) rfl T.Zl8 zJ.b .nil G.fV (aa (pv 1) au)) rfl)
   (ao (cg (pv 0) (pv 2) rfl)
   (ao (cg (pv 0) (G.Zdb (cns:=[]) [] (nU (pv 3)) (fun _ _ _ _ _=>G.En) (fun _ _ _ _ _=>(yJ T.Nb zK.g (hr.mono (by decide)) rfl T.Zl9 zK.b .nil G.fV (aa (pv 0) (aa (pv 1) au)))) rfl rfl (by repeat (first | exact trivial | refine ⟨rfl,?_⟩)) (by repeat (first | exact trivial | refine ⟨rfl,?_⟩)) rfl (by decide +kernel) rfl (by decide +kernel) (by decide +kernel) rfl rfl (by decide +kernel)) rfl)
   (ao (cg (pv 0) (ZR) rfl)
   (aA (cg (pv 0) (Zkb T.yU uJ.g (hr.mono (by decide)) rfl T.Uy uJ.b .nil G.fV) rfl)))))),?_⟩
  obtain ⟨z0,z1,z2,z3,rfl,q⟩:=h;exact HB tx q
theorem Zop {fd:FuncData} (F:jF K "held" "held" Zcx uB fd):lu P w K mg base 1 uB fd ["world"] (Ez XQ):=by
 have sc:=Znj;have tx:=o7 _ T;walk_at "ok"
 ·refine ⟨Ws K,(aA (aM (G.ZQ (cns:=[]) [] (nU (aJ (pv 0) rfl)) (fun _ _ _ _ _=>G.En) (fun _ _ _ _ _=>(qx G.zj (by rfl) T.tX G.boot_list (aa (aJ (pv 0) rfl) au))) rfl rfl (by repeat (first | exact trivial | refine ⟨rfl,?_⟩)) (by repeat (first | exact trivial | refine ⟨rfl,?_⟩)) rfl (by decide +kernel) rfl (by decide +kernel) (by decide +kernel) rfl (by decide +kernel)))),?_⟩;obtain ⟨z0,rfl,q⟩:=h;exact Zpp tx q
theorem WW {fd:FuncData} (F:jF K "births_at" "births_at" zY jl fd) {eE:FuncData} (fO:Hh P w K mg base 2 eG eE kJ (cA XQ)):lu P w K mg base 3 jl fd Az (vA XQ):=by
 have sc:=V3;have tx:=o7 _ T;walk_at "ok"
 ·refine ⟨ym K (cA XQ),(aA (aM (G.ZQ (cns:=["heap"]) [0] (nU (pv 1)) (fun _ _ _ _ _=>G.En) (fun _ _ _ _ _=>(ig fO hr T.lR (aa (pv 1) (aa (pv 0) au)))) rfl rfl (by repeat (first | exact trivial | refine ⟨rfl,?_⟩)) (by repeat (first | exact trivial | refine ⟨rfl,?_⟩)) rfl (by decide +kernel) rfl (by decide +kernel) (by decide +kernel) rfl (by decide +kernel)))),?_⟩;obtain ⟨z0,z1,rfl,q⟩:=h;exact Yz tx q
theorem WM {fd:FuncData} (F:jF K "looked_at" "looked_at" zV jk fd):lu P w K mg base 1 jk fd Ay (vq XQ):=by
 have sc:=V0;have tx:=o7 _ T;walk_at "ok"
 ·refine ⟨yh K,(aA (aM (yK lE (aX O4 (aX Zdh (aJ (aJ (pv 0) rfl) rfl) (pv 1)) (az)) (az) (Er _)))),?_⟩;obtain ⟨z0,z1,rfl,q⟩:=h;exact Xi tx q
theorem WQ {fd:FuncData} (F:jF K "has_sense" "has_sense" zW eF fd):lu P w K mg base 1 eF fd lH (cT XQ):=by
 have sc:=V1;have tx:=o7 _ T;walk_at "ok"
 ·refine ⟨yj K,(aA (aM (yK lE (aJ (pv 1) rfl) (aJ (aJ (pv 0) rfl) rfl) (Er _)))),?_⟩;obtain ⟨z0,z1,rfl,q⟩:=h;exact X8 tx q
theorem RG {fd:FuncData} (F:jF K "is_walking" "is_walking" xU iB fd):lu P w K mg base 1 iB fd ["world"] (tM XQ):=by
 have sc:=Rk;have tx:=o7 _ T;walk_at "ok"
 ·refine ⟨vV K,(aA (aM (yK Zha (aJ (aJ (pv 0) rfl) rfl) (cF (aa (bN) (aa (bN) au))) (by with_unfolding_all rfl)))),?_⟩;obtain ⟨z0,rfl,q⟩:=h;exact R7 tx q
theorem Zkj {fd:FuncData}{Hs Dg:FuncData} (F:jF K "begin" "begin" Wl qZ fd) (xJ:Hh P w K mg base 2 dD Hs qC (mV 0)) (mj:Hh P w K mg base 1 bJ Dg oM (mV 1)):lu P w K mg base 3 qZ fd ["world"] (Nz XQ):=by
 have sc:=Zjk;have tx:=o7 _ T;walk_at "ok"
 ·refine ⟨Ow K XQ.E XQ.F XQ.L (mV 0) (mV 1),(ao (gP 1 sc.nd (aJ (pv 0) rfl))
   (ao (cg (pv 1) (aX Bm (az) (aJ (pv 1) rfl)) rfl)
   (ao (cg (pv 1) (aX kO (aJ (pv 1) rfl) (az)) rfl)
   (ao (cg (pv 1) (bN) rfl)
   (ao (cg (pv 1) (cY au) rfl)
   (ao (cg (pv 1) (G.uW (qP (aJ (aJ (pv 0) rfl) rfl) T.BX T.vf xJ.g (hr.mono (by decide)) xJ.b .nil G.fV (aa (cV G.dH (by rfl) T.lG G.boot_len (aa (aJ (pv 0) rfl) au)) au)) (G.uW (qP (aJ (aJ (pv 0) rfl) rfl) T.Hw T.xu mj.g (hr.mono (by decide)) mj.b .nil G.fV (aa (cV G.dH (by rfl) T.lG G.boot_len (aa (aJ (pv 0) rfl) au)) au)) (qP (aJ (aJ (pv 0) rfl) rfl) T.Hv T.xr mj.g (hr.mono (by decide)) mj.b .nil G.fV (aa (cV G.dH (by rfl) T.lG G.boot_len (aa (aJ (pv 0) rfl) au)) au)))) rfl)
   (ao (cg (pv 1) (az) rfl)
   (ao (cg (pv 1) (az) rfl)
   (aA (cg (pv 1) (az) rfl)))))))))),?_⟩
  obtain ⟨z0,rfl,q⟩:=h;exact Zmz tx q
theorem Zoo {fd:FuncData}{jM gj:FuncData} (F:jF K "note" "note" Zcw wU fd) (lF:Hh P w K mg base 1 ir jM oX (dO XQ.H)) (iT:Hh P w K mg base 1 eF gj lH (cT XQ)):lu P w K mg base 2 wU fd Zdf (Y4 XQ):=by
 have sc:=Zni;have tx:=o7 _ T;walk_at "ok"
 ·refine ⟨Wr K (dO XQ.H) (cT XQ),(ao (gP 2 sc.nd (aJ (pv 0) rfl))
   (ao (gP 3 sc.nd (ig lF hr T.qI (aa (aJ (pv 0) rfl) (aa (pv 1) au))))
   (ao (cQ (PW.pt (uU (pX ZZ (aJ (pv 2) rfl) (bN)) (uU (pX G.u5 (pv 3) (eU)) (uw (lQ (ig iT hr T.mQ (aa (pv 0) (aa (pv 3) au)))))))) (aA (aM (eU))) bB)
   (ao (cg (pv 3) (aJ (pv 2) rfl) rfl)
   (ao (pG (Aw PySem.F.plainAttrs_list PySem.F.slot_list_append PySem.F.type_list_append m5 (aJ (pv 2) rfl) (aa (pv 1) au)))
   (aA (aM (aJ (pv 3) rfl)))))))),?_⟩
  obtain ⟨z0,z1,rfl,q⟩:=h;exact Zou tx q
theorem Z3 {fd:FuncData} (F:jF K "note_all" "note_all" DW gn fd) {Zq5:FuncData} (Ztx:Hh P w K mg base 2 wU Zq5 Zdf (Y4 XQ)):lu P w K mg base 3 gn fd oK (fj XQ):=by
 have sc:=Zy;have tx:=o7 _ T;walk_at "ok"
 ·refine ⟨Am K (Y4 XQ),(ao (gP 2 sc.nd (cY au))
   (ao (rZ PassesOwn.never rfl (nU (pv 1)) (ji (i:=3) sc.nd rfl (Or.inl rfl))
   (ao (gP 4 sc.nd (ig Ztx hr T.Zl4 (aa (pv 0) (aa (pv 3) au))))
   (aA (cQ (pX G.Bo (pv 4) (eU)) (aA (pG (Aw PySem.F.plainAttrs_list PySem.F.slot_list_append PySem.F.type_list_append m5 (pv 2) (aa (pv 4) au)))) bB))))
   (aA (aM (pv 2))))),?_⟩
  obtain ⟨z0,z1,rfl,q⟩:=h;exact Z9 tx q
theorem Zoq {fd:FuncData}{jM gj:FuncData} (F:jF K "gone" "gone" Zcy uC fd) (lF:Hh P w K mg base 1 ir jM oX (dO XQ.H)) (iT:Hh P w K mg base 1 eF gj lH (cT XQ)):lu P w K mg base 2 uC fd WK (EY XQ):=by
 have sc:=Znk;have tx:=o7 _ T;walk_at "ok"
 ·refine ⟨Wt K (dO XQ.H) (cT XQ),(ao (gP 3 sc.nd (ig lF hr T.qI (aa (aJ (pv 0) rfl) (aa (pv 1) au))))
   (ao (cQ (PW.pt (uU (pX G.u5 (pv 3) (eU)) (uw (pX ZZ (aJ (pv 3) rfl) (pv 2))))) (aA (aM (zG))) bB)
   (aA (aM ((Zdc (yK lE (aJ (aJ (pv 0) rfl) rfl) (bN) (Er _)) (Zda (Zka (ig iT hr T.mQ (aa (pv 0) (aa (pv 3) au))))))))))),?_⟩
  obtain ⟨z0,z1,z2,rfl,q⟩:=h;exact Zpy tx q
theorem Zki {fd:FuncData}{Yg Zen:FuncData} (F:jF K "roots" "roots" Wk qY fd) (Zfh:Hh P w K mg base 1 uB Yg ["world"] (Ez XQ)) (Zj2:Hh P w K mg base 3 mF Zen Jk (CJ XQ)):lu P w K mg base 4 qY fd ["world"] (Np XQ):=by
 have sc:=Zjj;have tx:=o7 _ T;walk_at "ok"
 ·refine ⟨Ov K (Ez XQ) (CJ XQ) H,(aA (aM (aX sJ (ig Zfh hr T.Ze1 (aa (pv 0) au)) (cY (aa (G.Zoe (G.Zdb (cns:=["world"]) [0] (G.Zo7 (G.Zh7 (aJ (pv 0) rfl))) (fun _ _ _ _ _=>G.En) (fun _ _ _ _ _=>(ig Zj2 hr T.Uw (aa (pv 2) (aa (pv 0) (aa (pv 1) au))))) rfl rfl (by repeat (first | exact trivial | refine ⟨rfl,?_⟩)) (by repeat (first | exact trivial | refine ⟨rfl,?_⟩)) rfl (by decide +kernel) rfl (by decide +kernel) (by decide +kernel) rfl rfl (by decide +kernel))) au))))),?_⟩;obtain ⟨z0,rfl,q⟩:=h;exact Zjq tx q
theorem Zdk {fd:FuncData}{Yh gj S9:FuncData} (F:jF K "root_of" "root_of" Iu mF fd) (Zfi:Hh P w K mg base 2 uC Yh WK (EY XQ)) (iT:Hh P w K mg base 1 eF gj lH (cT XQ)) (Zb:Hh P w K mg base 1 iB S9 ["world"] (tM XQ)):lu P w K mg base 3 mF fd Jk (CJ XQ):=by
 have sc:=Zci;have tx:=o7 _ T;walk_at "ok"
 ·refine ⟨Ec K (EY XQ) (cT XQ) (tM XQ),(ao (cQ (lQ (ig Zfi hr T.Ze2 (aa (pv 0) (aa (pv 1) (aa (pv 2) au))))) (aA (aM (eU))) bB)
   (ao (cQ (PW.pt (Zd5 (lQ (ig Zb hr T.Gx (aa (pv 0) au))) (Wv (qu (lQ (ig iT hr T.mQ (aa (pv 0) (aa (jT dZ (aJ (aJ (pv 0) rfl) rfl) (pv 1)) au)))))))) (aA (aM (eU))) bB)
   (aA (aM (pv 1))))),?_⟩
  obtain ⟨z0,z1,z2,rfl,q⟩:=h;exact Zd0 tx q
theorem RD {fd:FuncData} (F:jF K "note_hands" "note_hands" xT gm fd) {kh:FuncData} (lZ:Hh P w K mg base 3 gn kh oK (fj XQ)):lu P w K mg base 4 gm fd sX (kE XQ):=by
 have sc:=Rj;have tx:=o7 _ T;walk_at "ok"
 ·refine ⟨vU K (fj XQ),(ao (gP 2 sc.nd (cY au))
   (ao (rZ PassesOwn.never rfl (G.Wx rfl T.oW (aa (aJ (pv 0) rfl) au)) (Wy rfl (rB (ji (i:=3) sc.nd rfl (Or.inl rfl)) (rB (ji (i:=4) sc.nd rfl (Or.inl rfl)) M5)))
   (aA (cQ (pX lE (aX O4 (aX Zdh (pv 1) (pv 3)) (az)) (az)) (aA (pG (Aw PySem.F.plainAttrs_list PySem.F.slot_list_extend PySem.F.type_list_extend JF (pv 2) (aa (ig lZ hr T.qH (aa (pv 0) (aa (aJ (pv 4) rfl) au))) au)))) bB)))
   (aA (aM (pv 2))))),?_⟩
  obtain ⟨z0,z1,rfl,q⟩:=h;exact RX tx q
theorem Mu {fd:FuncData}{Zmk wN:FuncData} (F:jF K "step_at_rest" "step_at_rest" uf cI fd) (Zqk:Hh P w K mg base 3 qZ Zmk ["world"] (Nz XQ)) (zA:Hh P w K mg base 4 gm wN sX (kE XQ)):lu P w K mg base 5 cI fd ["world"] (bR XQ (M6 "rest")):=by
 have sc:=Mp;have tx:=o7 _ T;walk_at "ok"
 ·refine ⟨rY K (Nz XQ) (kE XQ),(ao (pG (ig Zqk hr T.Zg2 (aa (pv 0) au)))
   (ao (gP 1 sc.nd (ig zA hr T.yW (aa (pv 0) (aa (aJ (aJ (pv 0) rfl) rfl) au))))
   (aA (aM (cF (aa (bN) (aa (aJ (aJ (pv 0) rfl) rfl) (aa (pv 1) au)))))))),?_⟩
  obtain ⟨z0,rfl,q⟩:=h;exact Mg tx q
theorem Mr {fd:FuncData}{Qu Zq3:FuncData} (F:jF K "step_in_walk" "step_in_walk" ud cG fd) (TV:Hh P w K mg base 7 gb Qu ["world"] (bR XQ ZX)) (Ztv:Hh P w K mg base 4 wQ Zq3 ["world"] (bR XQ ZV)):lu P w K mg base 8 cG fd ["world"] (bR XQ (M6 "walk")):=by
 have sc:=Ml;have tx:=o7 _ T;walk_at "ok"
 ·refine ⟨rT K (bR XQ ZX) (bR XQ ZV),(ao (cQ (ZL (aJ (aJ (pv 0) rfl) rfl) (fun _=>rfl)) (aA (aM (ig Ztv hr T.Zl2 (aa (pv 0) au)))) bB)
   (aA (aM (ig TV hr T.Dr (aa (pv 0) au))))),?_⟩
  obtain ⟨z0,rfl,q⟩:=h;exact Ma tx q
theorem Zom {fd:FuncData} (F:jF K "walk" "walk" Zcu wQ fd) {kh:FuncData} (lZ:Hh P w K mg base 3 gn kh oK (fj XQ)):lu P w K mg base 4 wQ fd ["world"] (bR XQ ZV):=by
 have sc:=Zng;have tx:=o7 _ T;walk_at "ok"
 ·refine ⟨Wo K (fj XQ),(ao (gP 1 sc.nd (aJ (pv 0) rfl))
   (ao (gP 2 sc.nd (jT dZ (aJ (aJ (pv 0) rfl) rfl) (Aw PySem.F.plainAttrs_list PySem.F.slot_list_pop PySem.F.type_list_pop Zky (aJ (pv 1) rfl) (aa (az) au))))
   (ao (cg (pv 1) (aX kO (aJ (pv 1) rfl) (az)) rfl)
   (aA (aM (cF (aa (bN) (aa (aJ (pv 2) rfl) (aa (ig lZ hr T.qH (aa (pv 0) (aa (aJ (pv 2) rfl) au))) au))))))))),?_⟩
  obtain ⟨z0,rfl,q⟩:=h;exact Zn7 tx q
theorem O9 {fd:FuncData}{Ht Hr Tj BP Kc Ztc wN:FuncData} (F:jF K "look_or_cut" "look_or_cut" vO gb fd) (xK:Hh P w K mg base 1 dF Ht qD (gW 1)) (xH:Hh P w K mg base 2 dB Hr qz (gW 2)) (tU:Hh P w K mg base 1 gq Tj ["self"] (qJ (.bl false))) (sU:Hh P w K mg base 1 bQ BP nJ (gW 0)) (gY:Hh P w K mg base 1 cz Kc ["self"] (qJ (.bl true))) (Zvr:Hh P w K mg base 6 Dw Ztc ["world"] (bR XQ Zdg)) (zA:Hh P w K mg base 4 gm wN sX (kE XQ)):lu P w K mg base 7 gb fd ["world"] (bR XQ ZX):=by
 have sc:=Og;have tx:=o7 _ T;walk_at "ok"
 ·refine ⟨ur K XQ.E XQ.F XQ.L (gW 1) (gW 2) (qJ (.bl false)) (gW 0) (qJ (.bl true)) (bR XQ Zdg) (kE XQ),(ao (gP 1 sc.nd (aJ (pv 0) rfl))
   (ao (gP 2 sc.nd (aJ (aJ (pv 0) rfl) rfl))
   (ao (gP 3 sc.nd (G.uW (qP (pv 2) T.BX T.uy sU.g (hr.mono (by decide)) sU.b .nil G.fV (aa (aJ (pv 1) rfl) (aa (cV G.dH (by rfl) T.lG G.boot_len (aa (aJ (pv 0) rfl) au)) au))) (G.uW (qP (pv 2) T.Hw T.vg xK.g (hr.mono (by decide)) xK.b .nil G.fV (aa (aJ (pv 1) rfl) (aa (cV G.dH (by rfl) T.lG G.boot_len (aa (aJ (pv 0) rfl) au)) au))) (qP (pv 2) T.Hv T.vd xH.g (hr.mono (by decide)) xH.b .nil G.fV (aa (aJ (pv 1) rfl) (aa (cV G.dH (by rfl) T.lG G.boot_len (aa (aJ (pv 0) rfl) au)) au))))))
   (ao (gP 4 sc.nd (ig zA hr T.yW (aa (pv 0) (aa (pv 3) au))))
   (ao (cQ (PW.pt (uU (pX lE (pv 3) (az)) (uw (qu (PW.pt (uU (lQ (G.uW (mO (pv 2) T.BX T.ux gY.g (hr.mono (by decide)) gY.b .nil G.fV) (G.uW (mO (pv 2) T.Hw T.wG gY.g (hr.mono (by decide)) gY.b .nil G.fV) (mO (pv 2) T.Hv T.wF tU.g (hr.mono (by decide)) tU.b .nil G.fV)))) (uw (ZL (pv 4) (fun _=>rfl))))))))) (aA (aM (ig Zvr hr T.Zqw (aa (pv 0) au)))) bB)
   (ao (cg (pv 1) (aX kO (aJ (pv 1) rfl) (az)) rfl)
   (ao (cQ (lQ (G.uW (mO (pv 2) T.BX T.ux gY.g (hr.mono (by decide)) gY.b .nil G.fV) (G.uW (mO (pv 2) T.Hw T.wG gY.g (hr.mono (by decide)) gY.b .nil G.fV) (mO (pv 2) T.Hv T.wF tU.g (hr.mono (by decide)) tU.b .nil G.fV)))) (aA (cg (pv 1) (aX Zud (aJ (pv 1) rfl) (pv 3)) rfl)) bB)
   (aA (aM (cF (aa (bN) (aa (pv 3) (aa (pv 4) au))))))))))))),?_⟩
  obtain ⟨z0,rfl,q⟩:=h;exact PK tx q
theorem Zry {fd:FuncData}{Yi Tc Zb0 wM:FuncData} (F:jF K "cut" "cut" Zjn Dw fd) (Zbq:Hh P w K mg base 3 jl Yi Az (vA XQ)) (Zc:Hh P w K mg base 5 iC Tc ["world"] (tO XQ)) (Zfj:Hh P w K mg base 2 kY Zb0 ["world"] (zq XQ)) (zz:Hh P w K mg base 1 gk wM ["event"] (lX K)):lu P w K mg base 6 Dw fd ["world"] (bR XQ Zdg):=by
 have sc:=Zrk;have tx:=o7 _ T;walk_at "ok"
 ·refine ⟨Zd4 K (vA XQ) (tO XQ) (zq XQ) (lX K),(ao (gP 1 sc.nd (aJ (pv 0) rfl))
   (ao (cg (pv 1) (cV G.dH (by rfl) T.lG G.boot_len (aa (aJ (aJ (pv 0) rfl) rfl) au)) rfl)
   (ao (cg (pv 1) (az) rfl)
   (ao (gP 2 sc.nd (ig Zc hr T.Gy (aa (pv 0) au)))
   (ao (cQ (pX G.Bo (pv 2) (eU)) (ao (cg (pv 1) (bN) rfl)
   (ao (cg (pv 1) (pv 2) rfl)
   (aA (aM (ig zz hr T.yV (aa (pv 2) au)))))) bB)
   (ao (cg (pv 1) (bN) rfl)
   (ao (gP 3 sc.nd (ig Zbq hr T.K5 (aa (aJ (pv 0) rfl) (aa (ig Zfj hr T.PB (aa (pv 0) au)) au))))
   (aA (aM (cF (aa (bN) (aa (cV G.dH (by rfl) T.lG G.boot_len (aa (pv 3) au)) (aa (pv 3) au))))))))))))),?_⟩
  obtain ⟨z0,rfl,q⟩:=h;exact Ztj tx q
theorem RJ {fd:FuncData}{gj Zeo Zmj:FuncData} (F:jF K "first_loss" "first_loss" xV iC fd) (iT:Hh P w K mg base 1 eF gj lH (cT XQ)) (Zj3:Hh P w K mg base 3 mG Zeo Jl (CP K XQ.C XQ.H)) (Zqj:Hh P w K mg base 4 qY Zmj ["world"] (Np XQ)):lu P w K mg base 5 iC fd ["world"] (tO XQ):=by
 have sc:=Rm;have tx:=o7 _ T;walk_at "ok"
 ·refine ⟨vW K (cT XQ) (CP K XQ.C XQ.H) (Np XQ),(ao (rZ PassesOwn.never rfl (nU (ig Zj3 hr T.Ux (aa (aJ (pv 0) rfl) (aa (ig Zqj hr T.Zg1 (aa (pv 0) au)) au)))) (Wy rfl (rB (ji (i:=1) sc.nd rfl (Or.inl rfl)) (rB (ji (i:=2) sc.nd rfl (Or.inl rfl)) M5)))
   (ao (gP 3 sc.nd (jT dZ (aJ (aJ (pv 0) rfl) rfl) (pv 1)))
   (aA (cQ (qu (lQ (ig iT hr T.mQ (aa (pv 0) (aa (pv 3) au))))) (aA (aM (cF (aa (bN) (aa (aJ (pv 3) rfl) (aa (qx Hz (by rfl) T.tX G.boot_list (aa (pv 2) au)) au)))))) bB))))
   (aA (aM (eU)))),?_⟩
  obtain ⟨z0,rfl,q⟩:=h;exact S7 tx q
theorem Z4 {fd:FuncData}{Tn gj:FuncData} (F:jF K "given_up" "given_up" DX kY fd) (HQ:Hh P w K mg base 1 gw Tn ["self"] (tR XQ.H)) (iT:Hh P w K mg base 1 eF gj lH (cT XQ)):lu P w K mg base 2 kY fd ["world"] (zq XQ):=by
 have sc:=Zz;have tx:=o7 _ T;walk_at "ok"
 ·refine ⟨An K XQ.H (tR XQ.H) (cT XQ),(ao (Zd6 (i:=1) sc.nd rfl (Or.inr rfl) (aJ (pv 0) rfl))
   (aA (aM (G.ZQ (cns:=["world","heap"]) [0,1] (nU (mO (pv 1) T.cB T.Dm HQ.g (hr.mono (by decide)) HQ.b .nil G.fV)) (fun _ _ _ _ _=>(G.Zd9 (qu (lQ (ig iT hr T.mQ (aa (pv 1) (aa (jT dZ (aJ (pv 2) rfl) (pv 0)) au))))))) (fun _ _ _ _ _=>(pv 0)) rfl rfl (by repeat (first | exact trivial | refine ⟨rfl,?_⟩)) (by repeat (first | exact trivial | refine ⟨rfl,?_⟩)) rfl (by decide +kernel) rfl (by decide +kernel) (by decide +kernel) rfl (by decide +kernel))))),?_⟩
  obtain ⟨z0,rfl,q⟩:=h;exact Zay tx q
theorem RB {fd:FuncData} (F:jF K "told_again" "told_again" xQ gk fd):lu P w K mg base 1 gk fd ["event"] (lX K):=by
 have sc:=Rh;walk_at "ok"
 ·refine ⟨vQ K,(aA (aM (cF (aa (jT bK (pv 0) (az)) (aa (jT bK (pv 0) (az)) (aa (qx G.zj (by rfl) T.tX G.boot_list (aa (jT bK (pv 0) (az)) au)) au)))))),?_⟩;obtain ⟨z0,rfl,q⟩:=h;exact Q4 q
theorem Ms {fd:FuncData}{Ztb S8:FuncData} (F:jF K "step_in_give" "step_in_give" ue cH fd) (Zvq:Hh P w K mg base 1 Dv Ztb ["world"] (bR XQ pEnd)) (Za:Hh P w K mg base 3 iy S8 ["world"] (bR XQ ZW)):lu P w K mg base 4 cH fd ["world"] (bR XQ (M6 "give")):=by
 have sc:=Mm;have tx:=o7 _ T;walk_at "ok"
 ·refine ⟨rW K (bR XQ pEnd) (bR XQ ZW),(ao (cQ (pX Bp (aJ (aJ (pv 0) rfl) rfl) (aJ (aJ (pv 0) rfl) rfl)) (aA (aM (ig Za hr T.Gw (aa (pv 0) au)))) bB)
   (aA (aM (ig Zvq hr T.Zqv (aa (pv 0) au))))),?_⟩
  obtain ⟨z0,rfl,q⟩:=h;exact Mf tx q
theorem RC {fd:FuncData}{Yu jM gj:FuncData} (F:jF K "pass_place" "pass_place" xR iy fd) (Lz:Hh P w K mg base 2 iR Yu Bl (rH XQ.C XQ.H)) (lF:Hh P w K mg base 1 ir jM oX (dO XQ.H)) (iT:Hh P w K mg base 1 eF gj lH (cT XQ)):lu P w K mg base 3 iy fd ["world"] (bR XQ ZW):=by
 have sc:=Ri;have tx:=o7 _ T;walk_at "ok"
 ·refine ⟨vR K XQ.H (rH XQ.C XQ.H) (dO XQ.H) (cT XQ),(ao (gP 1 sc.nd (aJ (pv 0) rfl))
   (ao (gP 2 sc.nd (aJ (pv 1) rfl))
   (ao (cg (pv 1) (aX kO (pv 2) (az)) rfl)
   (ao (cg (pv 1) (aX kO (aJ (pv 1) rfl) (az)) rfl)
   (ao (gP 3 sc.nd (ig lF hr T.qI (aa (aJ (pv 0) rfl) (aa (pv 2) au))))
   (ao (cQ (PW.pt (uU (pX G.u5 (pv 3) (eU)) (uw (lQ (ig iT hr T.mQ (aa (pv 0) (aa (pv 3) au))))))) (aA (aM (cF (aa (bN) (aa (pv 2) (aa (cY au) au)))))) bB)
   (aA (aM (cF (aa (bN) (aa (qP (aJ (pv 0) rfl) T.cB T.Gv Lz.g (hr.mono (by decide)) Lz.b .nil G.fV (aa (pv 2) au)) (aa (cY (aa (pv 2) au)) au)))))))))))),?_⟩
  obtain ⟨z0,rfl,q⟩:=h;exact Rz tx q
theorem Zrv {fd:FuncData} (F:jF K "end" "end" s_end Dv fd):lu P w K mg base 1 Dv fd ["world"] (bR XQ pEnd):=by
 have sc:=Zrj;have tx:=o7 _ T;walk_at "ok"
 ·refine ⟨Zd3 K,(ao (gP 1 sc.nd (aJ (pv 0) rfl))
   (ao (cg (pv 1) (bN) rfl)
   (aA (aM (cF (aa (bN) (aa (aJ (pv 1) rfl) (aa (cY (aa (aJ (pv 1) rfl) (aa (aJ (pv 1) rfl) (aa (aJ (pv 1) rfl) au)))) au)))))))),?_⟩
  obtain ⟨z0,rfl,q⟩:=h;exact Ztf tx q
theorem Gh {fd:FuncData} (F:jF K "step_when_lost" "step_when_lost" p7 bO fd) {wM:FuncData} (zz:Hh P w K mg base 1 gk wM ["event"] (lX K)):lu P w K mg base 2 bO fd ["world"] (bR XQ (M6 "lost")):=by
 have sc:=FT;have tx:=o7 _ T;walk_at "ok"
 ·refine ⟨o8 K (lX K),(aA (aM (ig zz hr T.yV (aa (aJ (aJ (pv 0) rfl) rfl) au)))),?_⟩;obtain ⟨z0,rfl,q⟩:=h;exact Fx tx q
theorem Zon {fd:FuncData}{MK MJ MF Ho:FuncData} (F:jF K "step" "step" Zcv wR fd) (uI:Hh P w K mg base 5 cI MK ["world"] (bR XQ (M6 "rest"))) (uH:Hh P w K mg base 4 cH MJ ["world"] (bR XQ (M6 "give"))) (uG:Hh P w K mg base 8 cG MF ["world"] (bR XQ (M6 "walk"))) (qK:Hh P w K mg base 2 bO Ho ["world"] (bR XQ (M6 "lost"))):lu P w K mg base 9 wR fd ["world"] (bR XQ Zkg):=by
 have sc:=Znh;have tx:=o7 _ T;walk_at "ok"
 ·refine ⟨Wq K cI cH cG bO (bR XQ (M6 "rest")) (bR XQ (M6 "give")) (bR XQ (M6 "walk")) (bR XQ (M6 "lost")),(ao (gP 1 sc.nd (G.Zk8 T.Uo rfl (aJ (aJ (pv 0) rfl) rfl) (fun _ _=>rfl)))
   (aA (aM (G.ZS (k:=8) (G.QX.cons (by decide) uI.g uI.b uI.k (G.QX.cons (by decide) uG.g uG.b uG.k (G.QX.cons (by decide) uH.g uH.b uH.k (G.QX.cons (by decide) qK.g qK.b qK.k G.QX.nil)))) (hr.mono (by decide)) rfl (Or.inl rfl) G.fV (aa (pv 0) au))))),?_⟩
  obtain ⟨z0,rfl,q⟩:=h;exact Zna tx q
theorem Zhf {fd:FuncData} (F:jF K "all_of" "all_of" Oq mR fd):lu P w K mg base 1 mR fd ["hands"] (uF):=by
 have sc:=Zh1;walk_at "ok"
 ·refine ⟨Ji,(aA (aM (aX Bm (aX Zkh (az) (pv 0)) (az)))),?_⟩;obtain ⟨z0,rfl,q⟩:=h;exact Ziy q
theorem Dc {fd:FuncData} (F:jF K "at_begin" "Looking.at_begin" oH bJ fd):lu P w K mg base 1 bJ fd oM (mV 1):=by
 have sc:=CW;walk_at "ok"
 ·refine ⟨nG,(aA (aM (az))),?_⟩;obtain ⟨z0,z1,rfl,q⟩:=h;exact Dj q
theorem Bq {fd:FuncData} (F:jF K "next_look" "Looking.next_look" nA bQ fd):lu P w K mg base 1 bQ fd nJ (gW 0):=by
 have sc:=zU;walk_at "ok"
 ·refine ⟨mL,(aA (aM (az))),?_⟩;obtain ⟨z0,z1,z2,rfl,q⟩:=h;exact Cp q
theorem Jv {fd:FuncData} (F:jF K "stays" "Looking.stays" rN cz fd):lu P w K mg base 1 cz fd ["self"] (qJ (.bl true)):=by
 have sc:=Ik;walk_at "ok"
 ·refine ⟨qi,(aA (aM (zG))),?_⟩;obtain ⟨z0,rfl,q⟩:=h;exact Ko q
theorem Gk {fd:FuncData} (F:jF K "at_begin" "First.at_begin" qd dD fd) {Ka:FuncData} (QL:Hh P w K mg base 1 mR Ka ["hands"] (uF)):lu P w K mg base 2 dD fd qC (mV 0):=by
 have sc:=Ga;walk_at "ok"
 ·refine ⟨pC (uF),(aA (aM (ig QL hr T.PJ (aa (pv 1) au)))),?_⟩;obtain ⟨z0,z1,rfl,q⟩:=h;exact HR q
theorem Gm {fd:FuncData} (F:jF K "next_look" "Each.next_look" qe dF fd):lu P w K mg base 1 dF fd qD (gW 1):=by
 have sc:=Gb;walk_at "ok"
 ·refine ⟨pD,(ao (rZ PassesOwn.never rfl (tV rfl T.sV (aa (pv 2) au)) (ji (i:=3) sc.nd rfl (Or.inl rfl))
   (aA (cQ (pX lE (aX O4 (aX Zdh (pv 1) (pv 3)) (az)) (az)) (aA (aM (aX Zkh (az) (pv 3)))) bB)))
   (aA (aM (az)))),?_⟩
  obtain ⟨z0,z1,z2,rfl,q⟩:=h;exact HS q
theorem Gj {fd:FuncData} (F:jF K "next_look" "Last.next_look" qb dB fd) {Ka:FuncData} (QL:Hh P w K mg base 1 mR Ka ["hands"] (uF)):lu P w K mg base 2 dB fd qz (gW 2):=by
 have sc:=FZ;walk_at "ok"
 ·refine ⟨pB (uF),(aA (aM (ig QL hr T.PJ (aa (pv 2) au)))),?_⟩;obtain ⟨z0,z1,z2,rfl,q⟩:=h;exact HJ q
theorem RT {fd:FuncData} (F:jF K "stays" "Last.stays" yd gq fd):lu P w K mg base 1 gq fd ["self"] (qJ (.bl false)):=by
 have sc:=Ru;walk_at "ok"
 ·refine ⟨wj,(aA (aM (zG))),?_⟩;obtain ⟨z0,rfl,q⟩:=h;exact TF q
theorem Jw {fd:FuncData} (F:jF K "__init__" "Kind.__init__" rO dg fd):lu P w K mg base 1 dg fd sE (rG XQ.K):=by
 have sc:=Il;have tx:=o7 _ T;walk_at "ok"
 ·refine ⟨qj K,(ao (cg (pv 0) (pv 1) rfl)
   (aA (cg (pv 0) (pv 2) rfl))),?_⟩
  obtain ⟨z0,z1,z2,rfl,q⟩:=h;exact Kq tx q
theorem Z2 {fd:FuncData} (F:jF K "slots_of" "slots_of" DR dU fd):lu P w K mg base 1 dU fd jH (bU XQ):=by
 have sc:=Zx;have tx:=o7 _ T;walk_at "ok"
 ·refine ⟨Ak K,(aA (aM (aJ (jT dZ (aJ (pv 0) rfl) (pv 1)) rfl))),?_⟩;obtain ⟨z0,z1,rfl,q⟩:=h;exact Zw tx q
theorem Zdt {fd:FuncData}{jM dM:FuncData} (F:jF K "cell_in" "cell_in" Je jD fd) (lF:Hh P w K mg base 1 ir jM oX (dO XQ.H)) (dX:Hh P w K mg base 1 dU dM jH (bU XQ)):lu P w K mg base 2 jD fd tW (jE XQ aK):=by
 have sc:=Zcr;have tx:=o7 _ T;walk_at "okX"
 ·refine ⟨El K aK (dO XQ.H) (bU XQ) E,(ao (gP 3 sc.nd (ig lF hr T.qI (aa (aJ (pv 0) rfl) (aa (jT dZ (ig dX hr T.jK (aa (pv 0) (aa (pv 1) au))) (pv 2)) au))))
   (ao (cQ (pX G.u5 (pv 3) (eU)) (aA (G.Ge rfl rfl T.Lg T.uN (aa (bN) au) (fun _ _ _ _ _ _ _ I hx hE=>G.Wu I hx hE))) bB)
   (aA (aM (pv 3))))),?_⟩
  obtain ⟨z0,z1,z2,rfl,q⟩:=h;exact Zf6 tx q
theorem WR {fd:FuncData}{Hu oN:FuncData} (F:jF K "fields_in" "fields_in" zX iM fd) (xM:Hh P w K mg base 1 dG Hu qF (vz XQ)) (iu:Hh P w K mg base 2 jD oN tW (jE XQ aK)):lu P w K mg base 3 iM fd uZ (mU XQ aK aQ):=by
 have sc:=V2;have tx:=o7 _ T;walk_at "okX"
 ·refine ⟨yl K XQ.C aQ (vz XQ) (jE XQ aK) E,(ao (gP 4 sc.nd (uX iu.g (hr.mono (by decide)) rfl T.xx iu.k iu.b .nil G.Gg (aa (pv 0) (aa (pv 1) (aa (pv 2) au)))))
   (ao (cQ (qu (lQ (qP (pv 4) T.cP T.vh xM.g (hr.mono (by decide)) xM.b .nil G.fV (aa (pv 3) au)))) (aA (G.Ge rfl rfl T.Uz T.Cr (aa (bN) au) (fun _ _ _ _ _ _ _ I hx hE=>G.Wu I hx hE))) bB)
   (aA (aM (aJ (pv 4) rfl))))),?_⟩
  obtain ⟨z0,z1,z2,z3,rfl,q⟩:=h;exact Yd tx q
theorem O6 {fd:FuncData} (F:jF K "told_as_old" "told_as_old" vL fY fd):lu P w K mg base 1 fY fd wB (zp XQ):=by
 have sc:=Oc;have tx:=o7 _ T;walk_at "ok"
 ·refine ⟨um K,(ao (cQ (pX lE (aX O4 (aJ (aJ (pv 0) rfl) rfl) (T.Zr0.pe rfl)) (az)) (aA (aM (cY au))) bB)
   (aA (aM (cY (aa (pv 1) au))))),?_⟩
  obtain ⟨z0,z1,rfl,q⟩:=h;exact NP tx q
theorem O7 {fd:FuncData} (F:jF K "told_as_new" "told_as_new" vM fJ fd) {Ye:FuncData} (Zbp:Hh P w K mg base 1 jk Ye Ay (vq XQ)):lu P w K mg base 2 fJ fd qQ (oR XQ):=by
 have sc:=Od;have tx:=o7 _ T;walk_at "ok"
 ·refine ⟨uo K (vq XQ),(ao (cQ (PW.pt (uU (pX lE (aX O4 (aJ (aJ (pv 0) rfl) rfl) (T.Zr1.pe rfl)) (az)) (uw (lQ (ig Zbp hr T.K4 (aa (pv 0) (aa (pv 1) au))))))) (aA (aM (cY au))) bB)
   (aA (aM (cY (aa (pv 2) au))))),?_⟩
  obtain ⟨z0,z1,z2,rfl,q⟩:=h;exact NQ tx q
theorem Zdp {fd:FuncData}{Ys eE dM:FuncData} (F:jF K "do_make" "do_make" IV gG fd) (Lx:Hh P w K mg base 3 gR Ys Bk (vB K XQ.C XQ.H bM)) (fO:Hh P w K mg base 2 eG eE kJ (cA XQ)) (dX:Hh P w K mg base 1 dU dM jH (bU XQ)):lu P w K mg base 4 gG fd Jq (bW XQ (zN bM aK aQ bh) J0):=by
 have sc:=Zcn;have tx:=o7 _ T;walk_at "okX"
 ·refine ⟨Eh K XQ.H (vB K XQ.C XQ.H bM) (cA XQ) (bU XQ) E,(ao (gP 2 sc.nd (ig dX hr T.jK (aa (pv 0) (aa (jT bK (pv 1) (az)) au))))
   (ao (gP 3 sc.nd (jT bK (pv 1) (az)))
   (ao (gP 4 sc.nd (jT bK (pv 1) (az)))
   (ao (gP 5 sc.nd (qP (aJ (pv 0) rfl) T.cB T.Gs Lx.g (hr.mono (by decide)) Lx.b .nil G.Gg (aa (pv 3) (aa (pv 4) (aa (aJ (aJ (pv 0) rfl) rfl) au)))))
   (ao (wz (pv 5) (wA (pv 2) (jT bK (pv 1) (az)) set_list))
   (aA (aM (cF (aa (bN) (aa (ig fO hr T.lR (aa (aJ (pv 0) rfl) (aa (pv 5) au))) (aa (cY au) au))))))))))),?_⟩
  obtain ⟨z0,z1,rfl,q⟩:=h;exact Zez tx rfl q
theorem Zhe {fd:FuncData}{eE za dM:FuncData} (F:jF K "do_get" "do_get" Oo jf fd) (fO:Hh P w K mg base 2 eG eE kJ (cA XQ)) (mW:Hh P w K mg base 3 iM za uZ (mU XQ aK aQ)) (dX:Hh P w K mg base 1 dU dM jH (bU XQ)):lu P w K mg base 4 jf fd O2 (bW XQ (zN bM aK aQ bh) UW):=by
 have sc:=Zh0;have tx:=o7 _ T;walk_at "okX"
 ·refine ⟨Jh K (cA XQ) (mU XQ aK aQ) (bU XQ) E,(ao (gP 2 sc.nd (jT bK (pv 1) (az)))
   (ao (gP 3 sc.nd (jT bK (pv 1) (az)))
   (ao (gP 4 sc.nd (jT bK (pv 1) (az)))
   (ao (gP 5 sc.nd (jT dZ (uX mW.g (hr.mono (by decide)) rfl T.Bv mW.k mW.b .nil G.Gg (aa (pv 0) (aa (pv 2) (aa (pv 3) (aa (pv 4) au))))) (pv 4)))
   (ao (wz (pv 5) (wA (ig dX hr T.jK (aa (pv 0) (aa (pv 2) au))) (jT bK (pv 1) (az)) set_list))
   (aA (aM (cF (aa (bN) (aa (ig fO hr T.lR (aa (aJ (pv 0) rfl) (aa (pv 5) au))) (aa (cY au) au))))))))))),?_⟩
  obtain ⟨z0,z1,rfl,q⟩:=h;exact Zio tx rfl rfl q
theorem Zhd {fd:FuncData}{eE za kh dM uA Qs:FuncData} (F:jF K "do_put" "do_put" Om je fd) (fO:Hh P w K mg base 2 eG eE kJ (cA XQ)) (mW:Hh P w K mg base 3 iM za uZ (mU XQ aK aQ)) (lZ:Hh P w K mg base 3 gn kh oK (fj XQ)) (dX:Hh P w K mg base 1 dU dM jH (bU XQ)) (wX:Hh P w K mg base 2 fJ uA qQ (oR XQ)) (TQ:Hh P w K mg base 1 fY Qs wB (zp XQ)):lu P w K mg base 4 je fd O1 (bW XQ (zN bM aK aQ bh) UT):=by
 have sc:=Zgz;have tx:=o7 _ T;walk_at "okX"
 ·refine ⟨Jg K (cA XQ) (mU XQ aK aQ) (fj XQ) (bU XQ) (oR XQ) (zp XQ) E,(ao (gP 2 sc.nd (jT bK (pv 1) (az)))
   (ao (gP 3 sc.nd (jT bK (pv 1) (az)))
   (ao (gP 4 sc.nd (uX mW.g (hr.mono (by decide)) rfl T.Bv mW.k mW.b .nil G.Gg (aa (pv 0) (aa (pv 2) (aa (jT bK (pv 1) (az)) (aa (pv 3) au))))))
   (ao (gP 5 sc.nd (jT dZ (pv 4) (pv 3)))
   (ao (gP 6 sc.nd (jT dZ (ig dX hr T.jK (aa (pv 0) (aa (pv 2) au))) (jT bK (pv 1) (az))))
   (ao (wz (pv 6) (wA (pv 4) (pv 3) set_list))
   (ao (gP 7 sc.nd (ig lZ hr T.qH (aa (pv 0) (aa (aX sJ (ig TQ hr T.Dn (aa (pv 0) (aa (pv 5) au))) (ig wX hr T.wH (aa (pv 0) (aa (pv 2) (aa (pv 6) au))))) au))))
   (aA (aM (cF (aa (bN) (aa (ig fO hr T.lR (aa (aJ (pv 0) rfl) (aa (pv 5) au))) (aa (pv 7) au))))))))))))),?_⟩
  obtain ⟨z0,z1,rfl,q⟩:=h;exact Zin tx rfl rfl q
theorem Zds {fd:FuncData}{eE dM:FuncData} (F:jF K "do_copy" "do_copy" Jc gK fd) (fO:Hh P w K mg base 2 eG eE kJ (cA XQ)) (dX:Hh P w K mg base 1 dU dM jH (bU XQ)):lu P w K mg base 3 gK fd Jt (bW XQ (zN bM aK aQ bh) J7):=by
 have sc:=Zcq;have tx:=o7 _ T;walk_at "ok"
 ·refine ⟨Ek K (cA XQ) (bU XQ),(ao (gP 2 sc.nd (ig dX hr T.jK (aa (pv 0) (aa (jT bK (pv 1) (az)) au))))
   (ao (gP 3 sc.nd (jT dZ (pv 2) (jT bK (pv 1) (az))))
   (ao (wz (pv 3) (wA (pv 2) (jT bK (pv 1) (az)) set_list))
   (aA (aM (cF (aa (bN) (aa (ig fO hr T.lR (aa (aJ (pv 0) rfl) (aa (pv 3) au))) (aa (cY au) au))))))))),?_⟩
  obtain ⟨z0,z1,rfl,q⟩:=h;exact Zf2 tx q
theorem Zdr {fd:FuncData}{eE dM:FuncData} (F:jF K "do_drop" "do_drop" Jb gJ fd) (fO:Hh P w K mg base 2 eG eE kJ (cA XQ)) (dX:Hh P w K mg base 1 dU dM jH (bU XQ)):lu P w K mg base 3 gJ fd Js (bW XQ (zN bM aK aQ bh) J4):=by
 have sc:=Zcp;have tx:=o7 _ T;walk_at "ok"
 ·refine ⟨Ej K (cA XQ) (bU XQ),(ao (gP 2 sc.nd (ig dX hr T.jK (aa (pv 0) (aa (jT bK (pv 1) (az)) au))))
   (ao (gP 3 sc.nd (jT dZ (pv 2) (jT bK (pv 1) (az))))
   (ao (wz (eU) (wA (pv 2) (jT bK (pv 1) (az)) set_list))
   (aA (aM (cF (aa (bN) (aa (ig fO hr T.lR (aa (aJ (pv 0) rfl) (aa (pv 3) au))) (aa (cY au) au))))))))),?_⟩
  obtain ⟨z0,z1,rfl,q⟩:=h;exact Zf1 tx q
theorem Zdq {fd:FuncData}{eE kh dM uA:FuncData} (F:jF K "do_give" "do_give" IW gH fd) (fO:Hh P w K mg base 2 eG eE kJ (cA XQ)) (lZ:Hh P w K mg base 3 gn kh oK (fj XQ)) (dX:Hh P w K mg base 1 dU dM jH (bU XQ)) (wX:Hh P w K mg base 2 fJ uA qQ (oR XQ)):lu P w K mg base 4 gH fd Jr (bW XQ (zN bM aK aQ bh) J3):=by
 have sc:=Zco;have tx:=o7 _ T;walk_at "ok"
 ·refine ⟨Ei K (cA XQ) (fj XQ) (bU XQ) (oR XQ),(ao (gP 2 sc.nd (jT bK (pv 1) (az)))
   (ao (gP 3 sc.nd (jT bK (pv 1) (az)))
   (ao (gP 4 sc.nd (jT dZ (ig dX hr T.jK (aa (pv 0) (aa (pv 2) au))) (jT bK (pv 1) (az))))
   (ao (wz (pv 4) (wA (ig dX hr T.jK (aa (pv 0) (aa (pv 3) au))) (jT bK (pv 1) (az)) set_list))
   (ao (gP 5 sc.nd (ig lZ hr T.qH (aa (pv 0) (aa (ig wX hr T.wH (aa (pv 0) (aa (pv 2) (aa (pv 4) au)))) au))))
   (aA (aM (cF (aa (bN) (aa (ig fO hr T.lR (aa (aJ (pv 0) rfl) (aa (pv 4) au))) (aa (pv 5) au))))))))))),?_⟩
  obtain ⟨z0,z1,rfl,q⟩:=h;exact Zf0 tx q
theorem Z5 {fd:FuncData} (F:jF K "do_write" "do_write" DY fc fd) {oN:FuncData} (iu:Hh P w K mg base 2 jD oN tW (jE XQ aK)):lu P w K mg base 3 fc fd Eo (bW XQ (zN bM aK aQ bh) Cz):=by
 have sc:=ZC;have tx:=o7 _ T;walk_at "okX"
 ·refine ⟨Ao K (jE XQ aK) E,(ao (gP 2 sc.nd (uX iu.g (hr.mono (by decide)) rfl T.xx iu.k iu.b .nil G.Gg (aa (pv 0) (aa (jT bK (pv 1) (az)) (aa (jT bK (pv 1) (az)) au)))))
   (ao (gP 3 sc.nd (aJ (pv 2) rfl))
   (ao (cg (pv 2) (jT bK (pv 1) (az)) rfl)
   (aA (aM (cF (aa (bN) (aa (pv 3) (aa (cY au) au))))))))),?_⟩
  obtain ⟨z0,z1,rfl,q⟩:=h;exact Zb9 tx rfl q
theorem Zdn {fd:FuncData} (F:jF K "do_read" "do_read" Iz gD fd) {oN:FuncData} (iu:Hh P w K mg base 2 jD oN tW (jE XQ aK)):lu P w K mg base 3 gD fd Jo (bW XQ (zN bM aK aQ bh) JZ):=by
 have sc:=Zcl;have tx:=o7 _ T;walk_at "okX"
 ·refine ⟨Ef K (jE XQ aK) E,(ao (gP 2 sc.nd (uX iu.g (hr.mono (by decide)) rfl T.xx iu.k iu.b .nil G.Gg (aa (pv 0) (aa (jT bK (pv 1) (az)) (aa (jT bK (pv 1) (az)) au)))))
   (aA (aM (cF (aa (bN) (aa (aJ (pv 2) rfl) (aa (cY au) au))))))),?_⟩
  obtain ⟨z0,z1,rfl,q⟩:=h;exact Zex tx rfl q
theorem Zdo {fd:FuncData}{oN dM:FuncData} (F:jF K "do_name" "do_name" IK gF fd) (iu:Hh P w K mg base 2 jD oN tW (jE XQ aK)) (dX:Hh P w K mg base 1 dU dM jH (bU XQ)):lu P w K mg base 3 gF fd Jp (bW XQ (zN bM aK aQ bh) isName):=by
 have sc:=Zcm;have tx:=o7 _ T;walk_at "okX"
 ·refine ⟨Eg K (jE XQ aK) (bU XQ) E,(ao (gP 2 sc.nd (jT bK (pv 1) (az)))
   (ao (gP 3 sc.nd (jT bK (pv 1) (az)))
   (ao (gP 4 sc.nd (aJ (uX iu.g (hr.mono (by decide)) rfl T.xx iu.k iu.b .nil G.Gg (aa (pv 0) (aa (pv 2) (aa (pv 3) au)))) rfl))
   (ao (Zfv (Qn hr) (aJ (pv 0) rfl) (jT bK (pv 1) (az)) (cF (aa (jT dZ (ig dX hr T.jK (aa (pv 0) (aa (pv 2) au))) (pv 3)) (aa (pv 4) au))) rfl)
   (aA (aM (cF (aa (bN) (aa (pv 4) (aa (cY au) au)))))))))),?_⟩
  obtain ⟨z0,z1,rfl,q⟩:=h;exact Zey tx rfl q
theorem Zdm {fd:FuncData}{eE kh Qt dM:FuncData} (F:jF K "do_seek" "do_seek" Iw gB fd) (fO:Hh P w K mg base 2 eG eE kJ (cA XQ)) (lZ:Hh P w K mg base 3 gn kh oK (fj XQ)) (wY:Hh P w K mg base 3 fZ Qt wC (rz XQ bh)) (dX:Hh P w K mg base 1 dU dM jH (bU XQ)):lu P w K mg base 4 gB fd Jm (bW XQ (zN bM aK aQ bh) JX):=by
 have sc:=Zck;have tx:=o7 _ T;walk_at "okX"
 ·refine ⟨Ed K (cA XQ) (fj XQ) (rz XQ bh) (bU XQ) E,(ao (gP 2 sc.nd (uX wY.g (hr.mono (by decide)) rfl T.Dp wY.k wY.b .nil G.Gg (aa (pv 0) (aa (jT bK (pv 1) (az)) au))))
   (ao (wz (pv 2) (wA (ig dX hr T.jK (aa (pv 0) (aa (jT bK (pv 1) (az)) au))) (jT bK (pv 1) (az)) set_list))
   (ao (gP 3 sc.nd (ig lZ hr T.qH (aa (pv 0) (aa (cY (aa (pv 2) au)) au))))
   (aA (aM (cF (aa (bN) (aa (ig fO hr T.lR (aa (aJ (pv 0) rfl) (aa (pv 2) au))) (aa (pv 3) au))))))))),?_⟩
  obtain ⟨z0,z1,rfl,q⟩:=h;exact Zew tx rfl q
theorem O8 {fd:FuncData} (F:jF K "place_named" "place_named" vN fZ fd) {Yh:FuncData} (Zfi:Hh P w K mg base 2 uC Yh WK (EY XQ)):lu P w K mg base 3 fZ fd wC (rz XQ bh):=by
 have sc:=Oe;have tx:=o7 _ T;walk_at "okX"
 ·refine ⟨uq K bh (EY XQ) E,(ao (cQ (Zk0 (Zh8 (Qn hr) (pv 1) (aJ (pv 0) rfl))) (aA (G.Ge rfl rfl T.Zac T.Fg (aa (bN) au) (fun _ _ _ _ _ _ _ I hx hE=>G.Wu I hx hE))) bB)
   (ao (gP 2 sc.nd (jT bK (pdg hr (aJ (pv 0) rfl) (pv 1)) (az)))
   (ao (gP 3 sc.nd (jT bK (pdg hr (aJ (pv 0) rfl) (pv 1)) (az)))
   (ao (cQ (lQ (ig Zfi hr T.Ze2 (aa (pv 0) (aa (pv 2) (aa (pv 3) au))))) (aA (aM (eU))) bB)
   (aA (aM (pv 2))))))),?_⟩
  obtain ⟨z0,z1,rfl,q⟩:=h;exact OD tx q
theorem Zuf {fd:FuncData}{Zev Zeu Zim Zet Zes Zer Zil Zeq Zep Zb1:FuncData} (F:jF K "do" "do" Zrl Tp fd) (KD:Hh P w K mg base 3 gK Zev Jt (bW XQ (zN bM aK aQ bh) J7)) (KC:Hh P w K mg base 3 gJ Zeu Js (bW XQ (zN bM aK aQ bh) J4)) (QK:Hh P w K mg base 4 jf Zim O2 (bW XQ (zN bM aK aQ bh) UW)) (Kz:Hh P w K mg base 4 gH Zet Jr (bW XQ (zN bM aK aQ bh) J3)) (Ky:Hh P w K mg base 4 gG Zes Jq (bW XQ (zN bM aK aQ bh) J0)) (Kw:Hh P w K mg base 3 gF Zer Jp (bW XQ (zN bM aK aQ bh) isName)) (QJ:Hh P w K mg base 4 je Zil O1 (bW XQ (zN bM aK aQ bh) UT)) (Kv:Hh P w K mg base 3 gD Zeq Jo (bW XQ (zN bM aK aQ bh) JZ)) (Ku:Hh P w K mg base 4 gB Zep Jm (bW XQ (zN bM aK aQ bh) JX)) (Fe:Hh P w K mg base 3 fc Zb1 Eo (bW XQ (zN bM aK aQ bh) Cz)):lu P w K mg base 5 Tp fd Zrr (bW XQ (zN bM aK aQ bh) (fun _=>True)):=by
 have sc:=Zu8;have tx:=o7 _ T;walk_at "okX"
 ·refine ⟨Zjr K gK gJ jf gH gG gF je gD gB fc (bW XQ (zN bM aK aQ bh) J7) (bW XQ (zN bM aK aQ bh) J4) (bW XQ (zN bM aK aQ bh) UW) (bW XQ (zN bM aK aQ bh) J3) (bW XQ (zN bM aK aQ bh) J0) (bW XQ (zN bM aK aQ bh) isName) (bW XQ (zN bM aK aQ bh) UT) (bW XQ (zN bM aK aQ bh) JZ) (bW XQ (zN bM aK aQ bh) JX) (bW XQ (zN bM aK aQ bh) Cz) E,(ao (gP 2 sc.nd (G.Zk8 T.Up rfl (jT bK (pv 1) (az)) (fun _ _=>rfl)))
   (aA (aM (G.ZS (k:=4) (G.QX.cons (by decide) Ky.g Ky.b Ky.k (G.QX.cons (by decide) QK.g QK.b QK.k (G.QX.cons (by decide) QJ.g QJ.b QJ.k (G.QX.cons (by decide) KD.g KD.b KD.k (G.QX.cons (by decide) KC.g KC.b KC.k (G.QX.cons (by decide) Kz.g Kz.b Kz.k (G.QX.cons (by decide) Fe.g Fe.b Fe.k (G.QX.cons (by decide) Kv.g Kv.b Kv.k (G.QX.cons (by decide) Kw.g Kw.b Kw.k (G.QX.cons (by decide) Ku.g Ku.b Ku.k G.QX.nil)))))))))) (hr.mono (by decide)) rfl (Or.inl rfl) G.Gg (aa (pv 0) (aa (pv 1) au)))))),?_⟩
  obtain ⟨z0,z1,rfl,q⟩:=h;exact Zvh tx q
theorem Xa {fd:FuncData} (F:jF K "_law_cell" "_law_cell" Ag fQ fd):lu P w K mg base 1 fQ fd oY (pU K):=by
 have sc:=Wg;walk_at "ok"
 ·refine ⟨yE K,(ao (cQ (pX Bp (pv 1) (cV G.dH (by rfl) T.lG G.boot_len (aa (pv 0) au))) (aA (aM (jT dZ (pv 0) (pv 1)))) bB)
   (aA (aM (az)))),?_⟩
  obtain ⟨z0,z1,rfl,q⟩:=h;exact YX q
theorem W8 {fd:FuncData} (F:jF K "_law_draw" "_law_draw" Ae dR fd):lu P w K mg base 1 dR fd j6 (iZ):=by
 have sc:=We;walk_at "ok"
 ·refine ⟨yC,(aA (aM (aX fW (aX fW (aX Ju (aX fW (pv 0) (pv 1)) (az)) (pv 1)) (pv 2)))),?_⟩;obtain ⟨z0,z1,z2,rfl,q⟩:=h;exact YT q
theorem WX {fd:FuncData} (F:jF K "_law_word" "_law_word" zZ gQ fd):lu P w K mg base 1 gQ fd rC (pR):=by
 have sc:=V4;walk_at "ok"
 ·refine ⟨yo,(ao (gP 2 sc.nd (bN))
   (ao (gP 3 sc.nd (aX kO (az) (aX fW (pv 0) (az))))
   (ao (gP 4 sc.nd (aX fW (aX pH (pv 0) (az)) (pv 3)))
   (ao (gP 5 sc.nd (jT Zlq (pv 2) (aX fW (aX pH (pv 0) (az)) (az))))
   (ao (gP 6 sc.nd (jT Zlq (pv 2) (aX fW (aX kO (aX pH (pv 0) (az)) (aX Ju (az) (pv 1))) (az))))
   (aA (aM (aX O5 (aX O5 (aX G.Zfx (pv 5) (pv 4)) (pv 6)) (aX G.Zfx (pv 5) (aX Bm (aX Bm (pv 3) (az)) (pv 4))))))))))),?_⟩
  obtain ⟨z0,z1,rfl,q⟩:=h;exact YF q
theorem RM {fd:FuncData}{lV eV pP:FuncData} (F:jF K "_law_hands" "_law_hands" xX iG fd) (jA:Hh P w K mg base 1 fQ lV oY (pU K)) (bT:Hh P w K mg base 1 dR eV j6 (iZ)) (rJ:Hh P w K mg base 1 gQ pP rC (pR)):lu P w K mg base 2 iG fd yM (Nu K):=by
 have sc:=Ro;walk_at "ok"
 ·refine ⟨vY K (pU K) (iZ) (pR),(ao (gP 1 sc.nd (ig jA hr T.lN (aa (pv 0) (aa (az) au))))
   (ao (gP 2 sc.nd (cY au))
   (ao (rZ PassesOwn.never rfl (tV rfl T.sV (aa (aX kO (az) (ig bT hr T.cM (aa (pv 1) (aa (az) (aa (az) au))))) au)) (ji (i:=3) sc.nd rfl (Or.inl rfl))
   (ao (gP 4 sc.nd (az))
   (ao (cQ (pX lE (aX fW (pv 1) (az)) (az)) (aA (gP 4 sc.nd (aX kO (az) (ig bT hr T.cM (aa (aX kO (pv 1) (aX Ju (aX Ju (az) (pv 3)) (pv 3))) (aa (az) (aa (az) au))))))) bB)
   (aA (pG (Aw PySem.F.plainAttrs_list PySem.F.slot_list_append PySem.F.type_list_append m5 (pv 2) (aa (cF (aa (ig rJ hr T.vm (aa (pv 1) (aa (pv 3) au))) (aa (pv 4) au))) au)))))))
   (aA (aM (pv 2)))))),?_⟩
  obtain ⟨z0,rfl,q⟩:=h;exact Tu q
theorem W2 {fd:FuncData}{lV eV:FuncData} (F:jF K "_law_room" "_law_room" z8 jq fd) (jA:Hh P w K mg base 1 fQ lV oY (pU K)) (bT:Hh P w K mg base 1 dR eV j6 (iZ)):lu P w K mg base 2 jq fd Bc (Y0 K):=by
 have sc:=V7;walk_at "ok"
 ·refine ⟨yr (pU K) (iZ),(ao (gP 1 sc.nd (ig jA hr T.lN (aa (pv 0) (aa (az) au))))
   (ao (cQ (pX lE (ig bT hr T.cM (aa (pv 1) (aa (az) (aa (az) au)))) (az)) (aA (aM (aX kO (az) (aX fW (aX pH (pv 1) (az)) (az))))) bB)
   (aA (aM (aX Bm (aX WL (az) (az)) (aX fW (pv 1) (aX WL (az) (az)))))))),?_⟩
  obtain ⟨z0,rfl,q⟩:=h;exact YJ q
theorem W6 {fd:FuncData} (F:jF K "_law_kind" "_law_kind" Ac jw fd) {Kd:FuncData} (jX:Hh P w K mg base 1 dg Kd sE (rG XQ.K)):lu P w K mg base 3 jw fd Bg (Nt XQ):=by
 have sc:=Wc;walk_at "ok"
 ·refine ⟨yx XQ.E XQ.F XQ.K XQ.L (rG XQ.K),(ao (cQ (pX lE (aX fW (pv 0) (az)) (az)) (aA (aM (yJ T.Cy jX.g (hr.mono (by decide)) rfl T.Xh jX.b .nil G.fV (aa (G.Jj T.Uv rfl T.Zg4) (aa (aX fW (aX pH (pv 0) (az)) (az)) au))))) bB)
   (ao (cQ (pX lE (aX fW (pv 0) (az)) (az)) (aA (aM (yJ T.Cy jX.g (hr.mono (by decide)) rfl T.Xh jX.b .nil G.fV (aa (G.Jj T.Za9 rfl T.Zlb) (aa (aX fW (aX pH (pv 0) (az)) (az)) au))))) bB)
   (aA (aM (yJ T.Cy jX.g (hr.mono (by decide)) rfl T.Xh jX.b .nil G.fV (aa (G.Jj T.Za8 rfl T.Zl7) (aa (aX fW (aX pH (pv 0) (az)) (az)) au))))))),?_⟩
  obtain ⟨z0,rfl,q⟩:=h;exact YQ q
theorem W4 {fd:FuncData} (F:jF K "_law_made" "_law_made" Aa jt fd) {eV:FuncData} (bT:Hh P w K mg base 1 dR eV j6 (iZ)):lu P w K mg base 2 jt fd Be (Nq):=by
 have sc:=V9;walk_at "okw"
 ·refine ⟨yu K (iZ),(Zo0 (i:=3) sc.nd rfl (Or.inl rfl) (xm (az) (xm (az) (xm (az) (xm (az) (xm (az) (xm (az) Zoh)))))) (ig bT hr T.cM (aa (pv 0) (aa (az) (aa (az) au)))) (fun _ _=>rfl)
   (Oz (gP 4 sc.nd (az))
   (Oz (cQ (pX lE (aX fW (pv 0) (az)) (az)) (aA (gP 4 sc.nd (aX fW (pv 0) (az)))) bB)
   (Oz (cQ (pX lE (aX fW (pv 0) (az)) (az)) (aA (gP 4 sc.nd (aX fW (pv 0) (aX kO (aX WL (az) (az)) (az))))) bB)
   (Znz (aM (cF (aa (bN) (aa (pv 1) (aa (pv 2) (aa (pv 3) (aa (pv 4) au)))))))))))),?_⟩
  obtain ⟨z0,z1,z2,rfl,q⟩:=h;exact YL q
theorem W5 {fd:FuncData} (F:jF K "_law_load" "_law_load" Ab ju fd):lu P w K mg base 1 ju fd Bf (Nr):=by
 have sc:=Wb;walk_at "ok"
 ·refine ⟨yw,(ao (gP 1 sc.nd (aX fW (pv 0) (aX WL (az) (az))))
   (ao (cQ (pX lE (aX fW (aX pH (pv 0) (az)) (az)) (az)) (aA (aM (Zuc Zr5 (pv 1)))) bB)
   (aA (aM (pv 1))))),?_⟩
  obtain ⟨z0,rfl,q⟩:=h;exact YM q
theorem W9 {fd:FuncData}{eV Yo Yn pP:FuncData} (F:jF K "_law_deed" "_law_deed" Af jz fd) (bT:Hh P w K mg base 1 dR eV j6 (iZ)) (Zbv:Hh P w K mg base 1 ju Yo Bf (Nr)) (Zbu:Hh P w K mg base 2 jt Yn Be (Nq)) (rJ:Hh P w K mg base 1 gQ pP rC (pR)):lu P w K mg base 3 jz fd Bj (Ny K):=by
 have sc:=Wf;walk_at "ok"
 ·refine ⟨yD K (iZ) (Nr) (Nq) (pR),(ao (gP 3 sc.nd (ig bT hr T.cM (aa (pv 0) (aa (az) (aa (cV G.dH (by rfl) T.lG G.boot_len (aa (pv 1) au)) au)))))
   (ao (gP 4 sc.nd (ig bT hr T.cM (aa (pv 0) (aa (az) (aa (jT bK (jT dZ (pv 1) (pv 3)) (az)) au)))))
   (ao (gP 5 sc.nd (ig bT hr T.cM (aa (pv 0) (aa (az) (aa (jT bK (jT dZ (pv 1) (pv 3)) (az)) au)))))
   (ao (gP 6 sc.nd (ig bT hr T.cM (aa (pv 0) (aa (az) (aa (jT dZ (cY (aa (az) (aa (az) au))) (aX pH (aX fW (pv 0) (az)) (az))) au)))))
   (ao (gP 7 sc.nd (ig bT hr T.cM (aa (pv 0) (aa (az) (aa (az) au)))))
   (ao (cQ (pX Bp (pv 7) (az)) (aA (aM (ig Zbu hr T.K9 (aa (pv 0) (aa (pv 3) (aa (pv 4) au)))))) bB)
   (ao (cQ (pX Bp (pv 7) (az)) (aA (aM (cF (aa (bN) (aa (pv 3) (aa (pv 4) (aa (pv 5) (aa (pv 6) au)))))))) bB)
   (ao (cQ (pX Bp (pv 7) (az)) (aA (aM (cF (aa (bN) (aa (pv 3) (aa (pv 5) (aa (pv 6) (aa (pv 4) au)))))))) bB)
   (ao (cQ (pX lE (pv 7) (az)) (aA (aM (cF (aa (bN) (aa (pv 3) (aa (pv 4) (aa (pv 5) au))))))) bB)
   (ao (cQ (pX lE (pv 7) (az)) (aA (aM (cF (aa (bN) (aa (pv 3) (aa (pv 4) au)))))) bB)
   (ao (cQ (pX Bp (pv 7) (az)) (ao (gP 8 sc.nd (ig bT hr T.cM (aa (pv 0) (aa (az) (aa (cV G.dH (by rfl) T.lG G.boot_len (aa (pv 1) au)) au)))))
   (aA (aM (cF (aa (bN) (aa (pv 3) (aa (pv 4) (aa (pv 8) (aa (ig bT hr T.cM (aa (pv 0) (aa (az) (aa (jT bK (jT dZ (pv 1) (pv 8)) (az)) au)))) au))))))))) bB)
   (ao (cQ (pX lE (pv 7) (az)) (aA (aM (cF (aa (bN) (aa (pv 3) (aa (pv 5) (aa (ig Zbv hr T.La (aa (pv 0) au)) au))))))) bB)
   (ao (gP 9 sc.nd (ig rJ hr T.vm (aa (pv 2) (aa (ig bT hr T.cM (aa (pv 0) (aa (az) (aa (az) au)))) au))))
   (ao (cQ (pX Bp (pv 7) (az)) (aA (aM (cF (aa (bN) (aa (pv 3) (aa (pv 5) (aa (pv 9) au))))))) bB)
   (aA (aM (cF (aa (bN) (aa (pv 3) (aa (pv 4) (aa (pv 9) au))))))))))))))))))))),?_⟩
  obtain ⟨z0,z1,z2,rfl,q⟩:=h;exact YW q
theorem RP {fd:FuncData}{Yr eV:FuncData} (F:jF K "_law_deeds" "_law_deeds" xZ iI fd) (Zby:Hh P w K mg base 3 jz Yr Bj (Ny K)) (bT:Hh P w K mg base 1 dR eV j6 (iZ)):lu P w K mg base 4 iI fd yO (Ck K):=by
 have sc:=Rr;walk_at "ok"
 ·refine ⟨v9 K (Ny K) (iZ),(ao (gP 3 sc.nd (ig Zby hr T.Le (aa (pv 0) (aa (pv 1) (aa (pv 2) au)))))
   (ao (cQ (PW.pt (Zd5 (pX lE (jT bK (pv 3) (az)) (bN)) (Wv (pX lE (aX fW (aX pH (pv 0) (az)) (az)) (az))))) (aA (aM (cY (aa (pv 3) (aa (cF (aa (bN) (aa (jT bK (pv 3) (az)) (aa (jT bK (pv 3) (az)) au)))) au))))) bB)
   (ao (cQ (PW.pt (Zd5 (pX lE (jT bK (pv 3) (az)) (bN)) (Wv (pX lE (aX fW (aX pH (pv 0) (az)) (az)) (az))))) (aA (aM (cY (aa (pv 3) (aa (cF (aa (bN) (aa (jT bK (pv 3) (az)) (aa (jT bK (pv 3) (az)) (aa (jT bK (pv 3) (az)) (aa (ig bT hr T.cM (aa (pv 0) (aa (az) (aa (az) au)))) au)))))) au))))) bB)
   (aA (aM (cY (aa (pv 3) au))))))),?_⟩
  obtain ⟨z0,z1,z2,rfl,q⟩:=h;exact Tw q
theorem RK {fd:FuncData}{eV pP:FuncData} (F:jF K "_law_start" "_law_start" xW iD fd) (bT:Hh P w K mg base 1 dR eV j6 (iZ)) (rJ:Hh P w K mg base 1 gQ pP rC (pR)):lu P w K mg base 2 iD fd yL (HD K):=by
 have sc:=Rn;walk_at "ok"
 ·refine ⟨vX K (iZ) (pR),(ao (gP 3 sc.nd (cY au))
   (ao (rZ PassesOwn.never rfl (tV rfl T.sV (aa (cV G.dH (by rfl) T.lG G.boot_len (aa (pv 0) au)) au)) (ji (i:=4) sc.nd rfl (Or.inl rfl))
   (ao (gP 3 sc.nd (aX sJ (pv 3) (cY (aa (cF (aa (bN) (aa (pv 4) (aa (az) (aa (az) (aa (az) au)))))) (aa (cF (aa (bN) (aa (pv 4) (aa (az) (aa (az) (aa (az) au)))))) au)))))
   (aA (gP 3 sc.nd (aX sJ (pv 3) (cY (aa (cF (aa (bN) (aa (pv 4) (aa (az) (aa (aX fW (pv 4) (az)) (aa (az) au)))))) (aa (cF (aa (bN) (aa (pv 4) (aa (az) au)))) au))))))))
   (ao (gP 5 sc.nd (ig bT hr T.cM (aa (pv 1) (aa (az) (aa (az) au)))))
   (ao (cQ (pX Zfy (pv 5) (az)) (aA (gP 3 sc.nd (aX sJ (pv 3) (G.ZQ (cns:=[]) [] (tV rfl T.sV (aa (cV G.dH (by rfl) T.lG G.boot_len (aa (pv 0) au)) au)) (fun _ _ _ _ _=>G.En) (fun _ _ _ _ _=>(cF (aa (bN) (aa (pv 0) (aa (az) (aa (az) (aa (az) au))))))) rfl rfl (by repeat (first | exact trivial | refine ⟨rfl,?_⟩)) (by repeat (first | exact trivial | refine ⟨rfl,?_⟩)) rfl (by decide +kernel) rfl (by decide +kernel) (by decide +kernel) rfl (by decide +kernel))))) bB)
   (ao (gP 3 sc.nd (aX sJ (pv 3) (aX O3 (cY (aa (eU) au)) (aX kO (az) (ig bT hr T.cM (aa (pv 1) (aa (az) (aa (az) au))))))))
   (ao (rZ PassesOwn.never rfl (tV rfl T.sV (aa (cV G.dH (by rfl) T.lG G.boot_len (aa (pv 0) au)) au)) (ji (i:=4) sc.nd rfl (Or.inl rfl))
   (ao (cQ (pX lE (pv 5) (az)) (aA (gP 3 sc.nd (aX sJ (pv 3) (cY (aa (cF (aa (bN) (aa (pv 4) (aa (az) (aa (az) (aa (aX fW (pv 4) (az)) au)))))) (aa (cF (aa (bN) (aa (pv 4) (aa (az) (aa (aX fW (pv 4) (az)) (aa (az) au)))))) au)))))) bB)
   (ao (cQ (pX Zfy (pv 5) (az)) (aA (gP 3 sc.nd (aX sJ (pv 3) (cY (aa (cF (aa (bN) (aa (pv 4) (aa (az) (aa (az) (aa (az) au)))))) (aa (cF (aa (bN) (aa (pv 4) (aa (az) (aa (az) (aa (az) au)))))) (aa (cF (aa (bN) (aa (pv 4) (aa (az) au)))) au))))))) bB)
   (aA (cQ (pX lE (pv 5) (az)) (aA (gP 3 sc.nd (aX sJ (pv 3) (cY (aa (cF (aa (bN) (aa (pv 4) (aa (az) (aa (ig rJ hr T.vm (aa (pv 2) (aa (aX fW (pv 4) (az)) au))) au))))) (aa (cF (aa (bN) (aa (pv 4) (aa (az) au)))) au)))))) bB)))))
   (aA (aM (pv 3))))))))),?_⟩
  obtain ⟨z0,z1,z2,rfl,q⟩:=h;exact Tt q
theorem W0 {fd:FuncData}{lV Th eV Td:FuncData} (F:jF K "_law_rows" "_law_rows" z7 jo fd) (jA:Hh P w K mg base 1 fQ lV oY (pU K)) (Zg:Hh P w K mg base 4 iI Th yO (Ck K)) (bT:Hh P w K mg base 1 dR eV j6 (iZ)) (Zd:Hh P w K mg base 2 iD Td yL (HD K)):lu P w K mg base 5 jo fd Bb (Nm K):=by
 have sc:=V6;walk_at "ok"
 ·refine ⟨yq K (pU K) (Ck K) (iZ) (HD K),(ao (gP 2 sc.nd (cY au))
   (ao (cQ (pX Zfy (ig bT hr T.cM (aa (ig jA hr T.lN (aa (pv 0) (aa (az) au))) (aa (az) (aa (az) au)))) (az)) (aA (gP 2 sc.nd (ig Zd hr T.Gz (aa (pv 1) (aa (ig jA hr T.lN (aa (pv 0) (aa (az) au))) (aa (ig jA hr T.lN (aa (pv 0) (aa (az) au))) au)))))) bB)
   (ao (gP 3 sc.nd (ig jA hr T.lN (aa (pv 0) (aa (az) au))))
   (ao (gP 4 sc.nd (az))
   (ao (rZ PassesOwn.never rfl (nU (Zk9 Zne (pv 0) (Zfw (az)) (Zfw (az)))) (ji (i:=5) sc.nd rfl (Or.inl rfl))
   (ao (gP 6 sc.nd (aX kO (pv 5) (aX Ju (aX Ju (pv 4) (pv 4)) (az))))
   (ao (cQ (pX lE (ig bT hr T.cM (aa (pv 6) (aa (az) (aa (az) au)))) (az)) (aA (gP 2 sc.nd (aX sJ (pv 2) (aX O3 (cY (aa (eU) au)) (aX kO (az) (ig bT hr T.cM (aa (pv 6) (aa (az) (aa (az) au))))))))) (aA (gP 2 sc.nd (aX sJ (pv 2) (ig Zg hr T.GJ (aa (pv 6) (aa (pv 1) (aa (pv 3) au))))))))
   (aA (Zrq (i:=4) sc.nd rfl (Or.inl rfl) (az) Zsj)))))
   (aA (aM (aX sJ (pv 2) (aX O3 (cY (aa (eU) au)) (aX kO (az) (ig bT hr T.cM (aa (pv 3) (aa (az) (aa (az) au)))))))))))))),?_⟩
  obtain ⟨z0,z1,rfl,q⟩:=h;exact YH q
theorem Pa {fd:FuncData} (F:jF K "_law_number" "_law_number" vP gf fd):lu P w K mg base 1 gf fd wD (HH):=by
 have sc:=Oh;walk_at "ok"
 ·refine ⟨uv,(aA (aM ((Zdc (cV G.Ca (by rfl) T.jY G.boot_isinstance (aa (pv 0) (aa (Gf rfl T.Zfm G.boot_int rfl) au))) (Zda (Zka (cV G.Ca (by rfl) T.jY G.boot_isinstance (aa (pv 0) (aa (Gf rfl T.Vo G.boot_bool rfl) au))))))))),?_⟩;obtain ⟨z0,rfl,q⟩:=h;exact QG q
theorem RN {fd:FuncData} (F:jF K "_law_event" "_law_event" xY iH fd) {Qv:FuncData} (DK:Hh P w K mg base 1 gf Qv wD (HH)):lu P w K mg base 2 iH fd yN (Nx K):=by
 have sc:=Rq;walk_at "ok"
 ·refine ⟨vZ K (HH),(ao (cQ (PW.pt (uU (qu (lQ (cV G.Ca (by rfl) T.jY G.boot_isinstance (aa (pv 0) (aa (Gf rfl T.MP G.boot_tuple rfl) au))))) (uU (pX ZZ (cV G.dH (by rfl) T.lG G.boot_len (aa (pv 0) au)) (az)) (uw (qu (lQ (cV G.Ca (by rfl) T.jY G.boot_isinstance (aa (jT bK (pv 0) (az)) (aa (Gf rfl T.Zfl G.boot_str rfl) au))))))))) (aA (aM (zG))) bB)
   (ao (cQ (PW.pt (uU (qu (lQ (ig DK hr T.wI (aa (jT bK (pv 0) (az)) au)))) (uw (qu (lQ (cV G.Ca (by rfl) T.jY G.boot_isinstance (aa (jT bK (pv 0) (az)) (aa (Gf rfl T.tX G.boot_list rfl) au)))))))) (aA (aM (zG))) bB)
   (ao (rZ PassesOwn.never rfl (nU (jT bK (pv 0) (az))) (ji (i:=2) sc.nd rfl (Or.inl rfl))
   (aA (cQ (qu (lQ (ig DK hr T.wI (aa (pv 2) au)))) (aA (aM (zG))) bB)))
   (aA (aM (yK (G.Zdi hr.units) (pv 0) (pv 1) (Er _))))))),?_⟩
  obtain ⟨z0,z1,rfl,q⟩:=h;exact Tv q
theorem W7 {fd:FuncData} (F:jF K "_law_hand" "_law_hand" Ad jx fd) {Zvc:FuncData} (Zty:Hh P w K mg base 5 Tp Zvc Zrr (bW XQ (zN bM aK aQ bh) (fun _=>True))):lu P w K mg base 6 jx fd Bh (Nv XQ (zN bM aK aQ bh)):=by
 have sc:=Wd;walk_at "ok"
 ·refine ⟨yz aK bM aQ bh (bW XQ (zN bM aK aQ bh) (fun _=>True)),(ao (gP 2 sc.nd (eU))
   (ao (G.Zrp ⟨rfl,rfl⟩ rfl T.Lf (fun cls h=>by rcases h with rfl | rfl | rfl | rfl<;>first | exact T.jQ | exact T.lA | exact T.m7 | exact T.lW) (fun Ex pn xe hx=>(aA (gP 2 sc.nd (G.Zke Zty.g (hr.mono (by decide)) rfl T.Zui Zty.k Zty.b .nil hx (aa (pv 0) (aa (pv 1) au)))))) (fun ea pn=>(aA (gP 2 sc.nd (eU)))))
   (aA (aM (pv 2))))),?_⟩
  obtain ⟨z0,z1,rfl,q⟩:=h;exact YS rfl rfl rfl rfl q
theorem RQ {fd:FuncData} (F:jF K "_law_cells" "_law_cells" yc iJ fd):lu P w K mg base 1 iJ fd yP (Cm XQ):=by
 have sc:=Rt;have tx:=o7 _ T;walk_at "ok"
 ·refine ⟨wg K,(ao (gP 1 sc.nd (cY au))
   (ao (rZ PassesOwn.never rfl (nU (aJ (aJ (pv 0) rfl) rfl)) (ji (i:=2) sc.nd rfl (Or.inl rfl))
   (aA (cQ (pX G.u5 (pv 2) (eU)) (aA (pG (Aw PySem.F.plainAttrs_list PySem.F.slot_list_append PySem.F.type_list_append m5 (pv 1) (aa (eU) au)))) (aA (pG (Aw PySem.F.plainAttrs_list PySem.F.slot_list_append PySem.F.type_list_append m5 (pv 1) (aa (cF (aa (aJ (pv 2) rfl) (aa (aJ (pv 2) rfl) (aa (aJ (pv 2) rfl) (aa (qx G.zj (by rfl) T.tX G.boot_list (aa (aJ (pv 2) rfl) au)) au))))) au)))))))
   (aA (aM (pv 1))))),?_⟩
  obtain ⟨z0,rfl,q⟩:=h;exact Tz tx q
theorem W3 {fd:FuncData} (F:jF K "_law_rest" "_law_rest" z9 jr fd) {Yg:FuncData} (Zfh:Hh P w K mg base 1 uB Yg ["world"] (Ez XQ)):lu P w K mg base 2 jr fd Bd (HF XQ):=by
 have sc:=V8;have tx:=o7 _ T;walk_at "ok"
 ·refine ⟨yt K (Ez XQ),(ao (G.ZM (iz:=1) (cns:=["_law_world"]) [0] (nU (qx (G.Zfb rfl) (by rfl) T.tX G.boot_list (aa (aJ (pv 0) rfl) au))) (fun _ _ _ _ _=>G.En) (fun _ _ _ _ _=>(cF (aa (pv 0) (aa (pdg hr (aJ (pv 1) rfl) (pv 0)) au)))) rfl rfl (by repeat (first | exact trivial | refine ⟨rfl,?_⟩)) (by repeat (first | exact trivial | refine ⟨rfl,?_⟩)) rfl (by decide +kernel) rfl (by decide +kernel) (by decide +kernel) rfl (by decide +kernel) sc.nd rfl (Or.inl rfl) (Or.inr rfl) rfl)
   (ao (G.ZM (iz:=2) (cns:=[]) [] (nU (aJ (pv 0) rfl)) (fun _ _ _ _ _=>G.En) (fun _ _ _ _ _=>(aJ (pv 0) rfl)) rfl rfl (by repeat (first | exact trivial | refine ⟨rfl,?_⟩)) (by repeat (first | exact trivial | refine ⟨rfl,?_⟩)) rfl (by decide +kernel) rfl (by decide +kernel) (by decide +kernel) rfl (by decide +kernel) sc.nd rfl (Or.inl rfl) (Or.inr rfl) rfl)
   (aA (aM (cY (aa (ig Zfh hr T.Ze1 (aa (pv 0) au)) (aa (pv 1) (aa (pv 2) (aa (aJ (aJ (pv 0) rfl) rfl) (aa (aJ (aJ (pv 0) rfl) rfl) au)))))))))),?_⟩
  obtain ⟨z0,rfl,q⟩:=h;exact YK tx q
theorem WY {fd:FuncData}{Ti Tf Ym Zq4:FuncData} (F:jF K "_law_step" "_law_step" z6 jm fd) (HN:Hh P w K mg base 1 iJ Ti yP (Cm XQ)) (Zf:Hh P w K mg base 2 iH Tf yN (Nx K)) (Lw:Hh P w K mg base 2 jr Ym Bd (HF XQ)) (Ztw:Hh P w K mg base 9 wR Zq4 ["world"] (bR XQ Zkg)):lu P w K mg base 10 jm fd Ba (Nk XQ):=by
 have sc:=V5;walk_at "ok"
 ·refine ⟨yp K (Cm XQ) (Nx K) (HF XQ) (bR XQ Zkg),(ao (gP 2 sc.nd (ig HN hr T.yX (aa (pv 0) au)))
   (ao (gP 3 sc.nd (ig Lw hr T.Bw (aa (pv 0) au)))
   (ao (gP 4 sc.nd (ig Ztw hr T.Zl3 (aa (pv 0) au)))
   (ao (cQ (qu (lQ (ig Zf hr T.GF (aa (pv 4) (aa (pv 4) au))))) (aA (aM (zG))) bB)
   (ao (cQ (pX lE (jT bK (pv 4) (az)) (bN)) (ao (cQ (PW.pt (uU (pX ZZ (cV G.dH (by rfl) T.lG G.boot_len (aa (jT bK (pv 4) (az)) au)) (az)) (uw (qu (Zk1 Zqt Bp (az) (jT dZ (jT bK (pv 4) (az)) (az)) (cV G.dH (by rfl) T.lG G.boot_len (aa (pv 2) au))))))) (aA (aM (zG))) bB)
   (ao (gP 5 sc.nd (jT dZ (pv 2) (jT dZ (jT bK (pv 4) (az)) (az))))
   (ao (cQ (PW.pt (uU (pX G.u5 (pv 5) (eU)) (uw (pX ZZ (jT bK (pv 5) (az)) (jT bK (pv 4) (az)))))) (aA (aM (zG))) bB)
   (aA (wz (eU) (wA (pv 2) (jT dZ (jT bK (pv 4) (az)) (az)) set_list)))))) bB)
   (aA (aM ((Zdc (yK (G.Zdi hr.units) (ig HN hr T.yX (aa (pv 0) au)) (pv 2) (Er _)) (Zda (yK (G.Zdi hr.units) (ig Lw hr T.Bw (aa (pv 0) au)) (pv 3) (Er _)))))))))))),?_⟩
  obtain ⟨z0,z1,rfl,q⟩:=h;exact YG q
theorem Zru {fl:Addr}{fd:FuncData}{Hq lV Yq Te Yp Yl Yk Yj:FuncData} (F:jF K "law" "law" Ol fl fd) (xG:Hh P w K mg base 3 cR Hq qy (tQ XQ)) (jA:Hh P w K mg base 1 fQ lV oY (pU K)) (Zbx:Hh P w K mg base 6 jx Yq Bh (Nv XQ (zN bM aK aQ bh))) (Ze:Hh P w K mg base 2 iG Te yM (Nu K)) (Zbw:Hh P w K mg base 3 jw Yp Bg (Nt XQ)) (Zbt:Hh P w K mg base 2 jq Yl Bc (Y0 K)) (Zbs:Hh P w K mg base 5 jo Yk Bb (Nm K)) (Zbr:Hh P w K mg base 10 jm Yj Ba (Nk XQ)):lu P w K mg base 11 fl fd ["_law_script"] (Zgk K):=by
 have sc:=Zri;have tx:=o7 _ T;walk_at "ok"
 ·refine ⟨Zd2 K XQ.W (tQ XQ) (pU K) (Nv XQ (zN bM aK aQ bh)) (Nu K) (Nt XQ) (Y0 K) (Nm K) (Nk XQ),(ao (gP 1 sc.nd (aX fW (ig jA hr T.lN (aa (pv 0) (aa (az) au))) (az)))
   (ao (gP 2 sc.nd (ig Ze hr T.GD (aa (pv 0) au)))
   (ao (gP 3 sc.nd (yJ T.Gq xG.g (hr.mono (by decide)) rfl T.Zg3 xG.b .nil G.fV (aa (ig Zbt hr T.K8 (aa (pv 0) au)) (aa (ig Zbw hr T.Lb (aa (pv 1) au)) (aa (qx G.zj (by rfl) T.tX G.boot_list (aa (pv 2) au)) au)))))
   (ao (rZ PassesOwn.never rfl (nU (ig Zbs hr T.K7 (aa (pv 0) (aa (pv 2) au)))) (ji (i:=4) sc.nd rfl (Or.inl rfl))
   (ao (cQ (pX lE (aJ (aJ (pv 3) rfl) rfl) (bN)) (aA (aM (zG))) bB)
   (aA (cQ (pX G.Bo (pv 4) (eU)) (aA (pG (ig Zbx hr T.Ld (aa (pv 3) (aa (pv 4) au))))) (aA (cQ (qu (lQ (ig Zbr hr T.K6 (aa (pv 3) (aa (aX fW (pv 1) (az)) au))))) (aA (aM (zG))) bB))))))
   (aA (aM (zG))))))),?_⟩
  obtain ⟨z0,rfl,q⟩:=h;exact Zs9 tx q
end
abbrev Fi (K:aC) (c:Addr) (s:Str) (f:Addr):Prop:=PySem.W.findIn K (.ref c) s=some (some (.ref f))
abbrev Fo (K:aC) (c:Addr) (s:Str):Prop:=PySem.W.findIn K (.ref c) s=some none
abbrev Ns (K:aC) (s:Str) (f:Addr):Prop:=PySem.W.nsIn K mainGlobals s=some (some (.ref f))
abbrev Ki (K:aC) (f:Addr):Prop:=PySem.W.keepIn K (.ref f)=true
abbrev Ci (K:aC) (c:Value) (s:Str):Prop:=PySem.W.codeIn K c s=true
abbrev Lk (K:aC) (f:Addr) (a b:Str) (s:Stmt) (d:Value) (oc:Value) (od:Option Addr) (kV dc pm:Value) (an:Option Addr) (cd ct:Value) (sl:Array (Option Value)):Prop:=K.lookup f=some ⟨oc,od,.func (PySem.W.fnOf a b (mJ s) (jR s) (aF s) d kV dc pm an cd ct),sl⟩
def lq (K:aC) (x q:Str) (s:Stmt) (f:Addr):Prop:=∃ oc od kV dc pm an cd ct sl,Lk K f x q s .none oc od kV dc pm an cd ct sl∧Ci K cd q∧Ki K f
theorem fgm {K:aC}{x q:Str}{s:Stmt}{f:Addr}{oc:Value}{od:Option Addr}{kV dc pm:Value}{an:Option Addr}{cd ct:Value}{sl:Array (Option Value)} (l:Lk K f x q s .none oc od kV dc pm an cd ct sl) (c:Ci K cd q) (k:Ki K f):lq K x q s f:=⟨oc,od,kV,dc,pm,an,cd,ct,sl,l,c,k⟩
theorem fg {K:aC}{x q:Str}{s:Stmt}{f:Addr} (h:lq K x q s f):∃ fd,jF K x q s f fd∧Ki K f:=by
 obtain ⟨oc,od,kV,dc,pm,an,cd,ct,sl,l,c,k⟩:=h;exact ⟨_,Zmf l c k,k⟩
theorem Ey {K:aC}{x qual:Str}{st:Stmt}{f:Addr}{fd:FuncData} (F:jF K x qual st f fd) (a0:Str) (h:∀ (kV doc pm:Value) (an:Option Addr) (cdv ct u0:Value),bindArgs (PySem.W.fnOf x qual (mJ st) (jR st) (aF st) .none kV doc pm an cdv ct) ⟨[u0],[]⟩=pure (([a0]:List Str).zip [u0]):=by intros;rfl):Binds K fd [a0] []:=F.binds fun kV doc pm an cdv ct us hl=>match us,hl with | [u0],_=>h kV doc pm an cdv ct u0
theorem Cd {K:aC}{x qual:Str}{st:Stmt}{f:Addr}{fd:FuncData} (F:jF K x qual st f fd) (a0 a1:Str) (h:∀ (kV doc pm:Value) (an:Option Addr) (cdv ct u0 u1:Value),bindArgs (PySem.W.fnOf x qual (mJ st) (jR st) (aF st) .none kV doc pm an cdv ct) ⟨[u0,u1],[]⟩=pure (([a0,a1]:List Str).zip [u0,u1]):=by intros;rfl):Binds K fd [a0,a1] []:=F.binds fun kV doc pm an cdv ct us hl=>match us,hl with | [u0,u1],_=>h kV doc pm an cdv ct u0 u1
theorem bd3 {K:aC}{x qual:Str}{st:Stmt}{f:Addr}{fd:FuncData} (F:jF K x qual st f fd) (a0 a1 a2:Str) (h:∀ (kV doc pm:Value) (an:Option Addr) (cdv ct u0 u1 u2:Value),bindArgs (PySem.W.fnOf x qual (mJ st) (jR st) (aF st) .none kV doc pm an cdv ct) ⟨[u0,u1,u2],[]⟩=pure (([a0,a1,a2]:List Str).zip [u0,u1,u2]):=by intros;rfl):Binds K fd [a0,a1,a2] []:=F.binds fun kV doc pm an cdv ct us hl=>match us,hl with | [u0,u1,u2],_=>h kV doc pm an cdv ct u0 u1 u2
theorem bd4 {K:aC}{x qual:Str}{st:Stmt}{f:Addr}{fd:FuncData} (F:jF K x qual st f fd) (a0 a1 a2 a3:Str) (h:∀ (kV doc pm:Value) (an:Option Addr) (cdv ct u0 u1 u2 u3:Value),bindArgs (PySem.W.fnOf x qual (mJ st) (jR st) (aF st) .none kV doc pm an cdv ct) ⟨[u0,u1,u2,u3],[]⟩=pure (([a0,a1,a2,a3]:List Str).zip [u0,u1,u2,u3]):=by intros;rfl):Binds K fd [a0,a1,a2,a3] []:=F.binds fun kV doc pm an cdv ct us hl=>match us,hl with | [u0,u1,u2,u3],_=>h kV doc pm an cdv ct u0 u1 u2 u3
theorem bd5 {K:aC}{x qual:Str}{st:Stmt}{f:Addr}{fd:FuncData} (F:jF K x qual st f fd) (a0 a1 a2 a3 a4:Str) (h:∀ (kV doc pm:Value) (an:Option Addr) (cdv ct u0 u1 u2 u3 u4:Value),bindArgs (PySem.W.fnOf x qual (mJ st) (jR st) (aF st) .none kV doc pm an cdv ct) ⟨[u0,u1,u2,u3,u4],[]⟩=pure (([a0,a1,a2,a3,a4]:List Str).zip [u0,u1,u2,u3,u4]):=by intros;rfl):Binds K fd [a0,a1,a2,a3,a4] []:=F.binds fun kV doc pm an cdv ct us hl=>match us,hl with | [u0,u1,u2,u3,u4],_=>h kV doc pm an cdv ct u0 u1 u2 u3 u4
theorem all_mk {l:PySem.W.OpenLaw}{w:World}{K:aC}{h:Heap}{mg:Str→Option Value}{fa fl aZ aW kZ bG eX dI eY fX jP fu aK aQ bM bh dm fL dG di gR jN iR iQ gw ir eG mG nQ dj cu cR uB jl jk eF iB qZ wU gn uC qY mF gm cI cG wQ gb Dw iC kY gk cH iy Dv bO wR mR bJ bQ cz dD dF dB gq dg dU jD iM fY fJ gG jf je gK gJ gH fc gD gF gB fZ Tp fQ dR gQ iG jq jw jt ju jz iI iD jo gf iH jx iJ jr jm:Addr} (KI:K.In h) (GN:h.Ns mainGlobals mg) (hfa:mg "law"=some (.ref fa))
  {od5 an5 to5 Zvw Zvo:Option Addr}
  {sl5 ts5 Zvv:Array (Option Value)}
  {oc5 kV5 dc5 pm5 cd5 ct5 tc5 Zmq Zga Zvx Zun Zvj Zub Ztk Zvl Zqo Zqn:Value}
  {td5 Qx Qy:Addr}
  {tn5 Zb4 Zb5:Nat}
  {U6 U5 U4 U3 Vg Vf Ve Vd Vc Vb Va U9 U8 U7:Int}
  {Ub Ua T9 T7 Um Ul Uk Uj Ui Uh Ug Ue Ud Uc:Tok}
  (Ztt:Ns K "Cell" aZ)
  (Ztp:Ns K "Heap" aW)
  (Ztq:Ns K "Hand" kZ)
  (Ziz:Ns K "Sweeper" bG)
  (Zqe:Ns K "World" eX)
  (Zqf:Ns K "First" dI)
  (Zts:Ns K "Each" eY)
  (Ztn:Ns K "Last" fX)
  (Zto:Ns K "Kind" jP)
  (Zbj:Ns K "GreyError" fu)
  (Zbk:Ns K "EmptySlot" aK)
  (Zj0:Ns K "NoField" aQ)
  (Ztr:Ns K "Full" bM)
  (Zn0:Ns K "NoName" bh)
  (a1:Fi K aZ "__init__" dm)
  (i1:PySem.W.isFn K (.ref dm)=true)
  (a2:Fi K aZ "units" fL)
  (i2:PySem.W.isFn K (.ref fL)=true)
  (a3:Fi K aZ "has_field" dG)
  (i3:PySem.W.isFn K (.ref dG)=true)
  (a4:Fi K aW "__init__" di)
  (i4:PySem.W.isFn K (.ref di)=true)
  (a5:Fi K aW "make" gR)
  (i5:PySem.W.isFn K (.ref gR)=true)
  (l5:Lk K gR "make" "Heap.make" uR (.ref td5) oc5 od5 kV5 dc5 pm5 an5 cd5 ct5 sl5)
  (t5:K.lookup td5=some ⟨tc5,to5,.seq #[Zmq,Zga] tn5,ts5⟩)
  (ZDw:RelV (.int 0) Zmq)
  (ZDv:RelV (.int 0) Zga)
  (c5:Ci K cd5 "Heap.make")
  (k5:Ki K gR)
  (a6:Fi K aW "lay" jN)
  (i6:PySem.W.isFn K (.ref jN)=true)
  (a7:Fi K aW "back" iR)
  (i7:PySem.W.isFn K (.ref iR)=true)
  (a8:Fi K aW "free" iQ)
  (i8:PySem.W.isFn K (.ref iQ)=true)
  (a9:Fi K aW "there" gw)
  (i9:PySem.W.isFn K (.ref gw)=true)
  (a10:Ns K "cell_at" ir)
  (a11:Ns K "birth_at" eG)
  (a12:Ns K "reached" mG)
  (a13:Ns K "onward" nQ)
  (a14:Fi K kZ "__init__" dj)
  (i14:PySem.W.isFn K (.ref dj)=true)
  (a15:Fi K bG "__init__" cu)
  (i15:PySem.W.isFn K (.ref cu)=true)
  (a16:Fi K eX "__init__" cR)
  (i16:PySem.W.isFn K (.ref cR)=true)
  (a17:Ns K "held" uB)
  (a18:Ns K "births_at" jl)
  (a19:Ns K "looked_at" jk)
  (a20:Ns K "has_sense" eF)
  (a21:Ns K "is_walking" iB)
  (a22:Ns K "begin" qZ)
  (a23:Ns K "note" wU)
  (a24:Ns K "note_all" gn)
  (a25:Ns K "gone" uC)
  (a26:Ns K "roots" qY)
  (a27:Ns K "root_of" mF)
  (a28:Ns K "note_hands" gm)
  (a29:Ns K "step_at_rest" cI)
  (a30:Ns K "step_in_walk" cG)
  (a31:Ns K "walk" wQ)
  (a32:Ns K "look_or_cut" gb)
  (a33:Ns K "cut" Dw)
  (a34:Ns K "first_loss" iC)
  (a35:Ns K "given_up" kY)
  (a36:Ns K "told_again" gk)
  (a37:Ns K "step_in_give" cH)
  (a38:Ns K "pass_place" iy)
  (a39:Ns K "end" Dv)
  (a40:Ns K "step_when_lost" bO)
  (a41:Ns K "step" wR)
  (a42:Ns K "all_of" mR)
  (a43:Fi K eY "at_begin" bJ)
  (i43:PySem.W.isFn K (.ref bJ)=true)
  (a44:Fi K dI "next_look" bQ)
  (i44:PySem.W.isFn K (.ref bQ)=true)
  (a45:Fi K eY "stays" cz)
  (i45:PySem.W.isFn K (.ref cz)=true)
  (a46:Fi K dI "at_begin" dD)
  (i46:PySem.W.isFn K (.ref dD)=true)
  (a47:Fi K eY "next_look" dF)
  (i47:PySem.W.isFn K (.ref dF)=true)
  (a48:Fi K fX "next_look" dB)
  (i48:PySem.W.isFn K (.ref dB)=true)
  (a49:Fi K fX "stays" gq)
  (i49:PySem.W.isFn K (.ref gq)=true)
  (a50:Fi K jP "__init__" dg)
  (i50:PySem.W.isFn K (.ref dg)=true)
  (a51:Ns K "slots_of" dU)
  (a52:Ns K "cell_in" jD)
  (a53:Ns K "fields_in" iM)
  (a54:Ns K "told_as_old" fY)
  (a55:Ns K "told_as_new" fJ)
  (a56:Ns K "do_make" gG)
  (a57:Ns K "do_get" jf)
  (a58:Ns K "do_put" je)
  (a59:Ns K "do_copy" gK)
  (a60:Ns K "do_drop" gJ)
  (a61:Ns K "do_give" gH)
  (a62:Ns K "do_write" fc)
  (a63:Ns K "do_read" gD)
  (a64:Ns K "do_name" gF)
  (a65:Ns K "do_seek" gB)
  (a66:Ns K "place_named" fZ)
  (a67:Ns K "do" Tp)
  (a68:Ns K "_law_cell" fQ)
  (a69:Ns K "_law_draw" dR)
  (a70:Ns K "_law_word" gQ)
  (a71:Ns K "_law_hands" iG)
  (a72:Ns K "_law_room" jq)
  (a73:Ns K "_law_kind" jw)
  (a74:Ns K "_law_made" jt)
  (a75:Ns K "_law_load" ju)
  (a76:Ns K "_law_deed" jz)
  (a77:Ns K "_law_deeds" iI)
  (a78:Ns K "_law_start" iD)
  (a79:Ns K "_law_rows" jo)
  (a80:Ns K "_law_number" gf)
  (a81:Ns K "_law_event" iH)
  (a82:Ns K "_law_hand" jx)
  (a83:Ns K "_law_cells" iJ)
  (a84:Ns K "_law_rest" jr)
  (a85:Ns K "_law_step" jm)
  (a86:Ns K "law" fl)
  (l86:Lk K fl "law" "law" Ol .none Zvx Zvw Zun Zvj Zub Zvo Ztk Zvl Zvv)
  (c86:Ci K Ztk "law")
  (k86:Ki K fl)
  (Zkw:Ns K "STEPS" Qx)
  (Zlg:K.lookup Qx=some ⟨.type "dict",none,.dict #[⟨U6,.str "rest" Ub,.ref cI⟩,⟨U5,.str "walk" Ua,.ref cG⟩,⟨U4,.str "give" T9,.ref cH⟩,⟨U3,.str "lost" T7,.ref bO⟩] Zb4,#[]⟩)
  (Zi2:U6=hashStr w "rest")
  (Zi1:U5=hashStr w "walk")
  (Zi0:U4=hashStr w "give")
  (Zhz:U3=hashStr w "lost")
  (Zkx:Ns K "DEEDS" Qy)
  (Zlh:K.lookup Qy=some ⟨.type "dict",none,.dict #[⟨Vg,.str "make" Um,.ref gG⟩,⟨Vf,.str "get" Ul,.ref jf⟩,⟨Ve,.str "put" Uk,.ref je⟩,⟨Vd,.str "copy" Uj,.ref gK⟩,⟨Vc,.str "drop" Ui,.ref gJ⟩,⟨Vb,.str "give" Uh,.ref gH⟩,⟨Va,.str "write" Ug,.ref fc⟩,⟨U9,.str "read" Ue,.ref gD⟩,⟨U8,.str "name" Ud,.ref gF⟩,⟨U7,.str "seek" Uc,.ref gB⟩] Zb5,#[]⟩)
  (Zic:Vg=hashStr w "make")
  (Zib:Vf=hashStr w "get")
  (Zia:Ve=hashStr w "put")
  (Zi9:Vd=hashStr w "copy")
  (Zi8:Vc=hashStr w "drop")
  (Zi7:Vb=hashStr w "give")
  (Zi6:Va=hashStr w "write")
  (Zi5:U9=hashStr w "read")
  (Zi4:U8=hashStr w "name")
  (Zi3:U7=hashStr w "seek")
  (Zod:PySem.W.plainGet K aZ Str.empty=true)
  (Zpv:PySem.W.hasDictIn K aZ=true)
  (Zo6:PySem.W.plainOver K aZ=true)
  (Znq:PySem.W.findIn K (.ref aZ) "__setattr__"=some (some (.builtin "object.__setattr__")))
  (Nf:PySem.W.makesIn K aZ=true)
  (Zp8:Ki K aZ)
  (dN:Fo K aZ "birth")
  (lM:Fo K aZ "bulk")
  (lK:Fo K aZ "tone")
  (jj:Fo K aZ "load")
  (eO:Fo K aZ "fields")
  (Zmp:PySem.W.findIn K (.ref aZ) "__eq__"=some (some (.builtin "object.__eq__")))
  (Zmo:PySem.W.mroIn K aZ (.type "object")=some true)
  (Zoa:PySem.W.plainGet K aW Str.empty=true)
  (Zps:PySem.W.hasDictIn K aW=true)
  (Zo3:PySem.W.plainOver K aW=true)
  (Znn:PySem.W.findIn K (.ref aW) "__setattr__"=some (some (.builtin "object.__setattr__")))
  (M9:PySem.W.makesIn K aW=true)
  (Zp5:Ki K aW)
  (lJ:Fo K aW "room")
  (bL:Fo K aW "cells")
  (iK:Fo K aW "used")
  (j7:Fo K aW "born")
  (Zob:PySem.W.plainGet K kZ Str.empty=true)
  (Zpt:PySem.W.hasDictIn K kZ=true)
  (Zo4:PySem.W.plainOver K kZ=true)
  (Zno:PySem.W.findIn K (.ref kZ) "__setattr__"=some (some (.builtin "object.__setattr__")))
  (Nb:PySem.W.makesIn K kZ=true)
  (Zp6:Ki K kZ)
  (u9:Fo K kZ "name")
  (tG:Fo K kZ "slots")
  (Zd8:PySem.W.plainGet K bG Str.empty=true)
  (Zej:PySem.W.hasDictIn K bG=true)
  (Zd7:PySem.W.plainOver K bG=true)
  (Zct:PySem.W.findIn K (.ref bG) "__setattr__"=some (some (.builtin "object.__setattr__")))
  (yU:PySem.W.makesIn K bG=true)
  (Ze9:Ki K bG)
  (nZ:Fo K bG "sense")
  (oA:Fo K bG "phase")
  (pM:Fo K bG "grey")
  (mZ:Fo K bG "looked")
  (pJ:Fo K bG "turn")
  (tD:Fo K bG "at")
  (pK:Fo K bG "stop")
  (nY:Fo K bG "walks")
  (oE:Fo K bG "looks")
  (mY:Fo K bG "passes")
  (pL:Fo K bG "loss")
  (Zk5:PySem.W.plainGet K eX Str.empty=true)
  (Zm7:PySem.W.hasDictIn K eX=true)
  (Zk3:PySem.W.plainOver K eX=true)
  (Zjl:PySem.W.findIn K (.ref eX) "__setattr__"=some (some (.builtin "object.__setattr__")))
  (Gq:PySem.W.makesIn K eX=true)
  (Zlo:Ki K eX)
  (sZ:Fo K eX "heap")
  (sY:Fo K eX "kind")
  (qU:Fo K eX "hands")
  (qT:Fo K eX "names")
  (nW:Fo K eX "sweeper")
  (Zk6:PySem.W.plainGet K dI Str.empty=true)
  (Zm8:PySem.W.hasDictIn K dI=true)
  (Zk4:PySem.W.plainOver K dI=true)
  (Zjm:PySem.W.findIn K (.ref dI) "__setattr__"=some (some (.builtin "object.__setattr__")))
  (Zkz:PySem.W.makesIn K dI=true)
  (Zlp:Ki K dI)
  (Zkk:PySem.W.findIn K (.ref dI) "__init__"=some (some (.builtin "object.__init__")))
  (Zoc:PySem.W.plainGet K eY Str.empty=true)
  (Zpu:PySem.W.hasDictIn K eY=true)
  (Zo5:PySem.W.plainOver K eY=true)
  (Znp:PySem.W.findIn K (.ref eY) "__setattr__"=some (some (.builtin "object.__setattr__")))
  (Zoz:PySem.W.makesIn K eY=true)
  (Zp7:Ki K eY)
  (Zos:PySem.W.findIn K (.ref eY) "__init__"=some (some (.builtin "object.__init__")))
  (Zo8:PySem.W.plainGet K fX Str.empty=true)
  (Zpq:PySem.W.hasDictIn K fX=true)
  (Zo1:PySem.W.plainOver K fX=true)
  (Znl:PySem.W.findIn K (.ref fX) "__setattr__"=some (some (.builtin "object.__setattr__")))
  (Zoy:PySem.W.makesIn K fX=true)
  (Zp3:Ki K fX)
  (Zor:PySem.W.findIn K (.ref fX) "__init__"=some (some (.builtin "object.__init__")))
  (Zo9:PySem.W.plainGet K jP Str.empty=true)
  (Zpr:PySem.W.hasDictIn K jP=true)
  (Zo2:PySem.W.plainOver K jP=true)
  (Znm:PySem.W.findIn K (.ref jP) "__setattr__"=some (some (.builtin "object.__setattr__")))
  (Cy:PySem.W.makesIn K jP=true)
  (Zp4:Ki K jP)
  (pN:Fo K jP "looking")
  (tE:Fo K jP "tells")
  (uN:PySem.W.excIn K aK [.type "ValueError",.type "Exception",.type "BaseException",.type "object"] "ValueError.__new__"=true)
  (Vp:PySem.W.excIn K bM [.type "ValueError",.type "Exception",.type "BaseException",.type "object"] "ValueError.__new__"=true)
  (Cr:PySem.W.excIn K aQ [.type "ValueError",.type "Exception",.type "BaseException",.type "object"] "ValueError.__new__"=true)
  (Fg:PySem.W.excIn K bh [.type "ValueError",.type "Exception",.type "BaseException",.type "object"] "ValueError.__new__"=true)
  (jQ:PySem.W.exmOne K (.ref aK) (.ref fu)=some true)
  (lA:PySem.W.exmOne K (.ref aQ) (.ref fu)=some true)
  (m7:PySem.W.exmOne K (.ref bM) (.ref fu)=some true)
  (lW:PySem.W.exmOne K (.ref bh) (.ref fu)=some true)
  (J9:Fi K eY "at_begin" bJ)
  (SM:Fi K eY "stays" cz)
  (Eu:Fi K dI "next_look" bQ)
  (Qk:Fi K dI "stays" cz)
  (J8:Fi K fX "at_begin" bJ)
  (Vo:PySem.W.nsIn K mainGlobals "bool"=some none)
  (oW:PySem.W.nsIn K mainGlobals "enumerate"=some none)
  (Zfm:PySem.W.nsIn K mainGlobals "int"=some none)
  (jY:PySem.W.nsIn K mainGlobals "isinstance"=some none)
  (lG:PySem.W.nsIn K mainGlobals "len"=some none)
  (tX:PySem.W.nsIn K mainGlobals "list"=some none)
  (sV:PySem.W.nsIn K mainGlobals "range"=some none)
  (Zfl:PySem.W.nsIn K mainGlobals "str"=some none)
  (MP:PySem.W.nsIn K mainGlobals "tuple"=some none)
  (Zt9:PySem.W.nsIn K mainGlobals "NEW"=some (some Zqo))
  (Zt7:RelV (.int 2) Zqo)
  (Zt8:PySem.W.nsIn K mainGlobals "OLD"=some (some Zqn))
  (Zt6:RelV (.int 1) Zqn)
  (g1:lq K "__init__" "Cell.__init__" rR dm)
  (g2:lq K "units" "Cell.units" yf fL)
  (g3:lq K "has_field" "Cell.has_field" qg dG)
  (g4:lq K "__init__" "Heap.__init__" rP di)
  (g6:lq K "lay" "Heap.lay" Eb jN)
  (g7:lq K "back" "Heap.back" Ai iR)
  (g8:lq K "free" "Heap.free" Ah iQ)
  (g9:lq K "there" "Heap.there" ye gw)
  (g10:lq K "cell_at" "cell_at" Jf ir)
  (g11:lq K "birth_at" "birth_at" Ea eG)
  (g12:lq K "reached" "reached" Iv mG)
  (g13:lq K "onward" "onward" Oj nQ)
  (g14:lq K "__init__" "Hand.__init__" rQ dj)
  (g15:lq K "__init__" "Sweeper.__init__" oG cu)
  (g16:lq K "__init__" "World.__init__" p8 cR)
  (g17:lq K "held" "held" Zcx uB)
  (g18:lq K "births_at" "births_at" zY jl)
  (g19:lq K "looked_at" "looked_at" zV jk)
  (g20:lq K "has_sense" "has_sense" zW eF)
  (g21:lq K "is_walking" "is_walking" xU iB)
  (g22:lq K "begin" "begin" Wl qZ)
  (g23:lq K "note" "note" Zcw wU)
  (g24:lq K "note_all" "note_all" DW gn)
  (g25:lq K "gone" "gone" Zcy uC)
  (g26:lq K "roots" "roots" Wk qY)
  (g27:lq K "root_of" "root_of" Iu mF)
  (g28:lq K "note_hands" "note_hands" xT gm)
  (g29:lq K "step_at_rest" "step_at_rest" uf cI)
  (g30:lq K "step_in_walk" "step_in_walk" ud cG)
  (g31:lq K "walk" "walk" Zcu wQ)
  (g32:lq K "look_or_cut" "look_or_cut" vO gb)
  (g33:lq K "cut" "cut" Zjn Dw)
  (g34:lq K "first_loss" "first_loss" xV iC)
  (g35:lq K "given_up" "given_up" DX kY)
  (g36:lq K "told_again" "told_again" xQ gk)
  (g37:lq K "step_in_give" "step_in_give" ue cH)
  (g38:lq K "pass_place" "pass_place" xR iy)
  (g39:lq K "end" "end" s_end Dv)
  (g40:lq K "step_when_lost" "step_when_lost" p7 bO)
  (g41:lq K "step" "step" Zcv wR)
  (g42:lq K "all_of" "all_of" Oq mR)
  (g43:lq K "at_begin" "Looking.at_begin" oH bJ)
  (g44:lq K "next_look" "Looking.next_look" nA bQ)
  (g45:lq K "stays" "Looking.stays" rN cz)
  (g46:lq K "at_begin" "First.at_begin" qd dD)
  (g47:lq K "next_look" "Each.next_look" qe dF)
  (g48:lq K "next_look" "Last.next_look" qb dB)
  (g49:lq K "stays" "Last.stays" yd gq)
  (g50:lq K "__init__" "Kind.__init__" rO dg)
  (g51:lq K "slots_of" "slots_of" DR dU)
  (g52:lq K "cell_in" "cell_in" Je jD)
  (g53:lq K "fields_in" "fields_in" zX iM)
  (g54:lq K "told_as_old" "told_as_old" vL fY)
  (g55:lq K "told_as_new" "told_as_new" vM fJ)
  (g56:lq K "do_make" "do_make" IV gG)
  (g57:lq K "do_get" "do_get" Oo jf)
  (g58:lq K "do_put" "do_put" Om je)
  (g59:lq K "do_copy" "do_copy" Jc gK)
  (g60:lq K "do_drop" "do_drop" Jb gJ)
  (g61:lq K "do_give" "do_give" IW gH)
  (g62:lq K "do_write" "do_write" DY fc)
  (g63:lq K "do_read" "do_read" Iz gD)
  (g64:lq K "do_name" "do_name" IK gF)
  (g65:lq K "do_seek" "do_seek" Iw gB)
  (g66:lq K "place_named" "place_named" vN fZ)
  (g67:lq K "do" "do" Zrl Tp)
  (g68:lq K "_law_cell" "_law_cell" Ag fQ)
  (g69:lq K "_law_draw" "_law_draw" Ae dR)
  (g70:lq K "_law_word" "_law_word" zZ gQ)
  (g71:lq K "_law_hands" "_law_hands" xX iG)
  (g72:lq K "_law_room" "_law_room" z8 jq)
  (g73:lq K "_law_kind" "_law_kind" Ac jw)
  (g74:lq K "_law_made" "_law_made" Aa jt)
  (g75:lq K "_law_load" "_law_load" Ab ju)
  (g76:lq K "_law_deed" "_law_deed" Af jz)
  (g77:lq K "_law_deeds" "_law_deeds" xZ iI)
  (g78:lq K "_law_start" "_law_start" xW iD)
  (g79:lq K "_law_rows" "_law_rows" z7 jo)
  (g80:lq K "_law_number" "_law_number" vP gf)
  (g81:lq K "_law_event" "_law_event" xY iH)
  (g82:lq K "_law_hand" "_law_hand" Ad jx)
  (g83:lq K "_law_cells" "_law_cells" yc iJ)
  (g84:lq K "_law_rest" "_law_rest" z9 jr)
  (g85:lq K "_law_step" "_law_step" z6 jm)
  :∃ fd:FuncData,(∀ (s:Shared) (v:Value),BindsTo s fd ⟨[v],[]⟩ [("_law_script",v)])∧∀ base:Heap,K.In base→base.Ns mainGlobals mg→uK l.prog w K mg base (G.QT l.prog w) 11 fa fd ["_law_script"] (Zgk K):=by
 have e:=hfa.symm.trans (PySem.W.mg_of KI GN a86);cases e;have mo:∀ {s:Str}{v:Value},PySem.W.nsIn K mainGlobals s=some (some v)→mg s=some v:=fun h=>PySem.W.mg_of KI GN h
 let Q0:Cs:=⟨eX,aW,aZ,jP,kZ,bG,dI,eY,fX⟩
 obtain ⟨_,F1,k1⟩:=fg g1;obtain ⟨_,F2,k2⟩:=fg g2;obtain ⟨_,F3,k3⟩:=fg g3;obtain ⟨_,F4,k4⟩:=fg g4;obtain ⟨_,F6,k6⟩:=fg g6;obtain ⟨_,F7,k7⟩:=fg g7;obtain ⟨_,F8,k8⟩:=fg g8;obtain ⟨_,F9,k9⟩:=fg g9;obtain ⟨_,F10,k10⟩:=fg g10;obtain ⟨_,F11,k11⟩:=fg g11;obtain ⟨_,F12,k12⟩:=fg g12;obtain ⟨_,F13,k13⟩:=fg g13;obtain ⟨_,F14,k14⟩:=fg g14;obtain ⟨_,F15,k15⟩:=fg g15;obtain ⟨_,F16,k16⟩:=fg g16;obtain ⟨_,F17,k17⟩:=fg g17;obtain ⟨_,F18,k18⟩:=fg g18;obtain ⟨_,F19,k19⟩:=fg g19;obtain ⟨_,F20,k20⟩:=fg g20;obtain ⟨_,F21,k21⟩:=fg g21;obtain ⟨_,F22,k22⟩:=fg g22;obtain ⟨_,F23,tK⟩:=fg g23;obtain ⟨_,F24,k24⟩:=fg g24;obtain ⟨_,F25,k25⟩:=fg g25;obtain ⟨_,F26,k26⟩:=fg g26;obtain ⟨_,F27,k27⟩:=fg g27;obtain ⟨_,F28,k28⟩:=fg g28;obtain ⟨_,F29,k29⟩:=fg g29;obtain ⟨_,F30,k30⟩:=fg g30;obtain ⟨_,F31,k31⟩:=fg g31;obtain ⟨_,F32,k32⟩:=fg g32;obtain ⟨_,F33,k33⟩:=fg g33;obtain ⟨_,F34,Es⟩:=fg g34;obtain ⟨_,F35,k35⟩:=fg g35;obtain ⟨_,F36,k36⟩:=fg g36;obtain ⟨_,F37,k37⟩:=fg g37;obtain ⟨_,F38,k38⟩:=fg g38;obtain ⟨_,F39,k39⟩:=fg g39;obtain ⟨_,F40,k40⟩:=fg g40;obtain ⟨_,F41,k41⟩:=fg g41;obtain ⟨_,F42,k42⟩:=fg g42;obtain ⟨_,F43,k43⟩:=fg g43;obtain ⟨_,F44,k44⟩:=fg g44;obtain ⟨_,F45,k45⟩:=fg g45;obtain ⟨_,F46,k46⟩:=fg g46;obtain ⟨_,F47,k47⟩:=fg g47;obtain ⟨_,F48,k48⟩:=fg g48;obtain ⟨_,F49,k49⟩:=fg g49;obtain ⟨_,F50,k50⟩:=fg g50;obtain ⟨_,F51,k51⟩:=fg g51;obtain ⟨_,F52,k52⟩:=fg g52;obtain ⟨_,F53,k53⟩:=fg g53;obtain ⟨_,F54,k54⟩:=fg g54;obtain ⟨_,F55,k55⟩:=fg g55;obtain ⟨_,F56,k56⟩:=fg g56;obtain ⟨_,F57,k57⟩:=fg g57;obtain ⟨_,F58,k58⟩:=fg g58;obtain ⟨_,F59,k59⟩:=fg g59;obtain ⟨_,F60,k60⟩:=fg g60;obtain ⟨_,F61,k61⟩:=fg g61;obtain ⟨_,F62,k62⟩:=fg g62;obtain ⟨_,F63,k63⟩:=fg g63;obtain ⟨_,F64,k64⟩:=fg g64;obtain ⟨_,F65,k65⟩:=fg g65;obtain ⟨_,F66,k66⟩:=fg g66;obtain ⟨_,F67,k67⟩:=fg g67;obtain ⟨_,F68,k68⟩:=fg g68;obtain ⟨_,F69,k69⟩:=fg g69;obtain ⟨_,F70,k70⟩:=fg g70;obtain ⟨_,F71,k71⟩:=fg g71;obtain ⟨_,F72,k72⟩:=fg g72;obtain ⟨_,F73,k73⟩:=fg g73;obtain ⟨_,F74,k74⟩:=fg g74;obtain ⟨_,F75,k75⟩:=fg g75;obtain ⟨_,F76,k76⟩:=fg g76;obtain ⟨_,F77,k77⟩:=fg g77;obtain ⟨_,F78,k78⟩:=fg g78;obtain ⟨_,F79,k79⟩:=fg g79;obtain ⟨_,F80,k80⟩:=fg g80;obtain ⟨_,F81,k81⟩:=fg g81;obtain ⟨_,F82,k82⟩:=fg g82;obtain ⟨_,F83,k83⟩:=fg g83;obtain ⟨_,F84,k84⟩:=fg g84;obtain ⟨_,F85,k85⟩:=fg g85;have T:Txt w K mg aZ aW kZ bG eX dI eY fX jP fu aK aQ bM bh dm fL dG di gR jN iR iQ gw ir eG mG nQ dj cu cR uB jl jk eF iB qZ wU gn uC qY mF gm cI cG wQ gb Dw iC kY gk cH iy Dv bO wR mR bJ bQ cz dD dF dB gq dg dU jD iM fY fJ gG jf je gK gJ gH fc gD gF gB fZ Tp fQ dR gQ iG jq jw jt ju jz iI iD jo gf iH jx iJ jr jm:={
  Uo:=⟨Qx,_,_,Zb4,PySem.W.mg_of KI GN Zkw,Zlg,⟨rfl,rfl,rfl⟩,rfl,Zi2,⟨Ub,rfl⟩,rfl,Zi1,⟨Ua,rfl⟩,rfl,Zi0,⟨T9,rfl⟩,rfl,Zhz,⟨T7,rfl⟩,rfl,trivial⟩
  Up:=⟨Qy,_,_,Zb5,PySem.W.mg_of KI GN Zkx,Zlh,⟨rfl,rfl,rfl⟩,rfl,Zic,⟨Um,rfl⟩,rfl,Zib,⟨Ul,rfl⟩,rfl,Zia,⟨Uk,rfl⟩,rfl,Zi9,⟨Uj,rfl⟩,rfl,Zi8,⟨Ui,rfl⟩,rfl,Zi7,⟨Uh,rfl⟩,rfl,Zi6,⟨Ug,rfl⟩,rfl,Zi5,⟨Ue,rfl⟩,rfl,Zi4,⟨Ud,rfl⟩,rfl,Zi3,⟨Uc,rfl⟩,rfl,trivial⟩
  cP:=⟨Zod,Zpv,Zo6,Znq⟩
  Zlc:=mo Ztt
  Nf:=⟨Nf,a1,i1,Zp8⟩
  dN:=dN
  lM:=lM
  lK:=lK
  jj:=jj
  eO:=eO
  Nj:=⟨Zmp,Zmo⟩
  cB:=⟨Zoa,Zps,Zo3,Znn⟩
  Zl8:=mo Ztp
  M9:=⟨M9,a4,i4,Zp5⟩
  lJ:=lJ
  bL:=bL
  iK:=iK
  j7:=j7
  Zgi:=⟨Zob,Zpt,Zo4,Zno⟩
  Zl9:=mo Ztq
  Nb:=⟨Nb,a14,i14,Zp6⟩
  u9:=u9
  tG:=tG
  Qz:=⟨Zd8,Zej,Zd7,Zct⟩
  Uy:=mo Ziz
  yU:=⟨yU,a15,i15,Ze9⟩
  nZ:=nZ
  oA:=oA
  pM:=pM
  mZ:=mZ
  pJ:=pJ
  tD:=tD
  pK:=pK
  nY:=nY
  oE:=oE
  mY:=mY
  pL:=pL
  Zbe:=⟨Zk5,Zm7,Zk3,Zjl⟩
  Zg3:=mo Zqe
  Gq:=⟨Gq,a16,i16,Zlo⟩
  sZ:=sZ
  sY:=sY
  qU:=qU
  qT:=qT
  nW:=nW
  BX:=⟨Zk6,Zm8,Zk4,Zjm⟩
  Zg4:=mo Zqf
  Uv:=⟨Zkz,Zkk,Zlp⟩
  Hw:=⟨Zoc,Zpu,Zo5,Znp⟩
  Zlb:=mo Zts
  Za9:=⟨Zoz,Zos,Zp7⟩
  Hv:=⟨Zo8,Zpq,Zo1,Znl⟩
  Zl7:=mo Ztn
  Za8:=⟨Zoy,Zor,Zp3⟩
  Zgh:=⟨Zo9,Zpr,Zo2,Znm⟩
  Xh:=mo Zto
  Cy:=⟨Cy,a50,i50,Zp4⟩
  pN:=pN
  tE:=tE
  Lf:=mo Zbj
  Lg:=mo Zbk
  Uz:=mo Zj0
  Zla:=mo Ztr
  Zac:=mo Zn0
  uN:=uN
  Vp:=Vp
  Cr:=Cr
  Fg:=Fg
  jQ:=jQ
  lA:=lA
  m7:=m7
  lW:=lW
  xu:=⟨J9,i43,k43⟩
  wG:=⟨SM,i45,k45⟩
  uy:=⟨Eu,i44,k44⟩
  ux:=⟨Qk,i45,k45⟩
  xr:=⟨J8,i43,k43⟩
  JM:=⟨a1,i1,k1⟩
  qW:=⟨a2,i2,k2⟩
  vh:=⟨a3,i3,k3⟩
  JK:=⟨a4,i4,k4⟩
  Gs:=⟨a5,i5,k5⟩
  K3:=⟨a6,i6,k6⟩
  Gv:=⟨a7,i7,k7⟩
  Gu:=⟨a8,i8,k8⟩
  Dm:=⟨a9,i9,k9⟩
  qI:=mo a10
  lR:=mo a11
  Ux:=mo a12
  Pz:=mo a13
  JL:=⟨a14,i14,k14⟩
  Dd:=⟨a15,i15,k15⟩
  Gr:=⟨a16,i16,k16⟩
  Ze1:=mo a17
  K5:=mo a18
  K4:=mo a19
  mQ:=mo a20
  Gx:=mo a21
  Zg2:=mo a22
  Zl4:=mo a23
  qH:=mo a24
  Ze2:=mo a25
  Zg1:=mo a26
  Uw:=mo a27
  yW:=mo a28
  Py:=mo a29
  Pu:=mo a30
  Zl2:=mo a31
  Dr:=mo a32
  Zqw:=mo a33
  Gy:=mo a34
  PB:=mo a35
  yV:=mo a36
  Px:=mo a37
  Gw:=mo a38
  Zqv:=mo a39
  JN:=mo a40
  Zl3:=mo a41
  PJ:=mo a42
  De:=⟨a43,i43,k43⟩
  Bu:=⟨a44,i44,k44⟩
  JG:=⟨a45,i45,k45⟩
  vf:=⟨a46,i46,k46⟩
  vg:=⟨a47,i47,k47⟩
  vd:=⟨a48,i48,k48⟩
  wF:=⟨a49,i49,k49⟩
  JH:=⟨a50,i50,k50⟩
  jK:=mo a51
  xx:=mo a52
  Bv:=mo a53
  Dn:=mo a54
  wH:=mo a55
  Zhn:=mo a56
  Zl6:=mo a57
  Zl5:=mo a58
  Zhq:=mo a59
  Zhp:=mo a60
  Zho:=mo a61
  Ze3:=mo a62
  Zhl:=mo a63
  Zhm:=mo a64
  Zhk:=mo a65
  Dp:=mo a66
  Zui:=mo a67
  lN:=mo a68
  cM:=mo a69
  vm:=mo a70
  GD:=mo a71
  K8:=mo a72
  Lb:=mo a73
  K9:=mo a74
  La:=mo a75
  Le:=mo a76
  GJ:=mo a77
  Gz:=mo a78
  K7:=mo a79
  wI:=mo a80
  GF:=mo a81
  Ld:=mo a82
  yX:=mo a83
  Bw:=mo a84
  K6:=mo a85
  Vo:=PySem.W.mg_none_of KI GN Vo
  oW:=PySem.W.mg_none_of KI GN oW
  Zfm:=PySem.W.mg_none_of KI GN Zfm
  jY:=PySem.W.mg_none_of KI GN jY
  lG:=PySem.W.mg_none_of KI GN lG
  tX:=PySem.W.mg_none_of KI GN tX
  sV:=PySem.W.mg_none_of KI GN sV
  Zfl:=PySem.W.mg_none_of KI GN Zfl
  MP:=PySem.W.mg_none_of KI GN MP
  Zr1:=⟨_,PySem.W.mg_of KI GN Zt9,Zt7⟩
  Zr0:=⟨_,PySem.W.mg_of KI GN Zt8,Zt6⟩
 }
 have b1:=bd5 F1 "self" "birth" "many" "bulk" "tone";have b2:=Ey F2 "self";have b3:=Cd F3 "self" "field";have b4:=Cd F4 "self" "room";have F5:=G.Zpz (st:=uR) l5 c5 k5;have b5:=G.Zfe (ps:=["self","many","bulk","tone"]) (ds:=[]) l5 t5 fun us hl=>match us,hl with | [_,_,_,_],_=>⟨_,rfl,rfl⟩
 have ZDy:=G.Zfe (ps:=["self","many","bulk","tone"]) (ds:=[Zga]) l5 t5 fun us hl=>match us,hl with | [_,_,_],_=>⟨_,rfl,rfl⟩
 have ZDx:=G.Zfe (ps:=["self","many","bulk","tone"]) (ds:=[Zmq,Zga]) l5 t5 fun us hl=>match us,hl with | [_,_],_=>⟨_,rfl,rfl⟩
 have b6:=Cd F6 "self" "cell";have b7:=Cd F7 "self" "place";have b8:=Ey F8 "self";have b9:=Ey F9 "self";have b10:=Cd F10 "heap" "place";have b11:=Cd F11 "heap" "place";have b12:=Cd F12 "heap" "rows";have b13:=bd3 F13 "heap" "places" "way";have b14:=bd3 F14 "self" "name" "many";have b15:=Ey F15 "self";have b16:=bd4 F16 "self" "room" "kind" "hands";have b17:=Ey F17 "world";have b18:=Cd F18 "heap" "places";have b19:=Cd F19 "world" "hand";have b20:=Cd F20 "world" "cell";have b21:=Ey F21 "world";have b22:=Ey F22 "world";have b23:=Cd F23 "world" "place";have b24:=Cd F24 "world" "places";have b25:=bd3 F25 "world" "place" "birth";have b26:=Ey F26 "world";have b27:=bd3 F27 "world" "place" "birth";have b28:=Cd F28 "world" "hands";have b29:=Ey F29 "world";have b30:=Ey F30 "world";have b31:=Ey F31 "world";have b32:=Ey F32 "world";have b33:=Ey F33 "world";have b34:=Ey F34 "world";have b35:=Ey F35 "world";have b36:=Ey F36 "event";have b37:=Ey F37 "world";have b38:=Ey F38 "world";have b39:=Ey F39 "world";have b40:=Ey F40 "world";have b41:=Ey F41 "world";have b42:=Ey F42 "hands";have b43:=Cd F43 "self" "hands";have b44:=bd3 F44 "self" "looked" "hands";have b45:=Ey F45 "self";have b46:=Cd F46 "self" "hands";have b47:=bd3 F47 "self" "looked" "hands";have b48:=bd3 F48 "self" "looked" "hands";have b49:=Ey F49 "self";have b50:=bd3 F50 "self" "looking" "tells";have b51:=Cd F51 "world" "hand";have b52:=bd3 F52 "world" "hand" "slot";have b53:=bd4 F53 "world" "hand" "slot" "field";have b54:=Cd F54 "world" "place";have b55:=bd3 F55 "world" "hand" "place";have b56:=Cd F56 "world" "deed";have b57:=Cd F57 "world" "deed";have b58:=Cd F58 "world" "deed";have b59:=Cd F59 "world" "deed";have b60:=Cd F60 "world" "deed";have b61:=Cd F61 "world" "deed";have b62:=Cd F62 "world" "deed";have b63:=Cd F63 "world" "deed";have b64:=Cd F64 "world" "deed";have b65:=Cd F65 "world" "deed";have b66:=Cd F66 "world" "word";have b67:=Cd F67 "world" "deed";have b68:=Cd F68 "_law_script" "_law_k";have b69:=bd3 F69 "_law_cell_here" "_law_prime" "_law_many";have b70:=Cd F70 "_law_cell_here" "_law_w";have b71:=Ey F71 "_law_script";have b72:=Ey F72 "_law_script";have b73:=Ey F73 "_law_number_here";have b74:=bd3 F74 "_law_n" "_law_h" "_law_s";have b75:=Ey F75 "_law_n";have b76:=bd3 F76 "_law_n" "_law_hands_here" "_law_seed";have b77:=bd3 F77 "_law_n" "_law_hands_here" "_law_seed";have b78:=bd3 F78 "_law_hands_here" "_law_cell_here" "_law_seed";have b79:=Cd F79 "_law_script" "_law_hands_here";have b80:=Ey F80 "_law_found";have b81:=Cd F81 "_law_found" "_law_due";have b82:=Cd F82 "_law_world" "_law_deed_here";have b83:=Ey F83 "_law_world";have b84:=Ey F84 "_law_world";have b85:=Cd F85 "_law_world" "_law_way";have F86:=Zmf (st:=Ol) l86 c86 k86;refine ⟨PySem.W.fnOf "law" "law" (mJ Ol) (jR Ol) (aF Ol) .none Zun Zvj Zub Zvo Ztk Zvl,fun s v=>.of_eq rfl,fun base _ _=>?_⟩;have G1:=hh (w:=w) (Jz l.prog base Q0 T F1 ) b1 k1;have G2:=hh (w:=w) (RW l.prog base Q0 T F2 ) b2 k2;have G3:=hh (w:=w) (Gn l.prog base Q0 T F3 ) b3 k3;have G4:=hh (w:=w) (Jx l.prog base Q0 T F4 ) b4 k4;have G6:=hh (w:=w) (Z7 l.prog base Q0 T F6 ) b6 k6;have G8:=hh (w:=w) (Xc l.prog base Q0 T F8 ) b8 k8;have G9:=hh (w:=w) (RV l.prog base Q0 T F9 ) b9 k9;have G10:=hh (w:=w) (Zdu l.prog base Q0 T F10 ) b10 k10;have G14:=hh (w:=w) (Jy l.prog base Q0 T F14 ) b14 k14;have G15:=hh (w:=w) (CZ l.prog base Q0 T F15 ) b15 k15;have G17:=hh (w:=w) (Zop l.prog base Q0 T F17 ) b17 k17;have G19:=hh (w:=w) (WM l.prog base Q0 T F19 ) b19 k19;have G20:=hh (w:=w) (WQ l.prog base Q0 T F20 ) b20 k20;have G21:=hh (w:=w) (RG l.prog base Q0 T F21 ) b21 k21;have G36:=hh (w:=w) (RB l.prog base Q0 T F36 ) b36 k36;have G39:=hh (w:=w) (Zrv l.prog base Q0 T F39 ) b39 k39;have G42:=hh (w:=w) (Zhf l.prog base Q0 T F42 ) b42 k42
 have G43:=hh (w:=w) (Dc l.prog base Q0 T F43 ) b43 k43;have G44:=hh (w:=w) (Bq l.prog base Q0 T F44 ) b44 k44;have G45:=hh (w:=w) (Jv l.prog base Q0 T F45 ) b45 k45;have G47:=hh (w:=w) (Gm l.prog base Q0 T F47 ) b47 k47;have G49:=hh (w:=w) (RT l.prog base Q0 T F49 ) b49 k49;have G50:=hh (w:=w) (Jw l.prog base Q0 T F50 ) b50 k50;have G51:=hh (w:=w) (Z2 l.prog base Q0 T F51 ) b51 k51;have G54:=hh (w:=w) (O6 l.prog base Q0 T F54 ) b54 k54;have G68:=hh (w:=w) (Xa l.prog base Q0 T F68 ) b68 k68;have G69:=hh (w:=w) (W8 l.prog base Q0 T F69 ) b69 k69;have G70:=hh (w:=w) (WX l.prog base Q0 T F70 ) b70 k70;have G75:=hh (w:=w) (W5 l.prog base Q0 T F75 ) b75 k75;have G80:=hh (w:=w) (Pa l.prog base Q0 T F80 ) b80 k80;have G83:=hh (w:=w) (RQ l.prog base Q0 T F83 ) b83 k83;have G7:=hh (w:=w) (Xd l.prog base Q0 T F7 G2) b7 k7;have G11:=hh (w:=w) (Z6 l.prog base Q0 T F11 G10) b11 k11;have G13:=hh (w:=w) (Zhc l.prog base Q0 T F13 G10) b13 k13;have G23:=hh (w:=w) (Zoo l.prog base Q0 T F23 G10 G20) b23 tK;have G25:=hh (w:=w) (Zoq l.prog base Q0 T F25 G10 G20) b25 k25;have G35:=hh (w:=w) (Z4 l.prog base Q0 T F35 G9 G20) b35 k35;have G40:=hh (w:=w) (Gh l.prog base Q0 T F40 G36) b40 k40;have G46:=hh (w:=w) (Gk l.prog base Q0 T F46 G42) b46 k46;have G48:=hh (w:=w) (Gj l.prog base Q0 T F48 G42) b48 k48;have G52:=hh (w:=w) (Zdt l.prog base Q0 T F52 G10 G51) b52 k52;have G55:=hh (w:=w) (O7 l.prog base Q0 T F55 G19) b55 k55;have G71:=hh (w:=w) (RM l.prog base Q0 T F71 G68 G69 G70) b71 k71;have G72:=hh (w:=w) (W2 l.prog base Q0 T F72 G68 G69) b72 k72;have G74:=hh (w:=w) (W4 l.prog base Q0 T F74 G69) b74 k74;have G78:=hh (w:=w) (RK l.prog base Q0 T F78 G69 G70) b78 k78;have G81:=hh (w:=w) (RN l.prog base Q0 T F81 G80) b81 k81;have G84:=hh (w:=w) (W3 l.prog base Q0 T F84 G17) b84 k84;have G5:=hh (w:=w) (Xb l.prog base Q0 T F5 G1 G2 G8 G6) b5 k5;have G12:=hh (w:=w) (Zdl l.prog base Q0 T F12 G13) b12 k12;have G16:=hh (w:=w) (Gi l.prog base Q0 T F16 G14 G4 G15) b16 k16;have G18:=hh (w:=w) (WW l.prog base Q0 T F18 G11) b18 k18;have G22:=hh (w:=w) (Zkj l.prog base Q0 T F22 G46 G43) b22 k22;have G24:=hh (w:=w) (Z3 l.prog base Q0 T F24 G23) b24 k24;have G27:=hh (w:=w) (Zdk l.prog base Q0 T F27 G25 G20 G21) b27 k27;have G38:=hh (w:=w) (RC l.prog base Q0 T F38 G7 G10 G20) b38 k38;have G53:=hh (w:=w) (WR l.prog base Q0 T F53 G3 G52) b53 k53;have G59:=hh (w:=w) (Zds l.prog base Q0 T F59 G11 G51) b59 k59;have G60:=hh (w:=w) (Zdr l.prog base Q0 T F60 G11 G51) b60 k60;have G62:=hh (w:=w) (Z5 l.prog base Q0 T F62 G52) b62 k62;have G63:=hh (w:=w) (Zdn l.prog base Q0 T F63 G52) b63 k63;have G64:=hh (w:=w) (Zdo l.prog base Q0 T F64 G52 G51) b64 k64;have G66:=hh (w:=w) (O8 l.prog base Q0 T F66 G25) b66 k66;have G73:=hh (w:=w) (W6 l.prog base Q0 T F73 G50) b73 k73;have G76:=hh (w:=w) (W9 l.prog base Q0 T F76 G69 G75 G74 G70) b76 k76;have G26:=hh (w:=w) (Zki l.prog base Q0 T F26 G17 G27) b26 k26;have G28:=hh (w:=w) (RD l.prog base Q0 T F28 G24) b28 k28;have G31:=hh (w:=w) (Zom l.prog base Q0 T F31 G24) b31 k31;have G37:=hh (w:=w) (Ms l.prog base Q0 T F37 G39 G38) b37 k37;have G56:=hh (w:=w) (Zdp l.prog base Q0 T F56 G5 G11 G51) b56 k56;have G57:=hh (w:=w) (Zhe l.prog base Q0 T F57 G11 G53 G51) b57 k57;have G58:=hh (w:=w) (Zhd l.prog base Q0 T F58 G11 G53 G24 G51 G55 G54) b58 k58;have G61:=hh (w:=w) (Zdq l.prog base Q0 T F61 G11 G24 G51 G55) b61 k61;have G65:=hh (w:=w) (Zdm l.prog base Q0 T F65 G11 G24 G66 G51) b65 k65;have G77:=hh (w:=w) (RP l.prog base Q0 T F77 G76 G69) b77 k77
 have G29:=hh (w:=w) (Mu l.prog base Q0 T F29 G22 G28) b29 k29;have G34:=hh (w:=w) (RJ l.prog base Q0 T F34 G20 G12 G26) b34 Es;have G67:=hh (w:=w) (Zuf l.prog base Q0 T F67 G59 G60 G57 G61 G56 G64 G58 G63 G65 G62) b67 k67;have G79:=hh (w:=w) (W0 l.prog base Q0 T F79 G68 G77 G69 G78) b79 k79;have G33:=hh (w:=w) (Zry l.prog base Q0 T F33 G18 G34 G35 G36) b33 k33;have G82:=hh (w:=w) (W7 l.prog base Q0 T F82 G67) b82 k82;have G32:=hh (w:=w) (O9 l.prog base Q0 T F32 G47 G48 G49 G44 G45 G33 G28) b32 k32;have G30:=hh (w:=w) (Mr l.prog base Q0 T F30 G32 G31) b30 k30;have G41:=hh (w:=w) (Zon l.prog base Q0 T F41 G29 G37 G30 G40) b41 k41;have G85:=hh (w:=w) (WY l.prog base Q0 T F85 G83 G81 G84 G41) b85 k85;exact Zru _ _ Q0 T F86 G16 G68 G82 G71 G73 G72 G79 G85
theorem walk {l:PySem.W.OpenLaw}{q:Program}{loose:List Str}{XP:(Str→Option Value)→Heap→Prop}{YP:World→Heap→Prop}{d:DefRec}{K:Params→aC} (hn:l.most=some 63) (hdf:d.params.defaults=[])
  (hY:∀ (w:World) (h:Heap),YP w h→(K w.params).In h)
  (F:∀ (w:World) (mg:Str→Option Value) (fa:Addr) (h:Heap),(K w.params).In h→h.Ns mainGlobals mg→mg d.name=some (.ref fa)→
   ∃ fd:FuncData,(∀ (s:Shared) (u:Value),BindsTo s fd ⟨[u],[]⟩ [("_law_script",u)])∧∀ base:Heap,(K w.params).In base→base.Ns mainGlobals mg→uK l.prog w (K w.params) mg base (G.QT l.prog w) 11 fa fd ["_law_script"] (Zgk (K w.params))):
  PySem.W.WalkO q loose XP YP l.row.toRowW d [] (fun f vs=>PySem.call f vs):=
 L2.Zn8 (n:=63) (k:=11) (x:="_law_script") (CX:=fun w=>G.QT l.prog w) (sp:=fun w=>Zgk (K w.params)) hn (by decide) hdf ⟨rfl,by decide,by decide⟩ hY F (fun _ _ a ns hl _ hS=>⟨a,rfl,ns,hS,hl,fun _=>rfl⟩) fun _ _ _ _ _ z=>by
  obtain ⟨_,_,_,_,_,_,_,_,_,_,_,_,z⟩:=z;exact z
end K32
namespace PySem.W.Fast
def tw18138574336374033258:=0
def tw17625863081234791464:=0
def tw11382900119420646545:=0
def tw9546668257500235217:=0
def tw7757300620661895820:=0
def tw164986842402106668:=0
def tw4440750919883778091:=0
def tw16995988973901607631:=0
def tw5013300530088606897:=0
def tw13306711987278911572:=0
def tw18277229329476102374:=0
def tw384965494138903929:=0
def tw3076485100088441064:=0
def tw2792403719178275974:=0
def tw15956162713325977862:=0
def tw650778291590483902:=0
def tw4801528185058461782:=0
def tw981984461907992835:=0
def tw7599965432703158587:=0
def tw17195184622559057910:=0
def tw15575121226239964020:=0
def tw9458622350086025198:=0
def tw13205357965965226305:=0
def tw14028501160262551049:=0
def tw14169848616884876040:=0
def tw9259721243483537300:=0
def tw3625315476598921620:=0
def tw9593216144735137418:=0
def tw15364474781444658624:=0
def tw8720214445487058206:=0
def tw930114141624185923:=0
def tw7961249080358763862:=0
def tw16259550753409832878:=0
def tw17956946626418126820:=0
def tw10150919310788275401:=0
def tw2873574932635717354:=0
def tw15396377951088469332:=0
def tw13579513060444230422:=0
def tw17908189585830671521:=0
def tw1120500120183404108:=0
def tw13087556843266179299:=0
def tw9274476842877567084:=0
def tw1861312991365246083:=0
def tw13360843942160017027:=0
def tw15148599149899937624:=0
def tw8049583669131837642:=0
def tw8788459185001506347:=0
def tw7700485461265627487:=0
def tw1009206061818636685:=0
def tw1087218209313324069:=0
def tw9087595131106556561:=0
def tw12626057985001955893:=0
def tw7529327063350913176:=0
def tw15547195434232899654:=0
def tw2000244934194858766:=0
def tw7881191074337485478:=0
def tw9316460823105812419:=0
def tw8231031956273222313:=0
def tw10277972685543154187:=0
def tw3013251077230432511:=0
def tw4468090650801617397:=0
def tw8273914033299253675:=0
def tw6754693744359976620:=0
def tw1585094466169175734:=0
def tw13072189038201960165:=0
def tw9815893527719656583:=0
def tw16765665144963399029:=0
def tw2360386515842357053:=0
def tw15501172237719683612:=0
def tw16128897894494855885:=0
def tw16721822120129406679:=0
def tw8640840858813709462:=0
def tw4024331136906941407:=0
def tw2642954047382343480:=0
def tw13250603301316742454:=0
def tw15301234220788504352:=0
def tw10643250385184168168:=0
def tw2803020603902765856:=0
def tw13985566004168020573:=0
def tw12477401398742610425:=0
def tw15720558148636866411:=0
def tw7827599138040086665:=0
def tw16814915975939891196:=0
def tw16402383300074348331:=0
def tw13900001025249459501:=0
def tw9251805038486170603:=0
def tw10410113221587715727:=0
def tw17406956232354974615:=0
def tw7621742683807166894:=0
def tw10927664929174416954:=0
def tw3590924107149175337:=0
def tw1984211984035811895:=0
def tw12091948086966041984:=0
def tw15281697312219263247:=0
def tw3052336593691205279:=0
def tw652304302159055361:=0
def tw2975056513601585181:=0
def tw15458909690857085526:=0
def tw978852752448433135:=0
def tw13550911089169563572:=0
def tw17954327304181088833:=0
def tw7658025916159639733:=0
def tw1989998638651623344:=0
def tw11102334025898478202:=0
def tw13051562213687181248:=0
def tw14828081770145997074:=0
def tw15950832834686411536:=0
def tw9681768776108699565:=0
def tw11048415010498021901:=0
def tw13013534373483312017:=0
def tw3220601878683260590:=0
def tw4177680473614668034:=0
def tw9058175997661570894:=0
def tw9883968201148530870:=0
def tw4472159761403172608:=0
def tw17678565480216986629:=0
def tw11025228865916788409:=0
def tw4815987486997396027:=0
def tw294745078587818680:=0
def tw14127811841736884482:=0
def tw13788011811534155051:=0
def tw10894849021107970985:=0
def tw10374964123369442119:=0
def tw15962201985697563124:=0
def tw16889097815099740522:=0
def tw2085584425544832467:=0
def tw5578358631338830771:=0
def tw8342714147997353730:=0
def tw2983914492144756062:=0
def tw17784228038427206151:=0
def tw17340730635193246386:=0
def tw3132804957946080595:=0
def tw6163130276118377633:=0
def tw8542977100285413746:=0
def tw3340470502746855332:=0
def tw5998253036084272285:=0
def tw15355104806779564185:=0
def tw4457833903404101536:=0
def tw15093425843362538154:=0
def tw13494025117777988397:=0
def tw13691431714247569254:=0
def tw1316889702441564767:=0
def tw14128636951776164493:=0
def tw17276359429708689202:=0
def tw15831238763880844303:=0
def tw12700681873892190676:=0
def tw13500198384612930928:=0
def tw16188097200003373407:=0
def tw12639929888875821678:=0
def tw2724610643759574555:=0
def tw8522652385647908386:=0
def tw15920979287278086496:=0
def tw10543596331559482343:=0
def tw14853924224216656609:=0
def tw17118804598937185765:=0
def tw953230164662622875:=0
def tw8963518480127656817:=0
def tw7130988530778494212:=0
def tw2173001274258378939:=0
def tw11261336604383963595:=0
def tw3112787042152386582:=0
def tw8713649218832652141:=0
def tw4126940365605606356:=0
def tw145154988669600168:=0
def tw12587293464376135344:=0
def tw17338754477928811214:=0
def tw7589854432995785633:=0
def tw13242841041244364464:=0
def tw18233202801837089432:=0
def tw14121103718424664746:=0
def tw12540187374383340803:=0
def tw11924600565582082232:=0
def tw948367777217378627:=0
def tw7967688839649909387:=0
def tw9145816978416756297:=0
def tw16788099732546985334:=0
def tw16250511382877770920:=0
def tw14304384497791415576:=0
def tw15664620017058943711:=0
def tw285036061482905357:=0
def tw4004929148993934787:=0
def tw11530186153264003870:=0
def tw9824635983628071465:=0
def tw4266585817434616045:=0
def tw17631032734762242120:=0
def tw16490324231680513451:=0
def tw12533579169708029931:=0
def tw14542562895262606358:=0
def tw531433018471009330:=0
def tw3819285208029511432:=0
def tw7304227661736172892:=0
def tw1698359095182703419:=0
def tw129991088538306369:=0
def tw12338564075781256921:=0
def tw15204652746965739675:=0
def tw15813354149625608537:=0
def tw18078702748716320261:=0
def tw2967544484366244978:=0
def tw8125829496284023920:=0
def tw1160874644004414049:=0
def tw1232106985988888355:=0
def tw8072850326431755638:=0
def tw15982416839293607429:=0
def tw2416203915254635074:=0
def tw18216726972682467524:=0
def tw2160673672854109094:=0
def tw6311102799895762031:=0
def tw1244750804294332943:=0
def tw12539504687288476060:=0
def tw5228010769192883053:=0
def tw17337718308891296269:=0
def tw2798045096358810585:=0
def tw14172838543383533639:=0
def tw58674557691614039:=0
def tw9268463342652388964:=0
def tw5142368743048840379:=0
def tw10150656277421217781:=0
def tw11488628942169940904:=0
def tw1512980497821767652:=0
def tw13613029917457245588:=0
def tw3776982398592956063:=0
def tw10057699069694620129:=0
def tw14380739309553795734:=0
def tw13402674559266544606:=0
def tw4708257856301484761:=0
def tw1460107699148201308:=0
def tw16398014263863845023:=0
def tw11178377185768479110:=0
def tw8412007234195034916:=0
def tw11252765504862228341:=0
def tw416475604098360110:=0
def tw11780948279903438753:=0
def tw1324615905690636538:=0
def tw607131529331153584:=0
def tw6604905227269583756:=0
def tw8758551048108244769:=0
def tw5905984164758134938:=0
def tw3623498470511069160:=0
def tw11571731262958282668:=0
def tw2922974861516372013:=0
def tw16175053475550843554:=0
def tw6760242785822165686:=0
def tw16942960220152037524:=0
def tw624842157949217303:=0
def tw4538712711076165410:=0
def tw9225939243900495888:=0
def tw3645013450447691261:=0
def tw14208802444017133414:=0
def tw8017569689378199355:=0
end PySem.W.Fast
open PySem PySem.W PyProof.Rows
set_option maxRecDepth 100000 in
set_option maxHeartbeats 0 in
theorem PySem.Challenge.cw_greywalk_k32_steps_change_nothing_holds : PySem.Challenge.rw_greywalk_k32_steps_change_nothing.Holds := by
 w_on;o_law;k_head;(case hw=>w_witness2)
 k_fill
 refine K32.walk (l:=PySem.Challenge.rw_greywalk_k32_steps_change_nothing) rfl rfl (fun w h Y=>PySem.W.kIn_of Y) ?F
 case F=>
  intro w mg fa h KX G hmg
  refine' K32.all_mk KX G hmg ?h0 ?h1 ?h2 ?h3 ?h4 ?h5 ?h6 ?h7 ?h8 ?h9 ?h10 ?h11 ?h12 ?h13 ?h14 ?h15 ?h16 ?h17 ?h18 ?h19 ?h20 ?h21 ?h22 ?h23 ?h24 ?h25 ?h26 ?h27 ?h28 ?h29 ?h30 ?h31 ?h32 ?h33 ?h34 ?h35 ?h36 ?h37 ?h38 ?h39 ?h40 ?h41 ?h42 ?h43 ?h44 ?h45 ?h46 ?h47 ?h48 ?h49 ?h50 ?h51 ?h52 ?h53 ?h54 ?h55 ?h56 ?h57 ?h58 ?h59 ?h60 ?h61 ?h62 ?h63 ?h64 ?h65 ?h66 ?h67 ?h68 ?h69 ?h70 ?h71 ?h72 ?h73 ?h74 ?h75 ?h76 ?h77 ?h78 ?h79 ?h80 ?h81 ?h82 ?h83 ?h84 ?h85 ?h86 ?h87 ?h88 ?h89 ?h90 ?h91 ?h92 ?h93 ?h94 ?h95 ?h96 ?h97 ?h98 ?h99 ?h100 ?ZDn ?ZDm ?ZDl ?ZDk ?ZDj ?ZDi ?ZDh ?ZDg ?ZDf ?ZDe ?ZDd ?ZDc ?ZDb ?ZDa ?ZD9 ?ZD8 ?ZD7 ?ZD6 ?ZD5 ?ZD4 ?ZD3 ?ZD2 ?ZD1 ?ZD0 ?ZCz ?ZCy ?ZCx ?ZCw ?ZCv ?ZCu ?ZCt ?ZCs ?ZCr ?ZCq ?ZCp ?ZCo ?ZCn ?ZCm ?ZCl ?ZCk ?ZCj ?ZCi ?ZCh ?ZCg ?ZCf ?ZCe ?ZCd ?ZCc ?ZCb ?ZCa ?ZC9 ?ZC8 ?ZC7 ?ZC6 ?ZC5 ?ZC4 ?ZC3 ?ZC2 ?ZC1 ?ZC0 ?ZBz ?ZBy ?ZBx ?ZBw ?ZBv ?ZBu ?ZBt ?ZBs ?ZBr ?ZBq ?ZBp ?ZBo ?ZBn ?ZBm ?ZBl ?ZBk ?ZBj ?ZBi ?ZBh ?ZBg ?ZBf ?ZBe ?ZBd ?ZBc ?ZBb ?ZBa ?ZB9 ?ZB8 ?ZB7 ?ZB6 ?ZB5 ?ZB4 ?ZB3 ?ZB2 ?ZB1 ?ZB0 ?ZAz ?ZAy ?ZAx ?ZAw ?ZAv ?ZAu ?ZAt ?ZAs ?ZAr ?ZAq ?ZAp ?ZAo ?ZAn ?ZAm ?ZAl ?ZAk ?ZAj ?ZAi ?ZAh ?ZAg ?ZAf ?ZAe ?ZAd ?ZAc ?ZAb ?ZAa ?ZA9 ?ZA8 ?ZA6 ?ZA5 ?ZA4 ?ZA3 ?ZA2 ?ZA1 ?ZA0 ?Zzz ?Zzy ?Zzx ?Zzw ?Zzv ?Zzu ?Zzt ?Zzs ?Zzr ?Zzq ?Zzp ?Zzo ?Zzn ?Zzm ?Zzl ?Zzk ?Zzj ?Zzi ?Zzh ?Zzg ?Zzf ?Zze ?Zzd ?Zzc ?Zzb ?Zza ?Zz9 ?Zz8 ?Zz7 ?Zz6 ?Zz5 ?Zz4 ?Zz3 ?Zz2 ?Zz1 ?Zz0 ?Zyz ?Zyy ?Zyx ?Zyw ?Zyv ?Zyu ?Zyt ?Zys ?Zyr ?Zyq ?Zyp ?Zyo ?Zyn ?Zym ?Zyl ?Zyk ?Zyj ?Zyi ?Zyh ?Zyg ?Zyf ?Zye ?Zyd ?Zyc ?Zyb ?Zya ?Zy9 ?Zy8 ?Zy7 ?Zy6 ?Zy5 ?Zy4 ?Zy3 ?Zy2 ?Zy1 ?Zy0 ?Zxz ?Zxy ?Zxx ?Zxw ?Zxv ?Zxu ?Zxt ?Zxs ?Zxr ?Zxq ?Zxp ?Zxo ?Zxn ?Zxm ?Zxl ?Zxk ?Zxj ?Zxi ?Zxh ?Zxg ?Zxf ?Zxe ?Zxd ?Zxc ?Zxb ?Zxa ?Zx9 ?Zx8 ?Zx7 ?Zx6 ?Zx5 ?Zx4 ?Zx3 ?Zx2 ?Zx1 ?Zx0 ?Zwz ?Zwy ?Zwx ?Zww ?Zwv
  case h0 | h1 | h2 | h3 | h4 | h5 | h6 | h7 | h8 | h9 | h10 | h11 | h12 | h13 | h14 | h15 | h16 | h17 | h18 | h19 | h20 | h21 | h22 | h23 | h24 | h25=>(show _=_;k_is)
  case h26 | h27=>first | exact rfl | exact ⟨_,rfl⟩
  case h28 | h29 | h30 | h31 | h32 | h33 | h34 | h35 | h36 | h37 | h38 | h39 | h40 | h41 | h42 | h43 | h44 | h45 | h46 | h47 | h48 | h49 | h50 | h51 | h52 | h53 | h54 | h55 | h56 | h57 | h58 | h59 | h60 | h61 | h62 | h63 | h64 | h65 | h66 | h67 | h68 | h69 | h70 | h71 | h72 | h73 | h74 | h75 | h76 | h77 | h78 | h79 | h80 | h81 | h82 | h83 | h84 | h85 | h86 | h87 | h88 | h89 | h90 | h91 | h92 | h93 | h94 | h95 | h96 | h97 | h98 | h99 | h100 | ZDn | ZDm | ZDl | ZDk | ZDj | ZDi | ZDh | ZDg | ZDf | ZDe | ZDd | ZDc | ZDb | ZDa | ZD9 | ZD8 | ZD7 | ZD6 | ZD5 | ZD4 | ZD3 | ZD2 | ZD1 | ZD0 | ZCz | ZCy | ZCx | ZCw | ZCv | ZCu=>(show _=_;k_is)
  case ZCt | ZCs | ZCr | ZCq=>exact rfl
  case ZCp | ZCo=>(show _=_;k_is)
  case ZCn | ZCm | ZCl | ZCk | ZCj | ZCi | ZCh | ZCg | ZCf | ZCe=>exact rfl
  case ZCd | ZCc | ZCb | ZCa | ZC9 | ZC8 | ZC7 | ZC6 | ZC5 | ZC4 | ZC3 | ZC2 | ZC1 | ZC0 | ZBz | ZBy | ZBx | ZBw | ZBv | ZBu | ZBt | ZBs | ZBr | ZBq | ZBp | ZBo | ZBn | ZBm | ZBl | ZBk | ZBj | ZBi | ZBh | ZBg | ZBf | ZBe | ZBd | ZBc | ZBb | ZBa | ZB9 | ZB8 | ZB7 | ZB6 | ZB5 | ZB4 | ZB3 | ZB2 | ZB1 | ZB0 | ZAz | ZAy | ZAx | ZAw | ZAv | ZAu | ZAt | ZAs | ZAr | ZAq | ZAp | ZAo | ZAn | ZAm | ZAl | ZAk | ZAj | ZAi | ZAh | ZAg | ZAf | ZAe | ZAd | ZAc | ZAb | ZAa | ZA9 | ZA8 | ZA6 | ZA5 | ZA4 | ZA3 | ZA2 | ZA1 | ZA0 | Zzz | Zzy | Zzx=>(show _=_;k_is)
  case Zzw | Zzv | Zzu | Zzt=>k_exc
  case Zzs | Zzr | Zzq | Zzp=>kts_exm
  case Zzo | Zzn | Zzm | Zzl | Zzk | Zzj | Zzi | Zzh | Zzg | Zzf | Zze | Zzd | Zzc | Zzb | Zza=>(show _=_;k_is)
  case Zz9=>first | exact rfl | exact ⟨_,rfl⟩
  case Zz8=>(show _=_;k_is)
  case Zz7=>first | exact rfl | exact ⟨_,rfl⟩
  case Zz6 | Zz5 | Zz4 | Zz3 | Zz2 | Zz1 | Zz0 | Zyz | Zyy | Zyx | Zyw | Zyv | Zyu | Zyt | Zys | Zyr | Zyq | Zyp | Zyo | Zyn | Zym | Zyl | Zyk | Zyj | Zyi | Zyh | Zyg | Zyf | Zye | Zyd | Zyc | Zyb | Zya | Zy9 | Zy8 | Zy7 | Zy6 | Zy5 | Zy4 | Zy3 | Zy2 | Zy1 | Zy0 | Zxz | Zxy | Zxx | Zxw | Zxv | Zxu | Zxt | Zxs | Zxr | Zxq | Zxp | Zxo | Zxn | Zxm | Zxl | Zxk | Zxj | Zxi | Zxh | Zxg | Zxf | Zxe | Zxd | Zxc | Zxb | Zxa | Zx9 | Zx8 | Zx7 | Zx6 | Zx5 | Zx4 | Zx3 | Zx2 | Zx1 | Zx0 | Zwz | Zwy | Zwx | Zww | Zwv=>(refine' K32.fgm ?l ?c ?k;(case l=>show _=_;k_is);(case c=>show _=_;k_is);(case k=>show _=_;k_is))
#print axioms PySem.Challenge.cw_greywalk_k32_steps_change_nothing_holds
