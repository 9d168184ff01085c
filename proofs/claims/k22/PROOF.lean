import PyProof.Rows.All
import Wide.All
import OpenK.AllK
import Wide.FinOn
import Lean
import PyProof.EqAt
import PyProof.EqKinds
import PyProof.TupleCall
import KE.KItemsList
import KE.KDictList
import PySem.Challenge.RW_greywalk_k22_what_is_told
set_option Elab.async false
set_option linter.all false
set_option maxRecDepth 100000
abbrev aG:=PySem.W.Frag
theorem bO {α:Type}{l:List α}{i:Nat} (h:i < l.length):l[i]? =some l[i]:=List.getElem?_eq_getElem h
theorem cI {α:Type}{l:List α}{i:Nat}{a:α} (h:l[i]? =some a):∃ h:i < l.length,l[i]=a:=List.getElem?_eq_some_iff.mp h
theorem bx {α β:Type}{f:α→β}{l:List α}{i:Nat}:(l.map f)[i]? =l[i]?.map f:=List.getElem?_map
theorem bh {α β:Type}{l:List α} (f:α→β):(l.map f).length=l.length:=List.length_map f
namespace L2
open PySem PySem.Spec PyProof.Rows
abbrev Key:=Sum Int Str
def RW:Key→Value→Bool
 | .inl k,v=>Value.isInt k v
 | .inr x,v=>Value.isStrOf x v
def Zso (w:World):Key→Int
 | .inl k=>hashInt k
 | .inr x=>hashStr w x
theorem iQ:∀ {k:Key}{v:Value},RW k v=true→(∃ i t,k=Sum.inl i∧v=Value.int i t)∨(∃ x t,k=Sum.inr x∧v=Value.str x t)
 | .inl i,v,h=>by
  obtain ⟨t,e⟩:=Value.isInt_shape (k:=i) (v:=v) h;exact .inl ⟨i,t,rfl,e⟩
 | .inr x,v,h=>by
  obtain ⟨t,e⟩:=Value.isStrOf_shape (x:=x) (v:=v) h;exact .inr ⟨x,t,rfl,e⟩
theorem Zek (i:Int) (t:Tok):RW (.inl i) (.int i t)=true:=by simp [RW,Value.isInt]
theorem Zej (x:Str) (t:Tok):RW (.inr x) (.str x t)=true:=by simp [RW,Value.isStrOf]
theorem Znu (a b:Int):decide ((Sum.inl a:Key)=Sum.inl b)=(a == b):=by
 by_cases e:a=b
 ·subst e;simp
 ·have h:¬ (Sum.inl a:Key)=Sum.inl b:=fun q=>e (Sum.inl.inj q);rw [decide_eq_false h];exact (beq_eq_false_iff_ne.mpr e).symm
theorem Znr (a b:Str):decide ((Sum.inr a:Key)=Sum.inr b)=decide (a=b):=by
 by_cases e:a=b
 ·subst e;simp
 ·have h:¬ (Sum.inr a:Key)=Sum.inr b:=fun q=>e (Sum.inr.inj q);rw [decide_eq_false h,decide_eq_false e]
theorem Znt (a:Int) (b:Str):decide ((Sum.inl a:Key)=Sum.inr b)=false:=decide_eq_false (fun q=>nomatch q)
theorem Zns (a:Str) (b:Int):decide ((Sum.inr a:Key)=Sum.inl b)=false:=decide_eq_false (fun q=>nomatch q)
def iH (prog:Program) (w:World):PySem.KeyKind prog w Key where
  is:=RW
  hash:=Zso w
  inj:=fun v a b ha hb=>by
    rcases iQ ha with ⟨i,t,rfl,rfl⟩ | ⟨x,t,rfl,rfl⟩
    · rcases iQ hb with ⟨j,u,rfl,e⟩ | ⟨y,u,rfl,e⟩
      · injection e with e1 _;rw [e1]
      · exact nomatch e
    · rcases iQ hb with ⟨j,u,rfl,e⟩ | ⟨y,u,rfl,e⟩
      · exact nomatch e
      · injection e with e1 _;rw [e1]
  byValue:=fun k v h=>by
    rcases iQ h with ⟨i,t,rfl,rfl⟩ | ⟨x,t,rfl,rfl⟩<;>rfl
  pyHash:=fun hv h=>by
    rcases iQ hv with ⟨i,t,rfl,rfl⟩ | ⟨x,t,rfl,rfl⟩
    · exact wpAny_pyHash_int h
    · exact wpAny_pyHash_str h
  eqBool:=fun hu hv h=>by
    rcases iQ hu with ⟨i,t,rfl,rfl⟩ | ⟨x,t,rfl,rfl⟩
    · rcases iQ hv with ⟨j,u,rfl,rfl⟩ | ⟨y,u,rfl,rfl⟩
      · rw [Znu] at h;exact wpAny_eqBool_int h
      · rw [Znt] at h;exact SeqAt.EqAt.int_str i t y u _ _ _ _ h
    · rcases iQ hv with ⟨j,u,rfl,rfl⟩ | ⟨y,u,rfl,rfl⟩
      · rw [Zns] at h;exact SeqAt.EqAt.str_int x t j u _ _ _ _ h
      · rw [Znr] at h;exact wpAny_eqBool_str h
  «strs»:=fun k x t v h=>by
    rcases iQ h with ⟨i,u,rfl,e⟩ | ⟨y,u,rfl,e⟩
    · exact nomatch e
    · injection e with e1 _
      subst e1;cases v<;>rfl
theorem Yd (prog:Program) (w:World) (i:Int) (t:Tok):(iH prog w).is (.inl i) (.int i t)=true:=Zek i t
theorem Yc (prog:Program) (w:World) (x:Str) (t:Tok):(iH prog w).is (.inr x) (.str x t)=true:=Zej x t
end L2
namespace L2
open PySem PySem.Spec PyProof.Rows
inductive V where
 | non | bl (b:Bool) | int (i:Int) | str (x:Str) | byt (b:Array UInt8) | flt (b:UInt64) | ref (a:Addr) | ty (n:String)
 deriving DecidableEq
def RelV:V→Value→Prop
 | .non,u=>u=Value.none
 | .bl b,u=>u=Value.bool b
 | .int i,u=>∃ t,u=Value.int i t
 | .str x,u=>∃ t,u=Value.str x t
 | .byt b,u=>∃ t,u=Value.bytes b t
 | .flt b,u=>∃ t,u=Value.float b t
 | .ref a,u=>u=Value.ref a
 | .ty n,u=>u=Value.type n
abbrev Vals:List V→List Value→Prop:=Paired RelV
theorem Vals.length {xs:List V}{us:List Value} (r:Vals xs us):xs.length=us.length:=Paired.length r
theorem Vals.get:∀ {xs:List V}{us:List Value}{i:Nat}{x:V},Vals xs us→xs[i]? =some x→∃ u,us[i]? =some u∧RelV x u
 | _,_,_,_,.nil,e=>by simp at e
 | _,_,0,_,.cons r _,e=>by simp at e;subst e;exact ⟨_,rfl,r⟩
 | _,_,i + 1,x,.cons _ t,e=>by
  obtain ⟨u,h1,h2⟩:=Vals.get (i:=i) (x:=x) t (by simpa using e);exact ⟨u,by simpa using h1,h2⟩
theorem Vals.set {x:V}{u:Value} (r:RelV x u):∀ {xs:List V}{us:List Value} (i:Nat),Vals xs us→Vals (xs.set i x) (us.set i u)
 | _,_,_,.nil=>.nil
 | _,_,0,.cons _ t=>.cons r t
 | _,_,i + 1,.cons q t=>.cons q (Vals.set r i t)
theorem Vals.append:∀ {xs ys:List V}{us ws:List Value},Vals xs us→Vals ys ws→Vals (xs ++ ys) (us ++ ws)
 | _,_,_,_,.nil,s=>s
 | _,_,_,_,.cons r t,s=>.cons r (Vals.append t s)
theorem Vals.take:∀ {xs:List V}{us:List Value} (n:Nat),Vals xs us→Vals (xs.take n) (us.take n)
 | _,_,0,_=>.nil
 | _,_,_ + 1,.nil=>.nil
 | _,_,n + 1,.cons r t=>.cons r (Vals.take n t)
theorem Vals.drop:∀ {xs:List V}{us:List Value} (n:Nat),Vals xs us→Vals (xs.drop n) (us.drop n)
 | _,_,0,r=>r
 | _,_,_ + 1,.nil=>.nil
 | _,_,n + 1,.cons _ t=>Vals.drop n t
def Ar:Option V→Option Value→Prop
 | some v,some u=>RelV v u
 | none,none=>True
 | _,_=>False
def KV {κ:Type}:List (κ×V)→List (κ×Value)→Prop:=Paired fun (p:κ×V) (q:κ×Value)=>p.1=q.1∧RelV p.2 q.2
def kV:Key→V
 | .inl i=>.int i
 | .inr x=>.str x
inductive HO where
  | lst (xs:List V)
  | tup (xs:List V)
  | dK (kvs:List (Key×V)) | dT (kvs:List (List Key×V))
  | set (S:Int→Bool) (n:Nat)
  | ins (C dx:Addr) (fs:List (Str×V))
  | own (x:Addr)
  | xd (fs:List (Str×V))
  | met (f x:Addr)
  | rng (lo hi:Int)
  | yd (o:Obj) (u:HO)
  | Ls (ps:Array Value)
  | ext (φ:Heap→Prop)
abbrev Hp:=Addr→Option HO
def upd (H:Hp) (a:Addr) (o:HO):Hp:=fun b=>if b=a then some o else H b
theorem aq {H:Hp}{a:Addr}{o:HO}:upd H a o a=some o:=by unfold upd;rw [if_pos rfl]
theorem aA {H:Hp}{a b:Addr}{o:HO} (h:b≠a):upd H a o b=H b:=by unfold upd;rw [if_neg h]
theorem eF {H:Hp}{a:Addr}{o u:HO}:upd (upd H a o) a u=upd H a u:=by
 funext b;unfold upd;split<;>rfl
theorem Dy {H:Hp}{a b:Addr}{o u:HO} (h:H a=some o) (h':H b=some u) (d:o≠u):a≠b:=by
 intro e;subst e;rw [h] at h';exact d (Option.some.inj h')
theorem aD {H:Hp}{a b:Addr}{o:HO} (h:H a=some o) (h':H b=none):a≠b:=by
 intro e;subst e;rw [h] at h';cases h'
section
variable (P:Program) (w:World)
def jQ (H:Hp) (h:Heap) (a:Addr):HO→Prop
 | .lst xs=>xs.length≤sizeLine∧∃ (its:List Value) (n:Nat),Vals xs its∧h.get? a=some { cls:=.type "list",data:=.seq its.toArray n }
 | .tup xs=>xs.length≤sizeLine∧∃ its:List Value,Vals xs its∧IsTup h a its.toArray
 | .dK kvs=>kvs.length≤sizeLine∧(a == sysModules)=false∧∃ vs,KV kvs vs∧h.DictOf (iH P w) a vs
 | .dT kvs=>kvs.length≤sizeLine∧(a == sysModules)=false∧∃ xs:List (List Key×Addr×Value),
   Paired (fun (p:List Key×V) (q:List Key×Addr×Value)=>p.1=q.1∧H q.2.1=some (.tup (p.1.map kV))∧RelV p.2 q.2.2) kvs xs∧
   ∃ o es ep,h.get? a=some o∧o.ExactDict∧o.data=.dict es ep∧es.toList=xs.map (entryOfKey (tupleKind (iH P w)))∧(xs.map (·.1)).Nodup
 | .set S n=>h.SetOf (intKind P w) a S n
 | .ins C dx fs=>H dx=some (.own a)∧fs.length≤1000∧dx≠a∧h.get? a=some (PySem.W.instObj C dx)∧
   ∃ mA,h.Ns1 dx mA∧(∀ f,Ar (fs.lookup f) (mA f))∧PySem.Within mA (fs.map (·.1))
 | .own _=>∃ o,h.get? a=some o
 | .xd fs=>∃ mA,h.Ns1 a mA∧∀ f,Ar (fs.lookup f) (mA f)
 | .rng lo hi=>∃ t u v,h.get? a=some { cls:=.type "range",data:=.fields #[.int lo t,.int hi u,.int 1 v] }
 | .yd o u=>h.get? a=some o∧jQ H h a u
 | .Ls ps=>h.get? a=some { cls:=.none,data:=.fields ps }
 | .met f x=>h.get? a=some (PySem.W.methodObj (.ref f) (.ref x))
 | .ext φ=>φ h∧(∃ o,h.get? a=some o)∧∀ h1 h2:Heap,φ h1→(∀ o,h1.get? a=some o→h2.get? a=some o)→φ h2
def yp (H:Hp) (h:Heap):Prop:=∀ a o,H a=some o→jQ P w H h a o
end
section
variable {P:Program}{w:World}{H H':Hp}{h h':Heap}{a:Addr}{o:HO}
theorem jQ.lt (x:jQ P w H h a o):a < h.objs.size:=by
 cases o with
 | lst xs=>obtain ⟨_,_,_,_,e⟩:=x;exact Heap.lt_size e
 | tup xs=>obtain ⟨_,_,_,p⟩:=x;exact p.lt
 | dK kvs=>obtain ⟨_,_,_,_,o,_,_,e,_⟩:=x;exact Heap.lt_size e
 | dT kvs=>obtain ⟨_,_,_,_,o,_,_,e,_⟩:=x;exact Heap.lt_size e
 | set S n=>obtain ⟨o,_,_,_,e,_⟩:=x;exact Heap.lt_size e
 | ins C dx fs=>obtain ⟨_,_,_,e,_⟩:=x;exact Heap.lt_size e
 | own y=>obtain ⟨_,e⟩:=x;exact Heap.lt_size e
 | xd fs=>obtain ⟨_,⟨_,_,_,e,_⟩,_⟩:=x;exact Heap.lt_size e
 | rng lo hi=>obtain ⟨_,_,_,e⟩:=x;exact Heap.lt_size e
 | yd ob u=>obtain ⟨e,_⟩:=x;exact Heap.lt_size e
 | Ls ps=>exact Heap.lt_size (show h.get? a=some _ from x)
 | met f y=>exact Heap.lt_size (show h.get? a=some _ from x)
 | ext φ=>obtain ⟨_,⟨_,e⟩,_⟩:=x;exact Heap.lt_size e
theorem Paired.Znk {α β:Type}{F G:α→β→Prop}:∀ {l₁:List α}{l₂:List β},Paired F l₁ l₂→(∀ a b,F a b→G a b)→Paired G l₁ l₂
 | _,_,.nil,_=>.nil
 | _,_,.cons r t,f=>.cons (f _ _ r) (Paired.Znk t f)
theorem jQ.stay (x:jQ P w H h a o) (k:∀ b u,(b=a∨H b=some (.own a))→h.get? b=some u→h'.get? b=some u)
  (ho:∀ b,H b=some (.own a)→H' b=some (.own a)) (ht:∀ b xs,H b=some (.tup xs)→H' b=some (.tup xs)):jQ P w H' h' a o:=by
 induction o with
 | lst xs=>obtain ⟨z,its,n,r,e⟩:=x;exact ⟨z,its,n,r,k _ _ (.inl rfl) e⟩
 | tup xs=>obtain ⟨z,its,r,ob,e,c⟩:=x;exact ⟨z,its,r,ob,k _ _ (.inl rfl) e,c⟩
 | dK kvs=>obtain ⟨z,y,vs,r,ob,es,ep,e,c⟩:=x;exact ⟨z,y,vs,r,ob,es,ep,k _ _ (.inl rfl) e,c⟩
 | dT kvs=>
  obtain ⟨z,y,xs,r,ob,es,ep,e,c⟩:=x;exact ⟨z,y,xs,Paired.Znk r fun p q z=>⟨z.1,ht _ _ z.2.1,z.2.2⟩,ob,es,ep,k _ _ (.inl rfl) e,c⟩
 | set S n=>obtain ⟨ob,es,ep,t,e,c⟩:=x;exact ⟨ob,es,ep,t,k _ _ (.inl rfl) e,c⟩
 | ins C dx fs=>
  obtain ⟨d,z,ne,e,mA,⟨od,es,ep,e2,c⟩,r⟩:=x;exact ⟨ho _ d,z,ne,k _ _ (.inl rfl) e,mA,⟨od,es,ep,k _ _ (.inr d) e2,c⟩,r⟩
 | own y=>obtain ⟨ob,e⟩:=x;exact ⟨ob,k _ _ (.inl rfl) e⟩
 | xd fs=>obtain ⟨mA,⟨od,es,ep,e,c⟩,r⟩:=x;exact ⟨mA,⟨od,es,ep,k _ _ (.inl rfl) e,c⟩,r⟩
 | rng lo hi=>obtain ⟨t,u,v,e⟩:=x;exact ⟨t,u,v,k _ _ (.inl rfl) e⟩
 | yd ob u ih=>obtain ⟨e,q⟩:=x;exact ⟨k _ _ (.inl rfl) e,ih q⟩
 | Ls ps=>
  have e:h.get? a=some { cls:=.none,data:=.fields ps }:=x;show h'.get? a=some { cls:=.none,data:=.fields ps };exact k a _ (.inl rfl) e
 | met f y=>
  have e:h.get? a=some (PySem.W.methodObj (.ref f) (.ref y)):=x;show h'.get? a=some (PySem.W.methodObj (.ref f) (.ref y));exact k a _ (.inl rfl) e
 | ext φ=>obtain ⟨p,⟨o,e⟩,st⟩:=x;exact ⟨st _ _ p fun o q=>k _ _ (.inl rfl) q,⟨o,k _ _ (.inl rfl) e⟩,st⟩
theorem yp.lt (x:yp P w H h) (e:H a=some o):a < h.objs.size:=(x a o e).lt
theorem yp.fresh (x:yp P w H h) (e:h.objs.size≤a):H a=none:=by
 cases q:H a with
 | none=>rfl
 | some u=>exact absurd (Nat.lt_of_lt_of_le (x.lt q) e) (Nat.lt_irrefl _)
theorem yp.kept (x:yp P w H h) (k:∀ b u,h.get? b=some u→h'.get? b=some u):yp P w H h':=fun a o e=>
 (x a o e).stay (fun b u _ q=>k b u q) (fun _ q=>q) fun _ _ q=>q
theorem yp.laid (x:yp P w H h) (k:∀ b u,h.get? b=some u→h'.get? b=some u) (hp:h.objs.size≤a) (new:jQ P w (upd H a o) h' a o):yp P w (upd H a o) h':=fun b u e=>by
 have hn:=x.fresh hp
 by_cases hb:b=a
 ·subst hb;rw [aq] at e;cases e;exact new
 ·rw [aA hb] at e;exact (x b u e).stay (fun c v _ q=>k c v q) (fun c q=>by rw [aA (aD q hn)];exact q) fun c xs q=>by rw [aA (aD q hn)];exact q
end
def Rd (H:Hp) (a:Addr) (u:HO):Prop:=H a=some u∨∃ o,H a=some (.yd o u)
theorem Rd.ok {P:Program}{w:World}{H:Hp}{h:Heap}{a:Addr}{u:HO} (r:Rd H a u) (x:yp P w H h):jQ P w H h a u:=by
 rcases r with r | ⟨o,r⟩
 ·exact x a u r
 ·obtain ⟨_,q⟩:=x a _ r;exact q
def Mut:Option HO→Prop
 | some (.lst _)=>True
 | some (.dK _)=>True
 | some (.dT _)=>True
 | some (.set _ _)=>True
 | some (.ins _ _ _)=>True
 | some (.ext _)=>True
 | _=>False
section
variable {P:Program}{w:World}{H:Hp}{h h':Heap}{x e:Addr}{o':HO}
theorem yp.write (ok:yp P w H h) (mu:Mut (H x)) (he:e=x∨H e=some (.own x)) (k:∀ b u,b≠e→h.get? b=some u→h'.get? b=some u) (heo:∃ u,h'.get? e=some u)
  (new:jQ P w (upd H x o') h' x o'):yp P w (upd H x o') h':=fun b u q=>by
 have Zq0:∀ c y,H c=some (.own y)→c≠x:=fun c y r z=>by subst z;rw [r] at mu;exact mu
 have Zsf:∀ c xs,H c=some (.tup xs)→c≠x:=fun c xs r z=>by subst z;rw [r] at mu;exact mu
 by_cases hb:b=x
 ·subst hb;rw [aq] at q;cases q;exact new
 ·rw [aA hb] at q
  by_cases hbe:b=e
  ·have q':H b=some (.own x):=by
    rcases he with z | z
    ·exact absurd (hbe.trans z) hb
    ·rw [hbe];exact z
   rw [q] at q';cases q';obtain ⟨v,hv⟩:=heo;exact ⟨v,by rw [hbe];exact hv⟩
  ·refine (ok b u q).stay (fun c v hc r=>k c v ?_ r) (fun c r=>by rw [aA (Zq0 c b r)];exact r) fun c xs r=>by rw [aA (Zsf c xs r)];exact r
   rcases hc with rfl | hc
   ·exact hbe
   ·rintro rfl;rcases he with z | z
    ·exact Zq0 c b hc z
    ·rw [hc] at z;cases z;exact hb rfl
end
structure Un (fs ex:List Addr) (H H':Hp) (h h':Heap):Prop where
 keep:∀ b o,h.get? b=some o→H b=none→b∉fs→b∉ex→h'.get? b=some o
 slot:∀ b o,h.get? b=some o→H b=none→b∈fs→b∉ex→∃ sl,h'.get? b=some { o with slots:=sl }
 free:∀ b o,h.get? b=some o→H b=none→b∉ex→H' b=none
 there:∀ b o,h.get? b=some o→b∉ex→∃ o',h'.get? b=some o'
 tups:∀ b xs,H b=some (.tup xs)→H' b=some (.tup xs)
 Et:∀ b o u,H b=some (.yd o u)→H' b=some (.yd o u)
 FJ:∀ b ps,H b=some (.Ls ps)→∃ more,H' b=some (.Ls (ps ++ more))
section
variable {fs fs' ex ex':List Addr}{H H1 H2:Hp}{h h1 h2 h':Heap}{a x e:Addr}{o:HO}
theorem Un.any (u:Un fs ex H H1 h h1) {b:Addr}{ob:Obj} (q:h.get? b=some ob) (n:H b=none) (hx:b∉ex):∃ sl,h1.get? b=some { ob with slots:=sl }:=by
 by_cases hb:b∈fs
 ·exact u.slot b ob q n hb hx
 ·exact ⟨ob.slots,u.keep b ob q n hb hx⟩
theorem Un.kept (k:∀ b u,h.get? b=some u→h'.get? b=some u):Un fs ex H H h h':=
 ⟨fun b ob q _ _ _=>k b ob q,fun b ob q _ _ _=>⟨ob.slots,k b ob q⟩,fun _ _ _ n _=>n,fun b ob q _=>⟨ob,k b ob q⟩,fun _ _ q=>q,fun _ _ _ q=>q,fun _ ps q=>⟨#[],by rw [q];simp⟩⟩
theorem Un.refl:Un fs ex H H h h:=Un.kept fun _ _ q=>q
theorem Un.laid (k:∀ b u,h.get? b=some u→h'.get? b=some u) (hp:h.objs.size≤a) (hn:H a=none):Un fs ex H (upd H a o) h h' where
 keep:=fun b u q _ _ _=>k b u q
 slot:=fun b u q _ _ _=>⟨u.slots,k b u q⟩
 free:=fun b u q n _=>by rw [aA (Nat.ne_of_lt (Nat.lt_of_lt_of_le (Heap.lt_size q) hp))];exact n
 there:=fun b u q _=>⟨u,k b u q⟩
 tups:=fun b xs q=>by rw [aA (aD q hn)];exact q
 Et:=fun b u xs q=>by rw [aA (aD q hn)];exact q
 FJ:=fun b ps q=>⟨#[],by rw [aA (aD q hn),q];simp⟩
theorem Un.write (mu:Mut (H x)) (he:e=x∨H e=some (.own x)) (k:∀ b u,b≠e→h.get? b=some u→h'.get? b=some u) (heo:∃ u,h'.get? e=some u):Un fs ex H (upd H x o) h h':=by
 have hx:∀ b,H b=none→b≠x:=fun b n z=>by subst z;rw [n] at mu;exact mu
 have hb:∀ b,H b=none→b≠e:=fun b n z=>by
  subst z;rcases he with r | r
  ·exact hx b n r
  ·rw [n] at r;cases r
 have hm:∀ b u,H b=some u→¬ Mut (some u)→b≠x:=fun b u q nm z=>by subst z;rw [q] at mu;exact nm mu
 refine ⟨fun b u q n _ _=>k b u (hb b n) q,fun b u q n _ _=>⟨u.slots,k b u (hb b n) q⟩,fun b u q n _=>by rw [aA (hx b n)];exact n,fun b u q _=>?_,
  fun b xs q=>by rw [aA (hm b _ q fun z=>z)];exact q,fun b u xs q=>by rw [aA (hm b _ q fun z=>z)];exact q,fun b ps q=>⟨#[],by rw [aA (hm b _ q fun z=>z),q];simp⟩⟩
 by_cases hbe:b=e
 ·subst hbe;exact heo
 ·exact ⟨u,k b u hbe q⟩
end
def trk (h:Heap) (H:Hp):List Addr:=(List.range h.objs.size).filter fun a=>(H a).isSome
def VP (h:Heap) (H:Hp):Heap:=PySem.W.hideAll h (trk h H)
theorem Zey (h:Heap) (H:Hp):(VP h H).objs.size=h.objs.size:=PySem.W.hideAll_size _ _
theorem Zhq {h:Heap}{H:Hp}{b:Addr}{o:Obj} (e:h.get? b=some o) (n:H b=none):(VP h H).get? b=some o:=
 PySem.W.hideAll_get _ e fun hm=>by
  have q:(H b).isSome=true:=(List.mem_filter.mp hm).2;rw [n] at q;simp at q
theorem Zke {h:Heap}{H:Hp}{b:Addr}{o:Obj} (e:(VP h H).get? b=some o):h.get? b=some o∧H b=none:=by
 have e':h.get? b=some o:=PySem.W.of_hideAll (trk h H) e;refine ⟨e',?_⟩;cases q:H b with
 | none=>rfl
 | some x=>
  have hm:b∈trk h H:=List.mem_filter.mpr ⟨List.mem_range.mpr (Heap.lt_size e'),by simp [q]⟩;have z:(VP h H).get? b=none:=PySem.W.hideAll_none (trk h H) hm;rw [z] at e;cases e
def Zlt (g h:Heap) (L:Addr):List (Addr×Obj):=(List.range h.objs.size).filterMap fun a=>if a=L∨(g.get? a).isSome=true then none else (h.get? a).map fun o=>(a,o)
def rest (g h:Heap) (L d:Addr):List (Addr×Obj):=(Zlt g h L).filter fun p=>decide (p.1≠d)
end L2
namespace L2
open PySem PySem.Spec PyProof.Rows
structure Mod (K:aG) (mg:Str→Option Value) (base:Heap):Prop where
 kin:K.In base
 glob:base.Ns mainGlobals mg
 blt:∃ mb,base.Ns builtinsNs mb∧∀ x:Str,x≠"__name__"→mb x=bootBuiltins x
 nolimit:base.NoLimit
structure Cx where
 prog:Program
 w:World
 K:aG
 mg:Str→Option Value
 base:Heap
 A:Around
 N:List Str
 s₀:Shared
 H₀:Hp
 env:Env
 outer:List Env
 stack:List Env
 ex:List Addr
 fn:Str→Bool
 calm:Bool
 pn:List (Addr×Obj)
 xe:Value→Shared→Prop
def frs (l:List Env):List Addr:=l.filterMap (·.frame)
abbrev Cx.fs (X:Cx):List Addr:=frs X.outer
def Vis (sc:Scope) (x:Str):Prop:=sc.names.lookup x=some .local∨sc.names.lookup x=some .cell∨sc.names.lookup x=some .free
def Loc (sc:Scope) (x:Str):Prop:=sc.names.lookup x=some .local∨sc.names.lookup x=some .cell
def Look (env:Env) (h:Heap) (m:Str→Option Value) (x:Str) (u:Value):Prop:=
 (env.kindOf x=some .local∧m x=some u)∨((env.kindOf x=some .cell∨env.kindOf x=some .free)∧∃ c,env.cells.lookup x=some c∧h.IsCell c (some u))
structure Cx.Ok (X:Cx):Prop where
 mod:Mod X.K X.mg X.base
 kind:X.env.scope.kind=.function
 glob:X.env.globals=mainGlobals
 blt:X.env.builtins=builtinsNs
 above:X.s₀.heap.objs.size≤X.env.locals
 inj:∀ x y c,X.env.cells.lookup x=some c→X.env.cells.lookup y=some c→x=y
 has:∀ x,(X.env.kindOf x=some .cell∨X.env.kindOf x=some .free)→∃ c,X.env.cells.lookup x=some c
 cab:∀ x c,X.fn x=true→X.env.cells.lookup x=some c→X.s₀.heap.objs.size≤c
 hd:X.calm=true→X.A.handled=none
 frames:X.A.frames=some X.stack
 stk:X.stack=X.outer∨(X.stack=X.env :: X.outer∧X.env.frame=some X.env.locals)
 exf:∀ b∈X.ex,b≠X.env.locals∧∀ x c,X.env.cells.lookup x=some c→c≠b
 bs:∀ b o,X.base.get? b=some o→X.s₀.heap.get? b=some o∧X.H₀ b=none
 bsz:X.base.objs.size≤X.s₀.heap.objs.size
 Qa:∀ b o,X.base.get? b=some o→b∉X.ex
 YG:∀ b∈X.ex,b∉X.fs
 vR:X.s₀.heap.FunFrames X.base X.outer
 frf:∀ b∈X.fs,X.H₀ b=none
structure Inv (X:Cx) (pins:List (Addr×Obj)) (σ:List (Option V)) (H:Hp) (s:Shared):Prop where
 ok:X.Ok
 os:s.os=X.s₀.os
 bare:AllBare s.gens
 base:Un X.fs X.ex X.H₀ H X.s₀.heap s.heap
 loc:∃ m,s.heap.Ns X.env.locals m∧∀ (i:Nat) (x:Str) (v:V),X.N[i]? =some x→σ[i]? =some (some v)→Vis X.env.scope x→∃ u,RelV v u∧Look X.env s.heap m x u
 cell:∀ x c,X.env.cells.lookup x=some c→∃ v,s.heap.IsCell c v
 free:H X.env.locals=none
 qL:∀ x c,X.env.cells.lookup x=some c→H c=none
 pin:∀ p∈X.pn ++ pins,s.heap.get? p.1=some p.2∧H p.1=none∧p.1≠X.env.locals∧p.1∉X.fs∧∀ v,p.2.data≠.cell v
 hok:yp X.prog X.w H s.heap
 len:σ.length=X.N.length
section
variable {X:Cx}{pins:List (Addr×Obj)}{σ:List (Option V)}{H H':Hp}{s:Shared}{h':Heap}
theorem Cx.Ok.Zsi (ok:X.Ok) {b:Addr}{o:Obj} (e:X.base.get? b=some o):b∉X.fs:=fun hb=>by
 have:=(ok.vR.mem hb).1;rw [e] at this;cases this
theorem Inv.bs (I:Inv X pins σ H s):∀ b o,X.base.get? b=some o→s.heap.get? b=some o∧H b=none:=fun b o e=>
 ⟨I.base.keep b o (I.ok.bs b o e).1 (I.ok.bs b o e).2 (I.ok.Zsi e) (I.ok.Qa b o e),I.base.free b o (I.ok.bs b o e).1 (I.ok.bs b o e).2 (I.ok.Qa b o e)⟩
theorem Inv.bk (I:Inv X pins σ H s):∀ b o,X.base.get? b=some o→s.heap.get? b=some o:=fun b o e=>(I.bs b o e).1
theorem Inv.mod (I:Inv X pins σ H s):Mod X.K X.mg X.base:=I.ok.mod
theorem Inv.ux (I:Inv X pins σ H s):X.K.In s.heap:=I.ok.mod.kin.keeps I.bk
theorem Inv.lt (I:Inv X pins σ H s):X.env.locals < s.heap.objs.size:=let ⟨_,hn,_⟩:=I.loc;hn.lt
theorem Inv.sz (I:Inv X pins σ H s):X.s₀.heap.objs.size≤s.heap.objs.size:=Nat.le_trans I.ok.above (Nat.le_of_lt I.lt)
theorem Inv.Zsh (I:Inv X pins σ H s) {a:Addr} (h:s.heap.objs.size≤a):a∉X.fs:=fun hb=>by
 obtain ⟨_,o,ho,_⟩:=I.ok.vR.mem hb;exact absurd (Nat.lt_of_lt_of_le (Heap.lt_size ho) (Nat.le_trans I.sz h)) (Nat.lt_irrefl _)
theorem Inv.cne (I:Inv X pins σ H s):∀ x c,X.env.cells.lookup x=some c→c≠X.env.locals:=fun x c e z=>by
 obtain ⟨v,o,ho,hd⟩:=I.cell x c e;obtain ⟨m,⟨o',es,ep,ho',hd',_⟩,_⟩:=I.loc;rw [z,ho'] at ho;cases ho;rw [hd'] at hd;cases hd
theorem Inv.vR (I:Inv X pins σ H s):s.heap.FunFrames X.base X.outer:=by
 have all:∀ (l:List Env),(∀ b∈frs l,b∈X.fs)→X.s₀.heap.FunFrames X.base l→s.heap.FunFrames X.base l:=by
  intro l
  induction l with
  | nil=>intro _ _;trivial
  | cons env r ih=>
   intro hs hl;obtain ⟨hk,⟨L,o,hf,hn,ho,hd⟩,hr⟩:=hl;have hL:L∈X.fs:=hs L (by unfold frs;rw [List.filterMap_cons,hf];exact List.mem_cons_self);obtain ⟨sl,e⟩:=I.base.slot L o ho (I.ok.frf L hL) hL fun z=>I.ok.YG L z hL;exact ⟨hk,⟨L,_,hf,hn,e,hd⟩,ih (fun b hb=>hs b (by unfold frs;rw [List.filterMap_cons,hf];exact List.mem_cons_of_mem _ hb)) hr⟩
 exact all X.outer (fun _ hb=>hb) I.ok.vR
theorem Inv.stack (I:Inv X pins σ H s):s.heap.FunFrames X.base X.stack:=by
 rcases I.ok.stk with e | ⟨e,hf⟩
 ·rw [e];exact I.vR
 ·rw [e];obtain ⟨m,hn,_⟩:=I.loc;refine .cons (by rw [I.ok.kind];decide) hf hn ?_ I.vR;exact Heap.get?_none_of_le (Nat.le_trans I.ok.bsz I.ok.above)
theorem Inv.yu (I:Inv X pins σ H s):∀ b∈frs X.stack,b∈X.env.locals :: X.fs:=fun b hb=>by
 rcases I.ok.stk with e | ⟨e,hf⟩
 ·rw [e] at hb;exact List.mem_cons_of_mem _ hb
 ·rw [e] at hb;unfold frs at hb;rw [List.filterMap_cons,hf] at hb;exact hb
theorem Inv.Kz (I:Inv X pins σ H s):∀ b∈frs X.stack,H b=none:=fun b hb=>by
 rcases List.mem_cons.mp (I.yu b hb) with e | hb
 ·rw [e];exact I.free
 ·obtain ⟨_,o,ho,_⟩:=I.ok.vR.mem hb;exact I.base.free b o ho (I.ok.frf b hb) fun z=>I.ok.YG b z hb
theorem Inv.step {g':Array GenState}{t':Nat}{d':Drawn}{ch:List Addr} (I:Inv X pins σ H s)
  (hch:∀ b∈ch,(b∈X.ex∨X.s₀.heap.objs.size≤b)∧b≠X.env.locals∧(∀ x c,X.env.cells.lookup x=some c→c≠b)∧∀ p∈X.pn ++ pins,p.1≠b)
  (keep:∀ b o,b≠X.env.locals→b∉X.fs→b∉ch→s.heap.get? b=some o→H b=none→h'.get? b=some o)
  (slot:∀ b o,b≠X.env.locals→b∈X.fs→b∉ch→s.heap.get? b=some o→H b=none→∃ sl,h'.get? b=some { o with slots:=sl }) (free:∀ b o,b∉ch→s.heap.get? b=some o→H b=none→H' b=none)
  (there:∀ b o,b∉ch→s.heap.get? b=some o→∃ o',h'.get? b=some o')
  (tups:∀ b xs,H b=some (.tup xs)→H' b=some (.tup xs)) (Et:∀ b o u,H b=some (.yd o u)→H' b=some (.yd o u)) (FJ:∀ b ps,H b=some (.Ls ps)→∃ more,H' b=some (.Ls (ps ++ more)))
  (ns:∀ m,s.heap.Ns X.env.locals m→h'.Ns X.env.locals m) (hok:yp X.prog X.w H' h') (hg:AllBare g'):
  Inv X pins σ H' { s with heap:=h',gens:=g',drawn:=d',toks:=t' }:=by
 have neL:∀ b o,X.s₀.heap.get? b=some o→b≠X.env.locals:=fun b o e=>Nat.ne_of_lt (Nat.lt_of_lt_of_le (Heap.lt_size e) I.ok.above);have neC:∀ b o,X.s₀.heap.get? b=some o→b∉X.ex→b∉ch:=fun b o e hx hb=>by
  rcases (hch b hb).1 with z | z
  ·exact hx z
  ·exact absurd (Nat.lt_of_lt_of_le (Heap.lt_size e) z) (Nat.lt_irrefl _)
 have cellK:∀ x c,X.env.cells.lookup x=some c→∀ v,s.heap.IsCell c v→h'.IsCell c v:=fun x c e v ⟨o,ho,hd⟩=>by
  have nch:c∉ch:=fun z=>(hch c z).2.2.1 x c e rfl
  by_cases hc:c∈X.fs
  ·obtain ⟨sl,q⟩:=slot c o (I.cne x c e) hc nch ho (I.qL x c e);exact ⟨_,q,hd⟩
  ·exact ⟨o,keep c o (I.cne x c e) hc nch ho (I.qL x c e),hd⟩
 refine ⟨I.ok,I.os,hg,⟨fun b o e n hb hx=>?_,fun b o e n hb hx=>?_,fun b o e n hx=>?_,fun b o e hx=>?_,fun b xs e=>tups b xs (I.base.tups b xs e),fun b o xs e=>Et b o xs (I.base.Et b o xs e),fun b ps e=>?_⟩,?_,fun x c e=>?_,?_,fun x c e=>?_,fun p hp=>?_,hok,I.len⟩
 ·exact keep b o (neL b o e) hb (neC b o e hx) (I.base.keep b o e n hb hx) (I.base.free b o e n hx)
 ·obtain ⟨sl,e1⟩:=I.base.slot b o e n hb hx;obtain ⟨sl',e2⟩:=slot b _ (neL b o e) hb (neC b o e hx) e1 (I.base.free b o e n hx);exact ⟨sl',e2⟩
 ·obtain ⟨o',e1⟩:=I.base.there b o e hx;exact free b o' (neC b o e hx) e1 (I.base.free b o e n hx)
 ·obtain ⟨o',e1⟩:=I.base.there b o e hx;exact there b o' (neC b o e hx) e1
 ·obtain ⟨m1,e1⟩:=I.base.FJ b ps e;obtain ⟨m2,e2⟩:=FJ b _ e1;exact ⟨m1 ++ m2,by rw [e2,Array.append_assoc]⟩
 ·obtain ⟨m,hn,hl⟩:=I.loc;refine ⟨m,ns m hn,fun i x v e1 e2 e3=>?_⟩;obtain ⟨u,r,l⟩:=hl i x v e1 e2 e3;refine ⟨u,r,?_⟩;rcases l with l | ⟨k,c,e,z⟩
  ·exact .inl l
  ·exact .inr ⟨k,c,e,cellK x c e _ z⟩
 ·obtain ⟨v,z⟩:=I.cell x c e;exact ⟨v,cellK x c e v z⟩
 ·obtain ⟨m,⟨o,_,_,ho,_⟩,_⟩:=I.loc;exact free _ o (fun z=>(hch _ z).2.1 rfl) ho I.free
 ·obtain ⟨v,o,ho,hd⟩:=I.cell x c e;exact free c o (fun z=>(hch c z).2.2.1 x c e rfl) ho (I.qL x c e)
 ·obtain ⟨e,n,ne,nf,d⟩:=I.pin p hp;have nch:p.1∉ch:=fun z=>(hch p.1 z).2.2.2 p hp rfl;exact ⟨keep p.1 p.2 ne nf nch e n,free p.1 p.2 nch e n,ne,nf,d⟩
theorem Inv.un {t':Nat} (I:Inv X pins σ H s) (u:Un X.fs [] H H' s.heap h') (hok:yp X.prog X.w H' h'):Inv X pins σ H' { s with heap:=h',toks:=t' }:=by
 obtain ⟨m,⟨o,es,ep,ho,r⟩,_⟩:=id I.loc;obtain ⟨sl,hL⟩:=u.any ho I.free (by simp);exact I.step (g':=s.gens) (d':=s.drawn) (ch:=[]) (fun _ z=>nomatch z) (fun b o _ hb _ e n=>u.keep b o e n hb (by simp)) (fun b o _ hb _ e n=>u.slot b o e n hb (by simp)) (fun b o _ e n=>u.free b o e n (by simp)) (fun b o _ e=>u.there b o e (by simp)) u.tups u.Et u.FJ (fun m' hm=>by
  obtain ⟨o',es',ep',ho',r'⟩:=hm;rw [ho] at ho';cases ho';exact ⟨_,es',ep',hL,r'⟩) hok I.bare
theorem Inv.call {g':Array GenState}{t':Nat}{d':Drawn}{ch:List Addr} (I:Inv X pins σ H s) (u:Un (frs X.stack) ch H H' s.heap h') (hok:yp X.prog X.w H' h') (hg:AllBare g')
  (hch:∀ b∈ch,(b∈X.ex∨X.s₀.heap.objs.size≤b)∧b≠X.env.locals∧(∀ x c,X.env.cells.lookup x=some c→c≠b)∧∀ p∈X.pn ++ pins,p.1≠b):
  Inv X pins σ H' { s with heap:=h',gens:=g',drawn:=d',toks:=t' }:=by
 obtain ⟨m,⟨o,es,ep,ho,r⟩,_⟩:=id I.loc;obtain ⟨sl,hL⟩:=u.any ho I.free fun z=>(hch _ z).2.1 rfl;exact I.step (ch:=ch) hch (fun b o hL hb hc e n=>u.keep b o e n (fun z=>(List.mem_cons.mp (I.yu b z)).elim hL hb) hc) (fun b o _ _ hc e n=>u.any e n hc) (fun b o hc e n=>u.free b o e n hc) (fun b o hc e=>u.there b o e hc) u.tups u.Et u.FJ (fun m' hm=>by
  obtain ⟨o',es',ep',ho',r'⟩:=hm;rw [ho] at ho';cases ho';exact ⟨_,es',ep',hL,r'⟩) hok hg
theorem Inv.turned {t':Nat}{it:Addr} (I:Inv X pins σ H s) (k:∀ b o,b≠it→s.heap.get? b=some o→h'.get? b=some o) (hn:H it=none) (hL:it≠X.env.locals)
  (h1:it∈X.ex∨X.s₀.heap.objs.size≤it) (h2:∀ x c,X.env.cells.lookup x=some c→c≠it) (h3:∀ p∈X.pn ++ pins,p.1≠it):Inv X pins σ H { s with heap:=h',toks:=t' }:=by
 have nit:∀ b u,H b=some u→b≠it:=fun b u e z=>by rw [z,hn] at e;cases e
 refine I.step (g':=s.gens) (d':=s.drawn) (ch:=[it]) (fun b hb=>?_) (fun b o _ _ hc e _=>k b o (fun z=>hc (by simp [z])) e) (fun b o _ _ hc e _=>⟨o.slots,k b o (fun z=>hc (by simp [z])) e⟩) (fun _ _ _ _ n=>n)
  (fun b o hc e=>⟨o,k b o (fun z=>hc (by simp [z])) e⟩) (fun _ _ e=>e) (fun _ _ _ e=>e) (fun b ps e=>⟨#[],by rw [e];simp⟩) (fun m hm=>?_) (fun b u e=>?_) I.bare
 ·have e:b=it:=by simpa using hb
  subst e;exact ⟨h1,hL,h2,h3⟩
 ·obtain ⟨o,es,ep,ho,r⟩:=hm;exact ⟨o,es,ep,k _ o (Ne.symm hL) ho,r⟩
 ·refine (I.hok b u e).stay (fun c v hc q=>k c v ?_ q) (fun _ q=>q) fun _ _ q=>q;rcases hc with z | z
  ·rw [z];exact nit b u e
  ·exact nit c _ z
theorem Inv.tok (I:Inv X pins σ H s) (t:Nat):Inv X pins σ H { s with toks:=t }:=I.un (h':=s.heap) (t':=t) Un.refl I.hok
theorem Inv.kept {t':Nat} (I:Inv X pins σ H s) (k:∀ b u,s.heap.get? b=some u→h'.get? b=some u):Inv X pins σ H { s with heap:=h',toks:=t' }:=I.un (Un.kept k) (I.hok.kept k)
theorem Inv.laid {a:Addr}{o:HO}{t':Nat} (I:Inv X pins σ H s) (k:∀ b u,s.heap.get? b=some u→h'.get? b=some u) (hp:s.heap.objs.size≤a) (new:jQ X.prog X.w (upd H a o) h' a o):
  Inv X pins σ (upd H a o) { s with heap:=h',toks:=t' }:=I.un (Un.laid k hp (I.hok.fresh hp)) (I.hok.laid k hp new)
theorem Inv.write {x e:Addr}{o:HO}{t':Nat} (I:Inv X pins σ H s) (mu:Mut (H x)) (he:e=x∨H e=some (.own x)) (k:∀ b u,b≠e→s.heap.get? b=some u→h'.get? b=some u) (heo:∃ u,h'.get? e=some u)
  (new:jQ X.prog X.w (upd H x o) h' x o):Inv X pins σ (upd H x o) { s with heap:=h',toks:=t' }:=I.un (Un.write mu he k heo) (I.hok.write mu he k heo new)
theorem Inv.uh {Zm7:List (Addr×Obj)} (I:Inv X pins σ H s) (h:∀ p∈Zm7,s.heap.get? p.1=some p.2∧H p.1=none∧p.1≠X.env.locals∧p.1∉X.fs∧∀ v,p.2.data≠.cell v):Inv X Zm7 σ H s:=
 ⟨I.ok,I.os,I.bare,I.base,I.loc,I.cell,I.free,I.qL,fun p hp=>(List.mem_append.mp hp).elim (fun z=>I.pin p (List.mem_append_left _ z)) (h p),I.hok,I.len⟩
theorem X6 {N:List Str} (hN:N.Nodup) {i j:Nat}{x:Str} (a:N[i]? =some x) (b:N[j]? =some x):i=j:=by
 obtain ⟨h1,e1⟩:=cI a;obtain ⟨h2,e2⟩:=cI b;exact (List.getElem_inj hN).mp (e1.trans e2.symm)
theorem Zdg {M:Model}{A:Around}{E:Value→Shared→Prop}{i:Nat}{x:Str}{v:V}{u:Value}{Q:Unit→Shared→Prop} (I:Inv X pins σ H s) (hN:X.N.Nodup) (hi:X.N[i]? =some x) (hx:Loc X.env.scope x) (r:RelV v u)
  (h:∀ s',Inv X pins (σ.set i (some v)) H s'→(∃ a,Heap.SameBut a s.heap s'.heap∧(a=X.env.locals∨X.env.cells.lookup x=some a))→Q () s') (hf:X.fn x=true∨X.env.scope.names.lookup x=some .local:=by first | exact .inl rfl | exact .inr rfl | assumption):wpAny M A (storeName X.env x u) Q E s:=by
 obtain ⟨m,hn,hl⟩:=id I.loc;have hcls:(X.env.scope.kind == .class || (X.env.scope.kind == .module && X.env.locals != X.env.globals))=false:=by rw [I.ok.kind];rfl
 have hiσ:i < σ.length:=by rw [I.len];exact (cI hi).1
 have cne:=I.cne;have tracked:∀ {a:Addr}{h':Heap},(∃ o,s.heap.get? a=some o∧H a=none)→Heap.SameBut a s.heap h'→yp X.prog X.w H h':=fun {a h'} ha hs b ob e=>by
  obtain ⟨_,_,hfree⟩:=ha;refine (I.hok b ob e).stay (fun c w' hc q=>(hs.2 c ?_).trans q) (fun _ q=>q) fun _ _ q=>q;rintro rfl;rcases hc with rfl | hc
  ·rw [hfree] at e;cases e
  ·rw [hfree] at hc;cases hc
 rcases hx with hk | hk
 ·refine wpAny_storeName_local hk hn (fun h' hn' hs=>?_) hcls;obtain ⟨oL,_,_,hoL,_⟩:=id hn;refine h _ ⟨I.ok,I.os,I.bare,⟨fun b o e n hb hx=>?_,fun b o e n hb hx=>?_,I.base.free,fun b o e hx=>?_,I.base.tups,I.base.Et,I.base.FJ⟩,⟨_,hn',fun j y v' e1 e2 e3=>?_⟩,fun y c e=>?_,I.free,I.qL,fun p hp=>?_,tracked ⟨oL,hoL,I.free⟩ hs,by simpa using I.len⟩ ⟨_,hs,.inl rfl⟩
  ·exact (hs.2 b (Nat.ne_of_lt (Nat.lt_of_lt_of_le (Heap.lt_size e) I.ok.above))).trans (I.base.keep b o e n hb hx)
  ·obtain ⟨sl,e1⟩:=I.base.slot b o e n hb hx;exact ⟨sl,(hs.2 b (Nat.ne_of_lt (Nat.lt_of_lt_of_le (Heap.lt_size e) I.ok.above))).trans e1⟩
  ·obtain ⟨o',e1⟩:=I.base.there b o e hx;exact ⟨o',(hs.2 b (Nat.ne_of_lt (Nat.lt_of_lt_of_le (Heap.lt_size e) I.ok.above))).trans e1⟩
  ·by_cases hj:j=i
   ·subst hj;rw [hi] at e1;cases e1;rw [List.getElem?_set_self hiσ] at e2;cases e2;exact ⟨u,r,.inl ⟨hk,by simp⟩⟩
   ·rw [List.getElem?_set_ne (Ne.symm hj)] at e2;obtain ⟨u',r',q⟩:=hl j y v' e1 e2 e3;refine ⟨u',r',?_⟩;rcases q with ⟨k,e⟩ | ⟨k,c,e,z⟩
    ·refine .inl ⟨k,?_⟩;have:y≠x:=fun e=>hj (X6 hN e1 (e ▸ hi));simp [this,e]
    ·exact .inr ⟨k,c,e,z.sameBut hs (cne y c e)⟩
  ·obtain ⟨w',z⟩:=I.cell y c e;exact ⟨w',z.sameBut hs (cne y c e)⟩
  ·obtain ⟨e,n,ne,nf,d⟩:=I.pin p hp;exact ⟨(hs.2 p.1 ne).trans e,n,ne,nf,d⟩
 ·have hfn:X.fn x=true:=by
   rcases hf with z | z
   ·exact z
   ·rw [z] at hk;cases hk
  obtain ⟨c,hc⟩:=I.ok.has x (.inl hk);obtain ⟨w',z⟩:=I.cell x c hc;refine wpAny_storeName_cell I.ok.kind hk hc z (fun h' hc' hs=>?_);obtain ⟨oc,hoc,Ztl⟩:=id z;refine h { s with heap:=h' } ⟨I.ok,I.os,I.bare,⟨fun b o e n hb hx=>?_,fun b o e n hb hx=>?_,I.base.free,fun b o e hx=>?_,I.base.tups,I.base.Et,I.base.FJ⟩,⟨m,hn.sameBut hs (Ne.symm (cne x c hc)),fun j y v' e1 e2 e3=>?_⟩,fun y c' e=>?_,I.free,I.qL,fun p hp=>?_,tracked ⟨oc,hoc,I.qL x c hc⟩ hs,by simpa using I.len⟩ ⟨c,hs,.inr hc⟩
  ·exact (hs.2 b (Nat.ne_of_lt (Nat.lt_of_lt_of_le (Heap.lt_size e) (I.ok.cab x c hfn hc)))).trans (I.base.keep b o e n hb hx)
  ·obtain ⟨sl,e1⟩:=I.base.slot b o e n hb hx;exact ⟨sl,(hs.2 b (Nat.ne_of_lt (Nat.lt_of_lt_of_le (Heap.lt_size e) (I.ok.cab x c hfn hc)))).trans e1⟩
  ·obtain ⟨o',e1⟩:=I.base.there b o e hx;exact ⟨o',(hs.2 b (Nat.ne_of_lt (Nat.lt_of_lt_of_le (Heap.lt_size e) (I.ok.cab x c hfn hc)))).trans e1⟩
  ·by_cases hj:j=i
   ·subst hj;rw [hi] at e1;cases e1;rw [List.getElem?_set_self hiσ] at e2;cases e2;exact ⟨u,r,.inr ⟨.inl hk,c,hc,hc'⟩⟩
   ·rw [List.getElem?_set_ne (Ne.symm hj)] at e2;obtain ⟨u',r',q⟩:=hl j y v' e1 e2 e3;refine ⟨u',r',?_⟩;rcases q with q | ⟨k,c',e,z'⟩
    ·exact .inl q
    ·refine .inr ⟨k,c',e,z'.sameBut hs ?_⟩;rintro rfl;exact hj (X6 hN e1 (I.ok.inj _ _ _ e hc ▸ hi))
  ·by_cases hcc:c'=c
   ·subst hcc;exact ⟨_,hc'⟩
   ·obtain ⟨w2,z2⟩:=I.cell y c' e;exact ⟨w2,z2.sameBut hs hcc⟩
  ·obtain ⟨e,n,ne,nf,d⟩:=I.pin p hp;refine ⟨(hs.2 p.1 ?_).trans e,n,ne,nf,d⟩;intro q;rw [q,hoc] at e;have q':oc=p.2:=Option.some.inj e;exact d w' (by rw [← q'];exact Ztl)
theorem Xi {M:Model}{A:Around}{E:Value→Shared→Prop}{i:Nat}{x:Str}{v:V}{u:Value}{Q:Unit→Shared→Prop} (I:Inv X pins σ H s) (hN:X.N.Nodup) (hi:X.N[i]? =some x) (hx:Loc X.env.scope x) (r:RelV v u)
  (h:∀ s',Inv X pins (σ.set i (some v)) H s'→Q () s') (hf:X.fn x=true∨X.env.scope.names.lookup x=some .local:=by first | exact .inl rfl | exact .inr rfl | assumption):wpAny M A (storeName X.env x u) Q E s:=
 Zdg I hN hi hx r (fun s' I' _=>h s' I') hf
theorem Inv.call' {s':Shared}{ch:List Addr} (I:Inv X pins σ H s) (ho:s'.os=s.os) (u:Un (frs X.stack) ch H H' s.heap s'.heap) (hok:yp X.prog X.w H' s'.heap) (hg:AllBare s'.gens)
  (hch:∀ b∈ch,(b∈X.ex∨X.s₀.heap.objs.size≤b)∧b≠X.env.locals∧(∀ x c,X.env.cells.lookup x=some c→c≠b)∧∀ p∈X.pn ++ pins,p.1≠b):Inv X pins σ H' s':=by
 obtain ⟨h',g',d',t',o'⟩:=s';have e:o'=s.os:=ho;subst e;exact I.call (g':=g') (t':=t') (d':=d') u hok hg hch
end
abbrev XK:=Value→Option Addr→Hp→Prop
abbrev St:=List (Option V)
abbrev VK:=V→Hp→Prop
abbrev TE:=St→Hp→VK→Prop
abbrev TT:=St→Hp→(Bool→Hp→Prop)→Prop
abbrev TA:=St→Hp→(List V→Hp→Prop)→Prop
structure Ends where
 nx:St→Hp→Prop
 rt:VK
 bk:St→Hp→Prop:=fun _ _=>False
 ct:St→Hp→Prop:=fun _ _=>False
abbrev TS:=Ends→St→Hp→Prop
def EP (X:Cx) (pins:List (Addr×Obj)) (σ:St) (Q:VK) (u:Value) (s':Shared):Prop:=∃ v H',Inv X pins σ H' s'∧RelV v u∧Q v H'
def TP (X:Cx) (pins:List (Addr×Obj)) (σ:St) (Q:Bool→Hp→Prop) (b:Bool) (s':Shared):Prop:=∃ H',Inv X pins σ H' s'∧Q b H'
def AP (X:Cx) (pins:List (Addr×Obj)) (σ:St) (Q:List V→Hp→Prop) (us:List Value) (s':Shared):Prop:=∃ vs H',Inv X pins σ H' s'∧Vals vs us∧Q vs H'
def SP (X:Cx) (pins:List (Addr×Obj)) (D:Ends) (f:Flow) (s':Shared):Prop:=
 match f with
 | .next=>∃ σ' H',Inv X pins σ' H' s'∧D.nx σ' H'
 | .brk=>∃ σ' H',Inv X pins σ' H' s'∧D.bk σ' H'
 | .cont=>∃ σ' H',Inv X pins σ' H' s'∧D.ct σ' H'
 | .ret u=>∃ v σ' H',Inv X pins σ' H' s'∧RelV v u∧D.rt v H'
def PE (X:Cx) (e:Expr) (t:TE):Prop:=
 ∀ (pins:List (Addr×Obj)) (s:Shared) (σ:St) (H:Hp) (Q:VK),Inv X pins σ H s→t σ H Q→wpAny (model X.prog X.w) X.A (eval e X.env) (EP X pins σ Q) X.xe s
def PT (X:Cx) (e:Expr) (t:TT):Prop:=
 ∀ (pins:List (Addr×Obj)) (s:Shared) (σ:St) (H:Hp) (Q:Bool→Hp→Prop),Inv X pins σ H s→t σ H Q→wpAny (model X.prog X.w) X.A (isTrue e X.env (eval e X.env)) (TP X pins σ Q) X.xe s
def PW (X:Cx) (e:Expr) (t:TT):Prop:=
 ∀ (whole:Sem Value) (pins:List (Addr×Obj)) (s:Shared) (σ:St) (H:Hp) (Q:Bool→Hp→Prop),Inv X pins σ H s→t σ H Q→wpAny (model X.prog X.w) X.A (isTrue e X.env whole) (TP X pins σ Q) X.xe s
theorem PW.pt {X:Cx}{e:Expr}{t:TT} (h:PW X e t):PT X e t:=h _
def PA (X:Cx) (es:List Expr) (t:TA):Prop:=
 ∀ (pos:Pos) (pins:List (Addr×Obj)) (s:Shared) (σ:St) (H:Hp) (Q:List V→Hp→Prop),Inv X pins σ H s→t σ H Q→wpAny (model X.prog X.w) X.A (spliced (backTo pos (starEach es X.env))) (AP X pins σ Q) X.xe s
def PS (X:Cx) (st:Stmt) (t:TS):Prop:=
 ∀ (pins:List (Addr×Obj)) (s:Shared) (σ:St) (H:Hp) (D:Ends),Inv X pins σ H s→t D σ H→wpAny (model X.prog X.w) X.A (exec st X.env) (SP X pins D) X.xe s
def SQ (X:Cx) (st:List Stmt) (t:TS):Prop:=
 ∀ (pins:List (Addr×Obj)) (s:Shared) (σ:St) (H:Hp) (D:Ends),Inv X pins σ H s→t D σ H→wpAny (model X.prog X.w) X.A (execs st X.env) (SP X pins D) X.xe s
theorem iD {α:Type}{t:Sem α}{Q Q':α→Shared→Prop}{M:Model}{A:Around}{E:Value→Shared→Prop}{s:Shared} (h:wpAny M A t Q E s) (hQ:∀ a s,Q a s→Q' a s):wpAny M A t Q' E s:=wpAny_mono h hQ fun _ _ x=>x
end L2
namespace L2
open PySem PySem.Spec PyProof.Rows
section
variable {X:Cx}
def aj (i:Nat):TE:=fun σ H Q=>∃ v,σ[i]? =some (some v)∧Q v H
def tC (v:V):TE:=fun _ H Q=>Q v H
theorem Zga {i:Nat}{x:Str}{pos:Pos} (hN:X.N[i]? =some x) (hv:Vis X.env.scope x) (hd:(x == ("__debug__":Str))=false:=by decide) (hcd:(x == ("__classdict__":Str))=false:=by decide):PE X (.Name x pos) (aj i):=by
 intro pins s σ H Q I h;obtain ⟨v,e,h⟩:=h;obtain ⟨m,hn,hl⟩:=I.loc;obtain ⟨u,r,l⟩:=hl i x v hN e hv;have fin:EP X pins σ Q u s:=⟨v,H,I,r,h⟩;rcases l with ⟨hk,hm⟩ | ⟨hk,c,hc,hcell⟩
 ·exact wpAny_Name (wpAny_loadName_local I.ok.kind hk hn hm fin) hd
 ·rcases hk with hk | hk
  ·exact wpAny_Name (wpAny_loadName_cell I.ok.kind hk hc hcell fin) hd
  ·exact wpAny_Name (wpAny_loadName_free I.ok.kind hk hc hcell fin hcd) hd
theorem au {i j pos}:PE X (.Constant (.int i) j pos) (tC (.int i)):=fun _ _ _ H _ I h=>wpAny_Constant_int ⟨.int i,H,I.tok _,⟨_,rfl⟩,h⟩
theorem m6 {b j pos}:PE X (.Constant (.bool b) j pos) (tC (.bl b)):=fun _ _ _ H _ I h=>Constant_bool ⟨.bl b,H,I,rfl,h⟩
theorem gF {j pos}:PE X (.Constant .none j pos) (tC .non):=fun _ _ _ H _ I h=>Constant_none ⟨.non,H,I,rfl,h⟩
theorem aH {x j pos}:PE X (.Constant (.str x) j pos) (tC (.str x)):=fun _ _ _ H _ I h=>Calls.Constant_str ⟨.str x,H,I.tok _,⟨_,rfl⟩,h⟩
def Gl (X:Cx) (x:Str):Prop:=X.env.kindOf x=some .globalImplicit
theorem jA {E:Value→Shared→Prop}{pins:List (Addr×Obj)}{s:Shared}{σ:St}{H:Hp}{x:Str}{u:Value}{pos:Pos}{Q:Value→Shared→Prop} (I:Inv X pins σ H s) (hg:Gl X x) (hm:X.mg x=some u) (h:Q u s)
  (hd:(x == ("__debug__":Str))=false:=by decide):wpAny (model X.prog X.w) X.A (eval (.Name x pos) X.env) Q E s:=
 Calls.Name_function_global I.ok.kind hg (Calls.loadGlobal_global (by rw [I.ok.glob];exact I.mod.glob.keeps I.bk) hm h) hd
theorem Vi {E:Value→Shared→Prop}{pins:List (Addr×Obj)}{s:Shared}{σ:St}{H:Hp}{x:Str}{u:Value}{pos:Pos}{Q:Value→Shared→Prop} (I:Inv X pins σ H s) (hg:Gl X x) (hm:X.mg x=none) (hv:bootBuiltins x=some u) (h:Q u s)
  (hn:x≠"__name__":=by decide) (hd:(x == ("__debug__":Str))=false:=by decide):wpAny (model X.prog X.w) X.A (eval (.Name x pos) X.env) Q E s:=by
 obtain ⟨mb,h1,h2⟩:=I.mod.blt;exact Calls.Name_function_global I.ok.kind hg (Calls.loadGlobal_builtin (by rw [I.ok.glob];exact I.mod.glob.keeps I.bk) hm (by rw [I.ok.blt];exact h1.keeps I.bk) ((h2 x hn).trans hv) h) hd
theorem Zk4 {x:Str}{v:V}{u:Value}{pos:Pos} (hg:Gl X x) (hm:X.mg x=some u) (r:RelV v u) (hd:(x == ("__debug__":Str))=false:=by decide):PE X (.Name x pos) (tC v):=
 fun _ _ _ H _ I h=>jA I hg hm ⟨v,H,I,r,h⟩ hd
theorem jw {x:Str}{v:V}{u:Value}{pos:Pos} (hg:Gl X x) (hm:X.mg x=none) (hv:bootBuiltins x=some u) (r:RelV v u) (hn:x≠"__name__":=by decide) (hd:(x == ("__debug__":Str))=false:=by decide):PE X (.Name x pos) (tC v):=
 fun _ _ _ H _ I h=>Vi I hg hm hv ⟨v,H,I,r,h⟩ hn hd
variable {a b:Expr}{ta tb:TE}{pos:Pos}
def PC (X:Cx) (op:CmpOp) (a b:Expr) (t:TE):Prop:=
 ∀ (pins:List (Addr×Obj)) (s:Shared) (σ:St) (H:Hp) (Q:VK),Inv X pins σ H s→t σ H Q→
  wpAny (model X.prog X.w) X.A (eval a X.env) (fun v s₁=>wpAny (model X.prog X.w) X.A (eval b X.env) (fun u s₂=>wpAny (model X.prog X.w) X.A (compareOp op v u) (EP X pins σ Q) X.xe s₂) X.xe s₁) X.xe s
theorem Zgq (b:Expr) {op:CmpOp} (h:op≠.In) (h2:op≠.NotIn):behindInMarks op b=false:=by
 have e1:(op == CmpOp.In)=false:=by cases op<;>first | rfl | exact absurd rfl h
 have e2:(op == CmpOp.NotIn)=false:=by cases op<;>first | rfl | exact absurd rfl h2
 cases b<;>simp [behindInMarks,e1,e2]
def tB (t:TE):TT:=fun σ H Q=>t σ H fun x H1=>∃ c,x=.bl c∧Q c H1
theorem Zg1 {op:CmpOp}{t:TE} (h:PC X op a b t) (h1:behindInMarks op b=false:=by first | exact Zgq _ (by decide) (by decide) | rfl):PT X (.Compare a [op] [b] pos) (tB t):=by
 intro pins s σ H Q I hw;refine wpAny_isTrue_Compare1 (iD (h pins s σ H _ I hw) fun v s1 h1=>iD h1 fun u s2 h2=>iD h2 fun c s3 ⟨x,H1,I1,r1,q1⟩=>?_) h1;obtain ⟨d,rfl,q⟩:=q1;cases r1;exact wpAny_truthy_bool ⟨H1,I1,q⟩
theorem iG {e:Expr}{t:TE} (h:PE X e t) (he:∀ whole,isTrue e X.env whole=(do let v ← whole;standAt e.pos;holding [v] (truthy v)):=by intro _;rfl):PT X e (tB t):=by
 intro pins s σ H Q I hw;refine isTrue_plain (iD (h pins s σ H _ I hw) fun v s1 ⟨x,H1,I1,r1,q1⟩=>?_) (he _);obtain ⟨d,rfl,q⟩:=q1;cases r1;exact wpAny_truthy_bool ⟨H1,I1,q⟩
variable {tA tB':TT}{rest:List Expr}
def J4 (t u:TT):TT:=fun σ H Q=>t σ H fun c H1=>if c=true then u σ H1 Q else Q false H1
def tOr (t u:TT):TT:=fun σ H Q=>t σ H fun c H1=>if c=true then Q true H1 else u σ H1 Q
def Lw (t:TT):TT:=fun σ H Q=>t σ H fun c H1=>Q (!c) H1
theorem oZ (ha:PT X a tA):PW X (.BoolOp .And [a] pos) tA:=by
 intro wh pins s σ H Q I h;refine isTrue_and (iD (ha pins s σ H Q I h) fun c s1 e=>?_);cases c with
 | true=>exact isTrue_and_nil e
 | false=>exact e
theorem Um (ha:PT X a tA):PW X (.BoolOp .Or [a] pos) tA:=by
 intro wh pins s σ H Q I h;refine isTrue_or (iD (ha pins s σ H Q I h) fun c s1 e=>?_);cases c with
 | false=>exact isTrue_or_nil e
 | true=>exact e
theorem q8 (ha:PT X a tA) (hb:PW X (.BoolOp .And (b :: rest) pos) tB'):PW X (.BoolOp .And (a :: b :: rest) pos) (J4 tA tB'):=by
 intro wh pins s σ H Q I h;refine isTrue_and (iD (ha pins s σ H _ I h) fun c s1 ⟨H1,I1,q1⟩=>?_);cases c with
 | true=>exact hb wh pins s1 σ H1 Q I1 q1
 | false=>exact ⟨H1,I1,q1⟩
theorem RL (ha:PT X a tA) (hb:PW X (.BoolOp .Or (b :: rest) pos) tB'):PW X (.BoolOp .Or (a :: b :: rest) pos) (tOr tA tB'):=by
 intro wh pins s σ H Q I h;refine isTrue_or (iD (ha pins s σ H _ I h) fun c s1 ⟨H1,I1,q1⟩=>?_);cases c with
 | true=>exact ⟨H1,I1,q1⟩
 | false=>exact hb wh pins s1 σ H1 Q I1 q1
theorem rm (ha:PT X a tA):PT X (.UnaryOp .Not a pos) (Lw tA):=by
 intro pins s σ H Q I h;exact isTrue_not (ha pins s σ H (fun c H1=>Q (!c) H1) I h)
def Aw (ta tb:TE):TE:=fun σ H Q=>ta σ H fun x H1=>∃ c,x=.bl c∧if c=true then tb σ H1 Q else Q (.bl false) H1
def Zcb (ta:TE):TE:=fun σ H Q=>ta σ H fun x H1=>∃ c,x=.bl c∧Q (.bl (!c)) H1
theorem Cg {op}{t:TE} (h:PE X a t):PE X (.BoolOp op [a] pos) t:=fun pins s σ H Q I hw=>BoolOp_one (h pins s σ H Q I hw)
theorem xj (ha:PE X a ta) (hb:PE X (.BoolOp .And (b :: rest) pos) tb):PE X (.BoolOp .And (a :: b :: rest) pos) (Aw ta tb):=by
 intro pins s σ H Q I h;refine BoolOp_and (iD (ha pins s σ H _ I h) fun v s1 ⟨x,H1,I1,r1,q1⟩=>?_);obtain ⟨c,rfl,q1⟩:=q1;cases r1;refine wpAny_truthy_bool ?_;cases c with
 | true=>exact hb pins s1 σ H1 Q I1 q1
 | false=>exact ⟨.bl false,H1,I1,rfl,q1⟩
theorem Zab (ha:PE X a ta):PE X (.UnaryOp .Not a pos) (Zcb ta):=by
 intro pins s σ H Q I h;refine UnaryOp_ (iD (ha pins s σ H _ I h) fun v s1 ⟨x,H1,I1,r1,q1⟩=>?_);obtain ⟨c,rfl,q1⟩:=q1;cases r1;exact not_of (wpAny_truthy_bool ⟨.bl (!c),H1,I1,rfl,q1⟩)
def tIf (t:TT) (ta tb:TE):TE:=fun σ H Q=>t σ H fun c H1=>if c=true then ta σ H1 Q else tb σ H1 Q
theorem Xz {c:Expr} (hc:PT X c tA) (ha:PE X a ta) (hb:PE X b tb):PE X (.IfExp c a b pos) (tIf tA ta tb):=by
 intro pins s σ H Q I h;refine wpAny_IfExp (iD (hc pins s σ H _ I h) fun d s1 ⟨H1,I1,q1⟩=>?_);cases d with
 | true=>exact ha pins s1 σ H1 Q I1 q1
 | false=>exact hb pins s1 σ H1 Q I1 q1
end
end L2
namespace L2
open PySem PySem.Spec PyProof.Rows
def cF (K:aG) (H:Hp) (a:Addr) (xs:List V):Prop:=
 Rd H a (.lst xs)∨
  ∃ (o:Obj) (its:Array Value) (n:Nat),K.lookup a=some o∧o.cls=.type "list"∧o.dict=none∧o.data=.seq its n∧its.size≤sizeLine∧Vals xs its.toList
def j4 (K:aG) (H:Hp) (a:Addr) (xs:List V):Prop:=
 Rd H a (.tup xs)∨
  ∃ (o:Obj) (its:Array Value) (n:Nat),K.lookup a=some o∧o.cls=.type "tuple"∧o.data=.seq its n∧its.size≤sizeLine∧Vals xs its.toList
def Zzi:Value→Option V
 | .none=>some .non
 | .bool b=>some (.bl b)
 | .int i _=>some (.int i)
 | .str x _=>some (.str x)
 | .bytes b _=>some (.byt b)
 | .float b _=>some (.flt b)
 | .ref a=>some (.ref a)
 | .type n=>some (.ty n)
 | _=>none
theorem RelV.abs {x:V}{u:Value} (r:RelV x u):Zzi u=some x:=by
 cases x with
 | non=>cases r;rfl
 | bl _=>cases r;rfl
 | int _=>obtain ⟨t,rfl⟩:=r;rfl
 | str _=>obtain ⟨t,rfl⟩:=r;rfl
 | byt _=>obtain ⟨t,rfl⟩:=r;rfl
 | flt _=>obtain ⟨t,rfl⟩:=r;rfl
 | ref _=>cases r;rfl
 | ty _=>cases r;rfl
theorem RelV.inj {x y:V}{u:Value} (r:RelV x u) (q:RelV y u):x=y:=Option.some.inj (r.abs.symm.trans q.abs)
theorem Vals.inj:∀ {xs ys:List V}{us:List Value},Vals xs us→Vals ys us→xs=ys
 | _,_,_,.nil,.nil=>rfl
 | _,_,_,.cons r t,.cons r' t'=>by rw [r.inj r',Vals.inj t t']
section
variable {X:Cx}{pins:List (Addr×Obj)}{σ:St}{H:Hp}{s:Shared}{a:Addr}{xs ys:List V}
theorem cF.of {K:aG} (h:H a=some (.lst xs)):cF K H a xs:=.inl (.inl h)
theorem j4.of {K:aG} (h:H a=some (.tup xs)):j4 K H a xs:=.inl (.inl h)
theorem Inv.list (I:Inv X pins σ H s) (h:cF X.K H a xs):∃ its:List Value,Vals xs its∧PlainL s.heap a its.toArray∧xs.length≤sizeLine:=by
 rcases h with h | ⟨o,its,n,hk,hc,hd,hs,hz,r⟩
 ·obtain ⟨z,its,n,r,e⟩:=h.ok I.hok;exact ⟨its,r,⟨_,n,e,rfl,rfl,rfl⟩,z⟩
 ·refine ⟨its.toList,r,⟨o,n,I.ux a o hk,hc,hd,by simpa using hs⟩,?_⟩;have e:=r.length;simp only [Array.length_toList] at e;omega
theorem Inv.tuple (I:Inv X pins σ H s) (h:j4 X.K H a xs):∃ its:List Value,Vals xs its∧IsTup s.heap a its.toArray∧xs.length≤sizeLine:=by
 rcases h with h | ⟨o,its,n,hk,hc,hs,hz,r⟩
 ·obtain ⟨z,its,r,p⟩:=h.ok I.hok;exact ⟨its,r,p,z⟩
 ·refine ⟨its.toList,r,⟨o,I.ux a o hk,hc,n,by simpa using hs⟩,?_⟩;have e:=r.length;simp only [Array.length_toList] at e;omega
theorem Inv.Zhc (I:Inv X pins σ H s) (h:cF X.K H a xs) (h':cF X.K H a ys):xs=ys:=by
 obtain ⟨its,r,⟨o,n,e,_,_,d⟩,_⟩:=I.list h;obtain ⟨its',r',⟨o',n',e',_,_,d'⟩,_⟩:=I.list h';rw [e] at e';cases e';rw [d] at d'
 injection d' with d1 _
 have:its=its':=by simpa using congrArg Array.toList d1
 subst this;exact r.inj r'
end
abbrev Cx.wish (X:Cx) (E:Value→Shared→Prop):Cx:={ X with xe:=E }
abbrev Cx.nox (X:Cx):Cx:=X.wish fun _ _=>False
theorem Cx.Ok.wish {X:Cx} (ok:X.Ok) (E:Value→Shared→Prop):(X.wish E).Ok:=
 ⟨ok.mod,ok.kind,ok.glob,ok.blt,ok.above,ok.inj,ok.has,ok.cab,ok.hd,ok.frames,ok.stk,ok.exf,ok.bs,ok.bsz,ok.Qa,ok.YG,ok.vR,ok.frf⟩
theorem Cx.Ok.yt {X:Cx}{E:Value→Shared→Prop} (ok:(X.wish E).Ok):X.Ok:=
 ⟨ok.mod,ok.kind,ok.glob,ok.blt,ok.above,ok.inj,ok.has,ok.cab,ok.hd,ok.frames,ok.stk,ok.exf,ok.bs,ok.bsz,ok.Qa,ok.YG,ok.vR,ok.frf⟩
section
variable {X:Cx}{pins:List (Addr×Obj)}{σ:St}{H:Hp}{s:Shared}{E:Value→Shared→Prop}
theorem Inv.wish (I:Inv X pins σ H s) (E:Value→Shared→Prop):Inv (X.wish E) pins σ H s:=⟨I.ok.wish E,I.os,I.bare,I.base,I.loc,I.cell,I.free,I.qL,I.pin,I.hok,I.len⟩
theorem Inv.yt (I:Inv (X.wish E) pins σ H s):Inv X pins σ H s:=⟨I.ok.yt,I.os,I.bare,I.base,I.loc,I.cell,I.free,I.qL,I.pin,I.hok,I.len⟩
theorem SP.yt {D:Ends}{f:Flow}{s':Shared} (h:SP (X.wish E) pins D f s'):SP X pins D f s':=by
 cases f with
 | next=>obtain ⟨σ',H',I,q⟩:=h;exact ⟨σ',H',I.yt,q⟩
 | brk=>obtain ⟨σ',H',I,q⟩:=h;exact ⟨σ',H',I.yt,q⟩
 | cont=>obtain ⟨σ',H',I,q⟩:=h;exact ⟨σ',H',I.yt,q⟩
 | ret u=>obtain ⟨v,σ',H',I,r,q⟩:=h;exact ⟨v,σ',H',I.yt,r,q⟩
theorem SQ.nox {st:List Stmt}{t:TS} (h:SQ X.nox st t):SQ X st t:=fun pins s σ H D I hw=>
 wpAny_mono (h pins s σ H D (I.wish _) hw) (fun _ _ q=>q.yt) fun _ _ z=>False.elim z
end
section
variable {X:Cx}{st:Stmt}{rest:List Stmt}{t u:TS}{e:Expr}{te:TE}{pos:Pos}
def bT:TS:=fun D σ H=>D.nx σ H
def aK (t u:TS):TS:=fun D σ H=>t { D with nx:=u D } σ H
theorem aQ:SQ X [] bT:=fun _ _ σ H _ I h=>wpAny_execs_nil ⟨σ,H,I,h⟩
theorem ao (h1:PS X st t) (h2:SQ X rest u):SQ X (st :: rest) (aK t u):=by
 intro pins s σ H D I h;refine wpAny_execs_cons (iD (h1 pins s σ H { D with nx:=u D } I h) fun f s1 q=>?_);cases f with
 | next=>
  obtain ⟨σ',H',I',q⟩:=q;exact h2 pins s1 σ' H' D I' q
 | ret v=>exact q
 | brk=>exact q
 | cont=>exact q
theorem aC (h1:PS X st t):SQ X [st] t:=by
 intro pins s σ H D I h;refine wpAny_execs_cons (iD (h1 pins s σ H D I h) fun f s1 q=>?_);cases f with
 | next=>exact wpAny_execs_nil q
 | ret v=>exact q
 | brk=>exact q
 | cont=>exact q
theorem Inv.quiet {pins:List (Addr×Obj)}{σ:St}{H:Hp}{s:Shared} (I:Inv X pins σ H s):interactive X.env=false:=by simp [interactive,I.ok.kind]
def rH (te:TE):TS:=fun D σ H=>te σ H fun _ H1=>D.nx σ H1
theorem mK (he:PE X e te) (hs:swapsWith e none pos.line X.env=pure false:=by rfl):PS X (.Expr e pos) (rH te):=by
 intro pins s σ H D I h;exact wpAny_Expr_any (iD (he pins s σ H _ I h) fun v s1 ⟨x,H1,I1,r1,q1⟩=>⟨σ,H1,I1,q1⟩) I.quiet hs
def bI (te:TE):TS:=fun D σ H=>te σ H D.rt
theorem aM (he:PE X e te):PS X (.Return (some e) pos) (bI te):=by
 intro pins s σ H D I h;exact wpAny_Return_some (iD (he pins s σ H _ I h) fun v s1 ⟨x,H1,I1,r1,q1⟩=>⟨x,σ,H1,I1,r1,q1⟩)
def cZ (c:TT) (t u:TS):TS:=fun D σ H=>c σ H fun b H1=>if b=true then t D σ H1 else u D σ H1
theorem bQ {c:Expr}{a b:List Stmt}{tc:TT} (hc:PT X c tc) (ha:SQ X a t) (hb:SQ X b u):PS X (.If c a b pos) (cZ tc t u):=by
 intro pins s σ H D I h;refine wpAny_If (iD (hc pins s σ H _ I h) fun d s1 ⟨H1,I1,q1⟩=>?_);cases d with
 | true=>exact ha pins s1 σ H1 D I1 q1
 | false=>exact hb pins s1 σ H1 D I1 q1
end
abbrev TG:=V→St→Hp→(St→Hp→Prop)→Prop
abbrev TGs:=List V→St→Hp→(St→Hp→Prop)→Prop
def PG (X:Cx) (target:Expr) (t:TG):Prop:=
 ∀ (pins:List (Addr×Obj)) (s:Shared) (σ:St) (H:Hp) (v:V) (u:Value) (Q:St→Hp→Prop),Inv X pins σ H s→RelV v u→t v σ H Q→
  wpAny (model X.prog X.w) X.A (assign target X.env u) (fun _ s'=>∃ σ' H',Inv X pins σ' H' s'∧Q σ' H') X.xe s
def PGs (X:Cx) (ts:List Expr) (t:TGs):Prop:=
 ∀ (pins:List (Addr×Obj)) (s:Shared) (σ:St) (H:Hp) (vs:List V) (us:List Value) (Q:St→Hp→Prop),Inv X pins σ H s→Vals vs us→t vs σ H Q→
  wpAny (model X.prog X.w) X.A (assignInOrder ((assignEach ts X.env).map (·.2)) us) (fun _ s'=>∃ σ' H',Inv X pins σ' H' s'∧Q σ' H') X.xe s
abbrev Zlw:=V→V→V→Hp→(Hp→Prop)→Prop
def Zrs (X:Cx) (t:Zlw):Prop:=
 ∀ (pins:List (Addr×Obj)) (s:Shared) (σ:St) (H:Hp) (o i v:V) (ov iv u:Value) (Q:Hp→Prop),Inv X pins σ H s→RelV o ov→RelV i iv→RelV v u→t o i v H Q→
  wpAny (model X.prog X.w) X.A (setItem ov iv u) (fun _ s'=>∃ H',Inv X pins σ H' s'∧Q H') X.xe s
section
variable {X:Cx}{pos:Pos}
def aO (i:Nat):TG:=fun v σ H Q=>Q (σ.set i (some v)) H
theorem kZ {i:Nat}{x:Str} (hN:X.N.Nodup) (hi:X.N[i]? =some x) (hx:Loc X.env.scope x) (hf:X.fn x=true∨X.env.scope.names.lookup x=some .local:=by first | exact .inl rfl | exact .inr rfl | assumption):PG X (.Name x pos) (aO i):=by
 intro pins s σ H v u Q I r h;exact wpAny_assign_Name (Xi I hN hi hx r (fun s' I'=>⟨_,H,I',h⟩) hf)
def Zr8:TGs:=fun vs σ H Q=>vs=[]∧Q σ H
def Zi2 (t:TG) (u:TGs):TGs:=fun vs σ H Q=>∃ v r,vs=v :: r∧t v σ H fun σ' H'=>u r σ' H' Q
theorem Zjx:PGs X [] Zr8:=by
 intro pins s σ H vs us Q I r h;obtain ⟨e,h⟩:=h;subst e;cases r;exact assignInOrder_nil ⟨σ,H,I,h⟩
theorem Xy {e:Expr}{es:List Expr}{t:TG}{u:TGs} (h1:PG X e t) (h2:PGs X es u)
  (hs:(assignEach (e :: es) X.env).map (·.2)=assign e X.env :: (assignEach es X.env).map (·.2):=by rfl):PGs X (e :: es) (Zi2 t u):=by
 intro pins s σ H vs us Q I r h;obtain ⟨v,vr,e1,h⟩:=h;subst e1;cases r with
 | cons r rr=>
  rw [hs];refine assignInOrder_cons (iD (h1 pins s σ H _ _ _ I r h) fun _ s1 ⟨σ1,H1,I1,q1⟩=>?_);exact h2 pins s1 σ1 H1 _ _ Q I1 rr q1
def Zr7 (K:aG) (n:Nat) (t:TGs):TG:=fun v σ H Q=>∃ a xs,v=.ref a∧j4 K H a xs∧xs.length=n∧t xs σ H Q
theorem Zmy {es:List Expr}{k:Nat}{t:TGs}{n:Nat} (hc:X.calm=true) (h:PGs X es t)
  (hn:(assignEach es X.env).length=n:=by rfl) (hst:(assignEach es X.env).findIdx? (·.1)=none:=by rfl):PG X (.Tuple es k pos) (Zr7 X.K n t):=by
 intro pins s σ H v u Q I r hw;obtain ⟨a,xs,e1,hq,hl,hw⟩:=hw;subst e1;cases r;obtain ⟨its,rv,ht,hz⟩:=I.tuple hq;refine assign_Tuple_tuple (I.ok.hd hc) ht (by simp [hn,← hl,rv.length]) hst fun h' hx=>?_;have I1:Inv X pins σ H { s with heap:=h' }:=I.kept (t':=s.toks) fun b o e=>hx b o (Nat.ne_of_lt (Heap.lt_size e)) e;exact h pins _ σ H xs _ Q I1 (by simpa using rv) hw
def yl (to ti:TE) (t:Zlw):TG:=fun v σ H Q=>to σ H fun o H1=>ti σ H1 fun i H2=>t o i v H2 fun H3=>Q σ H3
theorem m5 {o i:Expr}{to ti:TE}{t:Zlw} (ho:PE X o to) (hi:PE X i ti) (hs:Zrs X t)
  (ha:∀ v,assign (.Subscript o i pos) X.env v=(do
   let ov ← holding [v] (eval o X.env)
   let iv ← holding [v,ov] (eval i X.env)
   standAt pos
   holding [v,ov,iv] (setItem ov iv v)
   release [v,ov,iv] []):=by intro _;rfl):PG X (.Subscript o i pos) (yl to ti t):=by
 intro pins s σ H v u Q I r h;rw [ha];refine wpAny_bind (wpAny_holding (iD (ho pins s σ H _ I h) fun ov s1 ⟨x,H1,I1,r1,q1⟩=>?_));refine wpAny_bind (wpAny_holding (iD (hi pins s1 σ H1 _ I1 q1) fun iv s2 ⟨y,H2,I2,r2,q2⟩=>?_));refine wpAny_bind (wpAny_standAt (wpAny_bind (wpAny_holding (iD (hs pins s2 σ H2 x y v ov iv u _ I2 r1 r2 r q2) fun _ s3 ⟨H3,I3,q3⟩=>?_))));exact wpAny_release ⟨σ,H3,I3,q3⟩
def bB (te:TE) (g:TG):TS:=fun D σ H=>te σ H fun x H1=>g x σ H1 D.nx
theorem mZ {tg e:Expr}{te:TE}{g:TG} (he:PE X e te) (hg:PG X tg g) (hs:swapsWithSole [tg] e pos.line X.env=pure false:=by rfl) (hw:swappedStores [tg] e X.env=pure none:=by rfl)
  (h1:(assignEach [tg] X.env).map (·.2)=[assign tg X.env]:=by rfl):PS X (.Assign [tg] e pos) (bB te g):=by
 intro pins s σ H D I h;refine wpAny_Assign_stores (iD (he pins s σ H _ I h) fun v s1 ⟨x,H1,I1,r1,q1⟩=>?_) hs hw;rw [h1];exact iD (hg pins s1 σ H1 x v _ I1 r1 q1) fun _ s2 q=>q
theorem Uq {i:Nat}{x:Str}{e:Expr}{te:TE}{pos':Pos} (hN:X.N.Nodup) (hi:X.N[i]? =some x) (hx:Loc X.env.scope x) (he:PE X e te) (hs:swapsWith e (some (.Name x pos')) pos.line X.env=pure false:=by rfl) (hf:X.fn x=true∨X.env.scope.names.lookup x=some .local:=by first | exact .inl rfl | exact .inr rfl | assumption):
  PS X (.Assign [.Name x pos'] e pos) (bB te (aO i)):=by
 intro pins s σ H D I h;refine wpAny_Assign_Name (iD (he pins s σ H _ I h) fun v s1 ⟨y,H1,I1,r1,q1⟩=>?_) hs;exact Xi I1 hN hi hx r1 (fun s2 I2=>⟨_,H1,I2,q1⟩) hf
end
section
variable {X:Cx}{pos:Pos}
end
structure It where
 go:Nat→Hp→Prop
 yld:Nat→Hp→V→Hp→Prop
 stop:Nat→Hp→Prop
def vX (X:Cx) (pins:List (Addr×Obj)) (H:Hp) (b:Addr):Prop:=
 H b=none∧b≠X.env.locals∧b∉X.fs∧(b∈X.ex∨X.s₀.heap.objs.size≤b)∧(∀ x c,X.env.cells.lookup x=some c→c≠b)∧∀ p∈X.pn ++ pins,p.1≠b
theorem Inv.Zi5 {X:Cx}{pins:List (Addr×Obj)}{σ:St}{H H':Hp}{s:Shared}{b:Addr} (I:Inv X pins σ H s) (hb:s.heap.objs.size≤b) (hn:H' b=none):vX X pins H' b:=by
 refine ⟨hn,Nat.ne_of_gt (Nat.lt_of_lt_of_le I.lt hb),I.Zsh hb,.inr (Nat.le_trans I.sz hb),fun x c e z=>?_,fun p hp z=>?_⟩
 ·obtain ⟨v,q⟩:=I.cell x c e;exact absurd (Nat.lt_of_lt_of_le q.lt (by rw [z];exact hb)) (Nat.lt_irrefl _)
 ·exact absurd (Nat.lt_of_lt_of_le (Heap.lt_size (I.pin p hp).1) (by rw [z];exact hb)) (Nat.lt_irrefl _)
structure Turn (P:Program) (w:World) (K:aG) (tg:Expr) (J:It) (fp:List Addr) (it:Addr) (tn:Nat→Heap→Prop):Prop where
  mem:it∈fp
  obj:∀ i h,tn i h→∀ b∈fp,∃ o,h.get? b=some o∧∀ v,o.data≠.cell v
  keep:∀ i h h',tn i h→(∀ b∈fp,∀ o,h.get? b=some o→h'.get? b=some o)→tn i h'
  item:∀ (X:Cx),X.prog=P→X.w=w→X.K=K→X.calm=true→∀ (i:Nat) (pins:List (Addr×Obj)) (s:Shared) (σ:St) (H:Hp) (E:Value→Shared→Prop),Inv X pins σ H s→(∀ b∈fp,vX X pins H b)→tn i s.heap→J.go i H→
    wpAny (model P w) X.A (pyNext (.ref it)) (fun r s1=>∃ u,r=some u∧
      wpAny (model P w) X.A (letOwnedTupleGo tg (.ref it) u) (fun _ s2=>∃ x H',Inv X pins σ H' s2∧RelV x u∧J.yld i H x H'∧tn (i + 1) s2.heap∧∀ b∈fp,H' b=none) E s1) E s
  done:∀ (X:Cx),X.prog=P→X.w=w→X.K=K→X.calm=true→∀ (i:Nat) (pins:List (Addr×Obj)) (s:Shared) (σ:St) (H:Hp) (E:Value→Shared→Prop),Inv X pins σ H s→(∀ b∈fp,vX X pins H b)→tn i s.heap→J.stop i H→
    wpAny (model P w) X.A (pyNext (.ref it)) (fun r s1=>r=none∧Inv X pins σ H s1) E s
  self:∀ (A:Around) (i:Nat) (s:Shared) (Q:Value→Shared→Prop) (E:Value→Shared→Prop),tn i s.heap→Q (.ref it) s→wpAny (model P w) A (pyIter (.ref it)) Q E s
abbrev TI:=St→Hp→(It→Hp→Prop)→Prop
def PIE (X:Cx) (pins:List (Addr×Obj)) (σ:St) (tg:Expr) (R:It→Hp→Prop) (itv:Value) (s2:Shared):Prop:=
 ∃ (it:Addr) (fp:List Addr) (tn:Nat→Heap→Prop) (J:It) (H':Hp),itv=.ref it∧Inv X pins σ H' s2∧Turn X.prog X.w X.K tg J fp it tn∧tn 0 s2.heap∧(∀ b∈fp,vX X pins H' b)∧R J H'
def PI (X:Cx) (tg iter:Expr) (wi:TI):Prop:=
 ∀ (pins:List (Addr×Obj)) (s:Shared) (σ:St) (H:Hp) (R:It→Hp→Prop),Inv X pins σ H s→wi σ H R→
  wpAny (model X.prog X.w) X.A (eval iter X.env) (fun v s1=>wpAny (model X.prog X.w) X.A (pyIter v) (PIE X pins σ tg R) X.xe s1) X.xe s
theorem Zhy {M:Model}{A:Around}{E:Value→Shared→Prop}{s:Shared}{tg:Expr}{it:Addr}{u:Value}{o:Obj}{n:String}{vs:Array Value}{Q:Unit→Shared→Prop} (ho:s.heap.get? it=some o) (hc:o.cls=.type n) (hd:o.data=.fields vs)
    (hn:["enumerate","zip","dict_itemiterator","dict_reverseitemiterator","odict_iterator","itertools.zip_longest","itertools.pairwise"].contains n=false) (hQ:Q () s):wpAny M A (letOwnedTupleGo tg (.ref it) u) Q E s:=by
  unfold letOwnedTupleGo;cases tg<;>first
    | exact wpAny_pure hQ
    | (cases u<;>first
        | exact wpAny_pure hQ
        | (refine wpAny_bind (wpAny_load ho ?_)
           rw [hc,hd];show wpAny M A (if (["enumerate","zip","dict_itemiterator","dict_reverseitemiterator","odict_iterator","itertools.zip_longest","itertools.pairwise"].contains n && vs[0]? == some (rawInt _))=true then _ else _) Q E s;rw [if_neg (by intro h;rw [hn,Bool.false_and] at h;cases h)];exact wpAny_pure hQ))
def Itl (K:aG) (a:Addr):It:=
 ⟨fun i H=>∃ xs x,cF K H a xs∧xs[i]? =some x,fun i H x H'=>H'=H∧∀ xs,cF K H a xs→xs[i]? =some x,fun i H=>∃ xs,cF K H a xs∧xs.length≤i⟩
def Itr (lo:Int) (n:Nat):It:=⟨fun i _=>i < n,fun i H x H'=>H'=H∧x=.int (lo + i),fun i _=>n≤i⟩
theorem Zdc {P:Program}{w:World}{K:aG}{tg:Expr} (a it:Addr):Turn P w K tg (Itl K a) [it] it (fun i h=>h.IsListIter it a i) where
  mem:=by simp
  obj:=fun i h st b hb=>by
    have e:b=it:=by simpa using hb
    subst e;obtain ⟨o,e,c,d⟩:=st;exact ⟨o,e,fun v z=>by rw [d] at z;cases z⟩
  keep:=fun i h h' st k=>st.at fun o e=>k it (by simp) o e
  item:=by
    intro X hP hw hK hc i pins s σ H E I hf st hg;subst hP hw hK;obtain ⟨xs,x,hq,hx⟩:=hg;obtain ⟨its,rv,p,hz⟩:=I.list hq;obtain ⟨u,hu,ru⟩:=rv.get hx;obtain ⟨f0,f1,f2,f3,f4,f5⟩:=hf it (by simp);refine wpAny_pyNext_list_item st p.isList (x:=u) (by simpa using hu) fun h' st' sb=>?_;have I1:Inv X pins σ H { s with heap:=h' }:=I.turned (t':=s.toks) (fun b o hb e=>(sb.2 b hb).trans e) f0 f1 f3 f4 f5;obtain ⟨o,e,c,d⟩:=id st';exact ⟨u,rfl,Zhy (s:={ s with heap:=h' }) e c d (by decide) ⟨x,H,I1,ru,⟨rfl,fun ys hy=>by rw [I.Zhc hy hq];exact hx⟩,st',fun b hb=>(hf b hb).1⟩⟩
  done:=by
    intro X hP hw hK hc i pins s σ H E I hf st hg;subst hP hw hK;obtain ⟨xs,hq,hx⟩:=hg;obtain ⟨its,rv,p,hz⟩:=I.list hq;obtain ⟨f0,f1,f2,f3,f4,f5⟩:=hf it (by simp);have hl:=rv.length;exact wpAny_pyNext_list_end (I.ok.hd hc) st p.isList (by simp;omega) fun h' eb=>⟨rfl,I.turned (t':=s.toks) (fun b o hb e=>eb b o hb e) f0 f1 f3 f4 f5⟩
  self:=fun _ _ _ _ _ st h=>wpAny_pyIter_listiter st h
theorem Zw {P:Program}{w:World}{K:aG}{tg:Expr} (it:Addr) (lo:Int) (n:Nat):Turn P w K tg (Itr lo n) [it] it (fun i h=>IsRangeIter h it (lo + (i:Nat) * 1) ((n:Int) - (i:Nat)) 1) where
  mem:=by simp
  obj:=fun i h st b hb=>by
    have e:b=it:=by simpa using hb
    subst e;exact ⟨_,st,fun v z=>by
      have z':Data.fields _=Data.cell v:=z;cases z'⟩
  keep:=fun i h h' st k=>k it (by simp) _ st
  item:=by
    intro X hP hw hK hc i pins s σ H E I hf st hg;subst hP hw hK;obtain ⟨f0,f1,f2,f3,f4,f5⟩:=hf it (by simp);have W:=Walks.range (prog:=X.prog) (w:=X.w) (I.ok.hd hc) it lo 1 n;refine W.item i s _ _ hg st fun v h' tk hv st' kk=>?_;obtain ⟨t,rfl⟩:=hv;have I1:Inv X pins σ H { s with heap:=h',toks:=tk }:=I.turned (fun b o hb e=>kk b o (by simpa using hb) e) f0 f1 f3 f4 f5;refine ⟨_,rfl,Zhy (s:={ s with heap:=h',toks:=tk }) (n:="range_iterator") st' rfl rfl (by decide) ⟨.int (lo + i),H,I1,⟨t,?_⟩,⟨rfl,rfl⟩,st',fun b hb=>(hf b hb).1⟩⟩;rw [Int.mul_one]
  done:=by
    intro X hP hw hK hc i pins s σ H E I hf st hg;subst hP hw hK;obtain ⟨f0,f1,f2,f3,f4,f5⟩:=hf it (by simp);exact wpAny_pyNext_range_end (I.ok.hd hc) st (by have:n≤i:=hg;omega) fun h' eb=>⟨rfl,I.turned (t':=s.toks) (fun b o hb e=>eb b o hb e) f0 f1 f3 f4 f5⟩
  self:=fun _ _ _ _ _ st h=>wpAny_pyIter_rangeiter st h
end L2
namespace L2
open PySem PySem.Spec PyProof.Rows
section
variable {X:Cx}{tg:Expr}
def vP (K:aG) (tl:TE):TI:=fun σ H R=>tl σ H fun x H1=>∃ a,x=.ref a∧(∃ xs,cF K H1 a xs)∧R (Itl K a) H1
theorem o5 {l:Expr}{tl:TE} (hl:PE X l tl):PI X tg l (vP X.K tl):=by
 intro pins s σ H R I h;refine iD (hl pins s σ H _ I h) fun v s1 ⟨x,H1,I1,r1,q1⟩=>?_;obtain ⟨a,e,⟨xs,hq⟩,q⟩:=q1;subst e;cases r1;obtain ⟨its,rv,p,hz⟩:=I1.list hq;refine wpAny_pyIter_list p.isList ?_;refine ⟨s1.heap.objs.size,[s1.heap.objs.size],_,_,H1,rfl,I1.kept (t':=s1.toks) fun b o e=>Heap.get?_push_of_some _ e,Zdc a _,⟨_,Heap.get?_push_size _ rfl,rfl,rfl⟩,fun b hb=>?_,q⟩;have e:b=s1.heap.objs.size:=by simpa using hb
 subst e;exact I1.Zi5 (Nat.le_refl _) (I1.hok.fresh (Nat.le_refl _))
theorem Zfw {pins:List (Addr×Obj)}{σ:St}{H:Hp}{s:Shared}{R:It→Hp→Prop}{E:Value→Shared→Prop}{lo hi:Int}{t u v:Tok}{tk:Nat} (I:Inv X pins σ H s) (h1:-(2 ^ 62)≤lo) (h2:lo < 2 ^ 62) (h3:-(2 ^ 62)≤hi) (h4:hi < 2 ^ 62)
  (q:R (Itr lo (hi - lo).toNat) H):wpAny (model X.prog X.w) X.A (pyIter (.ref s.heap.objs.size)) (PIE X pins σ tg R) E { s with heap:=s.heap.push { cls:=.type "range",data:=.fields #[.int lo t,.int hi u,.int 1 v] },toks:=tk }:=by
 refine wpAny_pyIter_range (IsRange.new ..) (small_one h1 h2 h3 h4) ?_;have I1:Inv X pins σ H { s with heap:=s.heap.push { cls:=.type "range",data:=.fields #[.int lo t,.int hi u,.int 1 v] },toks:=tk }:=I.kept fun b o e=>Heap.get?_push_of_some _ e;refine ⟨(s.heap.push { cls:=.type "range",data:=.fields #[.int lo t,.int hi u,.int 1 v] }).objs.size,[(s.heap.push { cls:=.type "range",data:=.fields #[.int lo t,.int hi u,.int 1 v] }).objs.size],_,_,H,rfl,
  I1.kept (t':=tk) fun b o e=>Heap.get?_push_of_some _ e,Zw _ lo (hi - lo).toNat,?_,fun b hb=>?_,q⟩
 ·have e1:lo + ((0:Nat):Int) * 1=lo:=by simp
  have e2:(((hi - lo).toNat:Nat):Int) - ((0:Nat):Int)=Builtin.Range.rangeSize lo hi 1:=by rw [rangeSize_one];split<;>omega
  show IsRangeIter _ _ (lo + ((0:Nat):Int) * 1) ((((hi - lo).toNat:Nat):Int) - ((0:Nat):Int)) 1;rw [e1,e2];exact Heap.get?_push_size _ rfl
 ·have e:b=(s.heap.push { cls:=.type "range",data:=.fields #[.int lo t,.int hi u,.int 1 v] }).objs.size:=by simpa using hb
  subst e;exact I1.Zi5 (Nat.le_refl _) (I1.hok.fresh (Nat.le_refl _))
def Es (ta:TA):TI:=fun σ H R=>ta σ H fun vs H1=>∃ j:Int,vs=[.int j]∧-(2 ^ 62)≤j∧j < 2 ^ 62∧R (Itr 0 j.toNat) H1
theorem oH {a:Expr}{ta:TA}{p pos:Pos} (hg:Gl X "range") (hm:X.mg "range"=none) (ha:PA X [a] ta) (hs:starEach [a] X.env=[(false,eval a X.env)]:=by rfl):PI X tg (.Call (.Name "range" p) [a] [] pos) (Es ta):=by
 intro pins s σ H R I h;refine Call_ (Vi I hg hm boot_range (PyProof.Rows.callWith_type1 (iD (ha pos pins s σ H _ I h) fun us s1 ⟨vs,H1,I1,r1,q1⟩=>?_) hs rfl));obtain ⟨j,e,q1,q2,q⟩:=q1;subst e;cases r1 with
 | cons r rr=>
  cases rr;obtain ⟨t,rfl⟩:=r;exact call_range_1 (Zfw I1 (by omega) (by omega) q1 q2 (by simpa using q))
def FT (wi:TI) (g:TG) (tb:TS):TS:=fun D σ H=>wi σ H fun J H1=>∃ W:Nat→Nat→St→Hp→Prop,(∃ m,W 0 m σ H1)∧∀ i m σ H,W i m σ H→
 (J.stop i H∧D.nx σ H)∨(J.go i H∧∃ N:St→Hp→Prop,(∀ σ' H',N σ' H'→∃ m',m' < m∧W (i + 1) m' σ' H')∧∀ x H',J.yld i H x H'→g x σ H' fun σ2 H2=>tb { D with nx:=N,ct:=N,bk:=D.nx } σ2 H2)
def u6 (fp:List Addr) (h:Heap):List (Addr×Obj):=fp.filterMap fun b=>(h.get? b).map fun o=>(b,o)
theorem lY {fp:List Addr}{h:Heap}{b:Addr}{o:Obj} (hb:b∈fp) (e:h.get? b=some o):(b,o)∈u6 fp h:=List.mem_filterMap.mpr ⟨b,hb,by rw [e];rfl⟩
theorem HN {fp:List Addr}{h:Heap}{p:Addr×Obj} (hp:p∈u6 fp h):p.1∈fp∧h.get? p.1=some p.2:=by
 obtain ⟨b,hb,e⟩:=List.mem_filterMap.mp hp;cases q:h.get? b with
 | none=>rw [q] at e;cases e
 | some o=>
  rw [q] at e;have e':(b,o)=p:=Option.some.inj e;subst e';exact ⟨hb,q⟩
theorem Inv.pinned {pins:List (Addr×Obj)}{σ:St}{H:Hp}{s:Shared}{fp:List Addr} (I:Inv X pins σ H s) (hf:∀ b∈fp,vX X pins H b) (ho:∀ b∈fp,∃ o,s.heap.get? b=some o∧∀ v,o.data≠.cell v):Inv X (pins ++ u6 fp s.heap) σ H s:=
 I.uh fun p hp=>(List.mem_append.mp hp).elim (fun z=>I.pin p (List.mem_append_right _ z)) fun z=>by
  obtain ⟨hb,e⟩:=HN z;obtain ⟨f0,f1,f2,_⟩:=hf p.1 hb;obtain ⟨o,e',d⟩:=ho p.1 hb;rw [e] at e';cases e';exact ⟨e,f0,f1,f2,d⟩
theorem Inv.Lp {pins pl:List (Addr×Obj)}{σ:St}{H:Hp}{s:Shared} (I:Inv X (pins ++ pl) σ H s):Inv X pins σ H s:=I.uh fun p hp=>I.pin p (List.mem_append_right _ (List.mem_append_left _ hp))
theorem rz {iter:Expr}{body:List Stmt}{wi:TI}{g:TG}{tb:TS}{pos:Pos} (hp:PassesOwn (model X.prog X.w) X.A X.env X.xe) (hc:X.calm=true) (hi:PI X tg iter wi) (hg:PG X tg g) (hb:SQ X body tb)
  (hs:∀ x,foldedSetIterable iter X.env x=pure x:=by intro _;rfl):PS X (.For tg iter body [] pos) (FT wi g tb):=by
 intro pins s σ H D I h;refine wpAny_For (iD (hi pins s σ H _ I h) fun v s1 h1=>iD h1 fun itv s2 h2=>?_) hs;obtain ⟨it,fp,tn,J,H2,e,I2,T,st2,f2,W,⟨m0,w0⟩,turn⟩:=h2;subst e;have stat:∀ {H':Hp},(∀ b∈fp,H' b=none)→∀ b∈fp,vX X pins H' b:=fun hn b hb=>⟨hn b hb,(f2 b hb).2⟩;refine codeAny_forLoop_any (fun n s'=>∃ i σ' H',Inv X pins σ' H' s'∧tn i s'.heap∧(∀ b∈fp,H' b=none)∧W i n σ' H') ?_ m0 ⟨0,σ,H2,I2,st2,fun b hb=>(f2 b hb).1,w0⟩;rintro n s3 ⟨i,σ3,H3,I3,st3,fr3,w3⟩;rcases turn i n σ3 H3 w3 with ⟨stop,qn⟩ | ⟨go,N,hN,step⟩
 ·refine wpAny_passesOwn hp (iD (T.done X rfl rfl rfl hc i pins s3 σ3 H3 X.xe I3 (stat fr3) st3 stop) fun r s4 ⟨hr,I4⟩=>?_);subst hr;exact wpAny_execs_nil ⟨σ3,H3,I4,qn⟩
 ·refine wpAny_passesOwn hp (iD (T.item X rfl rfl rfl hc i pins s3 σ3 H3 X.xe I3 (stat fr3) st3 go) fun r s4 ⟨u,hr,h4⟩=>?_);subst hr;refine wpAny_passesOwn hp (iD h4 fun _ s5 ⟨x,H5,I5,r5,y5,Zn,fr5⟩=>?_);have I5':=I5.pinned (stat fr5) (T.obj _ _ Zn);refine wpAny_passesOwn hp (iD (hg _ s5 σ3 H5 x u _ I5' r5 (step x H5 y5)) fun _ s6 ⟨σ6,H6,I6,q6⟩=>?_);refine wpAny_passesOwn hp (iD (hb _ s6 σ6 H6 _ I6 q6) fun f s7 q7=>?_);have again:∀ {σ7:St}{H7:Hp},Inv X (pins ++ u6 fp s5.heap) σ7 H7 s7→N σ7 H7→∃ m,m < n∧∃ i σ' H',Inv X pins σ' H' s7∧tn i s7.heap∧(∀ b∈fp,H' b=none)∧W i m σ' H':=fun {σ7 H7} I7 n7=>by
   obtain ⟨m',hm,w7⟩:=hN σ7 H7 n7;refine ⟨m',hm,i + 1,σ7,H7,I7.Lp,T.keep _ _ _ Zn fun b hb o e=>(I7.pin (b,o) (List.mem_append_right _ (List.mem_append_right _ (lY hb e)))).1,fun b hb=>?_,w7⟩;obtain ⟨o,e,d⟩:=T.obj _ _ Zn b hb;exact (I7.pin (b,o) (List.mem_append_right _ (List.mem_append_right _ (lY hb e)))).2.1
  cases f with
  | next=>obtain ⟨σ7,H7,I7,n7⟩:=q7;exact again I7 n7
  | cont=>obtain ⟨σ7,H7,I7,n7⟩:=q7;exact again I7 n7
  | brk=>obtain ⟨σ7,H7,I7,q7⟩:=q7;exact ⟨σ7,H7,I7.Lp,q7⟩
  | ret v=>obtain ⟨x7,σ7,H7,I7,r7,q7⟩:=q7;exact ⟨x7,σ7,H7,I7.Lp,r7,q7⟩
end
theorem Zi6 {K:aG}{a:Addr}{xs:List V}{g:TG}{tb:TS}{D:Ends}{σ:St}{H:Hp} (Pv:Nat→St→Hp→Prop) (h0:Pv 0 σ H) (hl:∀ i σ H,i≤xs.length→Pv i σ H→cF K H a xs)
  (hs:∀ i x σ H,xs[i]? =some x→Pv i σ H→g x σ H fun σ2 H2=>tb { D with nx:=Pv (i + 1),ct:=Pv (i + 1),bk:=D.nx } σ2 H2) (hd:∀ σ H,Pv xs.length σ H→D.nx σ H):
  ∃ W:Nat→Nat→St→Hp→Prop,(∃ m,W 0 m σ H)∧∀ i m σ H,W i m σ H→
   ((Itl K a).stop i H∧D.nx σ H)∨((Itl K a).go i H∧∃ N:St→Hp→Prop,(∀ σ' H',N σ' H'→∃ m',m' < m∧W (i + 1) m' σ' H')∧∀ x H',(Itl K a).yld i H x H'→g x σ H' fun σ2 H2=>tb { D with nx:=N,ct:=N,bk:=D.nx } σ2 H2):=by
 refine ⟨fun i m σ H=>m=xs.length - i∧i≤xs.length∧Pv i σ H,⟨xs.length,by simp,Nat.zero_le _,h0⟩,?_⟩;rintro i m σ H ⟨rfl,hi,p⟩;have q:=hl i σ H hi p
 by_cases hlt:i < xs.length
 ·refine .inr ⟨⟨xs,xs[i],q,by simp [hlt]⟩,Pv (i + 1),fun σ' H' p'=>⟨xs.length - (i + 1),by omega,rfl,hlt,p'⟩,fun x H' y=>?_⟩;obtain ⟨e,y⟩:=y;subst e;exact hs i x σ _ (y xs q) p
 ·have e:i=xs.length:=by omega
  subst e;exact .inl ⟨⟨xs,q,Nat.le_refl _⟩,hd σ H p⟩
theorem Zf0 {lo:Int}{n:Nat}{g:TG}{tb:TS}{D:Ends}{σ:St}{H:Hp} (Pv:Nat→St→Hp→Prop) (h0:Pv 0 σ H)
  (hs:∀ i σ H,i < n→Pv i σ H→g (.int (lo + i)) σ H fun σ2 H2=>tb { D with nx:=Pv (i + 1),ct:=Pv (i + 1),bk:=D.nx } σ2 H2) (hd:∀ σ H,Pv n σ H→D.nx σ H):
  ∃ W:Nat→Nat→St→Hp→Prop,(∃ m,W 0 m σ H)∧∀ i m σ H,W i m σ H→
   ((Itr lo n).stop i H∧D.nx σ H)∨((Itr lo n).go i H∧∃ N:St→Hp→Prop,(∀ σ' H',N σ' H'→∃ m',m' < m∧W (i + 1) m' σ' H')∧∀ x H',(Itr lo n).yld i H x H'→g x σ H' fun σ2 H2=>tb { D with nx:=N,ct:=N,bk:=D.nx } σ2 H2):=by
 refine ⟨fun i m σ H=>m=n - i∧i≤n∧Pv i σ H,⟨n,by simp,Nat.zero_le _,h0⟩,?_⟩;rintro i m σ H ⟨rfl,hi,p⟩
 by_cases hlt:i < n
 ·refine .inr ⟨hlt,Pv (i + 1),fun σ' H' p'=>⟨n - (i + 1),by omega,rfl,hlt,p'⟩,fun x H' y=>?_⟩;obtain ⟨e,y⟩:=y;subst e y;exact hs i σ _ hlt p
 ·have e:i=n:=by omega
  subst e;exact .inl ⟨Nat.le_refl _,hd σ H p⟩
end L2
namespace L2
open PySem PySem.Spec PyProof.Rows
abbrev R2:=V→V→Hp→VK→Prop
def ym (X:Cx) (f:Value→Value→Sem Value) (r:R2):Prop:=
 ∀ (pins:List (Addr×Obj)) (s:Shared) (σ:St) (H:Hp) (x y:V) (v u:Value) (Q:VK),Inv X pins σ H s→RelV x v→RelV y u→r x y H Q→
  wpAny (model X.prog X.w) X.A (f v u) (EP X pins σ Q) X.xe s
def UnR (X:Cx) (f:Value→Sem Value) (r:V→Hp→VK→Prop):Prop:=
 ∀ (pins:List (Addr×Obj)) (s:Shared) (σ:St) (H:Hp) (x:V) (v:Value) (Q:VK),Inv X pins σ H s→RelV x v→r x H Q→
  wpAny (model X.prog X.w) X.A (f v) (EP X pins σ Q) X.xe s
def Ot (X:Cx) (f:Value) (r:List V→Hp→VK→Prop):Prop:=
 ∀ (pins:List (Addr×Obj)) (s:Shared) (σ:St) (H:Hp) (xs:List V) (us:List Value) (Q:VK),Inv X pins σ H s→Vals xs us→r xs H Q→
  wpAny (model X.prog X.w) X.A (call f us) (EP X pins σ Q) X.xe s
def aY (r:R2) (ta tb:TE):TE:=fun σ H Q=>ta σ H fun x H1=>tb σ H1 fun y H2=>r x y H2 Q
def tUn (r:V→Hp→VK→Prop) (ta:TE):TE:=fun σ H Q=>ta σ H fun x H1=>r x H1 Q
def rI (C:Int→Int→Prop) (g:Int→Int→V):R2:=fun x y H Q=>∃ i j,x=.int i∧y=.int j∧C i j∧Q (g i j) H
def pJ (g:Int→Int→V):R2:=fun x y H Q=>∃ i j,x=.int i∧y=.int j∧Q (g i j) H
def rU (g:Int→V):V→Hp→VK→Prop:=fun x H Q=>∃ i,x=.int i∧Q (g i) H
section
variable {X:Cx}{a b c:Expr}{ta tb tc:TE}{pos:Pos}
theorem Zp2 (ha:PE X a ta) (hb:PE X b tb) {pins:List (Addr×Obj)}{s:Shared}{σ:St}{H:Hp}{R:V→V→Hp→Prop} (I:Inv X pins σ H s)
  (h:ta σ H fun x H1=>tb σ H1 fun y H2=>R x y H2) {Q:Value→Shared→Prop}{f:Value→Value→Sem Value}
  (hf:∀ v u s2 x y H2,Inv X pins σ H2 s2→RelV x v→RelV y u→R x y H2→wpAny (model X.prog X.w) X.A (f v u) Q X.xe s2):
  wpAny (model X.prog X.w) X.A (eval a X.env) (fun v s₁=>wpAny (model X.prog X.w) X.A (eval b X.env) (fun u s₂=>wpAny (model X.prog X.w) X.A (f v u) Q X.xe s₂) X.xe s₁) X.xe s:=by
 refine iD (ha pins s σ H _ I h) fun v s1 ⟨x,H1,I1,r1,q1⟩=>?_;refine iD (hb pins s1 σ H1 _ I1 q1) fun u s2 ⟨y,H2,I2,r2,q2⟩=>?_;exact hf v u s2 x y H2 I2 r1 r2 q2
theorem bw {op:Operator}{r:R2} (ho:ym X (binaryOp op) r) (ha:PE X a ta) (hb:PE X b tb):PE X (.BinOp a op b pos) (aY r ta tb):=by
 intro pins s σ H Q I h;exact wpAny_BinOp (Zp2 ha hb I h fun v u s2 x y H2 I2 rx ry q=>ho pins s2 σ H2 x y v u Q I2 rx ry q)
theorem Zpx {op:UnaryOp}{r:V→Hp→VK→Prop} (ho:UnR X (unaryOp op) r) (ha:PE X a ta):PE X (.UnaryOp op a pos) (tUn r ta):=by
 intro pins s σ H Q I h;exact UnaryOp_ (iD (ha pins s σ H _ I h) fun v s1 ⟨x,H1,I1,r1,q1⟩=>ho pins s1 σ H1 x v Q I1 r1 q1)
theorem opI {f:Value→Value→Sem Value}{C:Int→Int→Prop}{g:Int→Int→Int}
  (rule:∀ (i j:Int) (t u:Tok) (s:Shared) (Q:Value→Shared→Prop) (E:Value→Shared→Prop),C i j→Q (.int (g i j) s.toks) { s with toks:=s.toks + 1 }→wpAny (model X.prog X.w) X.A (f (.int i t) (.int j u)) Q E s):
  ym X f (rI C fun i j=>.int (g i j)):=by
 intro pins s σ H x y v u Q I rx ry h;obtain ⟨i,j,rfl,rfl,hc,q⟩:=h;obtain ⟨t,rfl⟩:=rx;obtain ⟨t',rfl⟩:=ry;exact rule i j t t' s _ _ hc ⟨.int (g i j),H,I.tok _,⟨_,rfl⟩,q⟩
theorem Zn7 {f:Value→Value→Sem Value}{g:Int→Int→Int}
  (rule:∀ (i j:Int) (t u:Tok) (s:Shared) (Q:Value→Shared→Prop) (E:Value→Shared→Prop),Q (.int (g i j) s.toks) { s with toks:=s.toks + 1 }→wpAny (model X.prog X.w) X.A (f (.int i t) (.int j u)) Q E s):
  ym X f (pJ fun i j=>.int (g i j)):=by
 intro pins s σ H x y v u Q I rx ry h;obtain ⟨i,j,rfl,rfl,q⟩:=h;obtain ⟨t,rfl⟩:=rx;obtain ⟨t',rfl⟩:=ry;exact rule i j t t' s _ _ ⟨.int (g i j),H,I.tok _,⟨_,rfl⟩,q⟩
theorem Zk9 {f:Value→Value→Sem Value}{g:Int→Int→Bool}
  (rule:∀ (i j:Int) (t u:Tok) (s:Shared) (Q:Value→Shared→Prop) (E:Value→Shared→Prop),Q (.bool (g i j)) s→wpAny (model X.prog X.w) X.A (f (.int i t) (.int j u)) Q E s):
  ym X f (pJ fun i j=>.bl (g i j)):=by
 intro pins s σ H x y v u Q I rx ry h;obtain ⟨i,j,rfl,rfl,q⟩:=h;obtain ⟨t,rfl⟩:=rx;obtain ⟨t',rfl⟩:=ry;exact rule i j t t' s _ _ ⟨.bl (g i j),H,I,rfl,q⟩
def Kw (i j:Int):Prop:=0 < j∧j < 1073741824
def Rj (i j:Int):Prop:=0≤j∧j≤1000000∧i.natAbs < 2 ^ 64
def Xb (i j:Int):Prop:=(-(2 ^ 64) < i∧i < 2 ^ 64)∨(-(2 ^ 64) < j∧j < 2 ^ 64)
theorem Xb.ok {i j:Int} (h:Xb i j):IntMulOk i j:=by
 rcases h with ⟨h1,h2⟩ | ⟨h1,h2⟩
 ·exact .of_left (intBits_le_64 h1 h2)
 ·exact .of_right (intBits_le_64 h1 h2)
theorem Zv (k:Nat):(0:Int)≤2 ^ k:=by
 rw [two_pow_cast];exact Int.natCast_nonneg _
theorem jN:ym X (binaryOp .Add) (pJ fun i j=>.int (i + j)):=Zn7 fun _ _ _ _ _ _ _ q=>add_int q
theorem zu:ym X (binaryOp .Sub) (pJ fun i j=>.int (i - j)):=Zn7 fun _ _ _ _ _ _ _ q=>sub_int q
theorem Uv:ym X (binaryOp .Mult) (rI Xb fun i j=>.int (i * j)):=opI fun _ _ _ _ _ _ _ hc q=>mul_int q hc.ok
theorem o7:ym X (binaryOp .FloorDiv) (rI Kw fun i j=>.int (i / j)):=opI fun i j _ _ _ _ _ hc q=>by
 have h1:(0:Int) < j:=hc.1;have h2:j < 1073741824:=hc.2;exact floordiv_int (by omega) (by rw [Int.fdiv_eq_ediv_of_nonneg i (by omega)];exact q) (.inl (PyProof.noPylong_small (by omega)))
theorem eZ:ym X (binaryOp .Mod) (rI (fun _ j=>0 < j) fun i j=>.int (i % j)):=opI fun i j _ _ _ _ _ hc q=>by
 have h1:(0:Int) < j:=hc;exact mod_int' (by omega) (by rw [Int.fmod_eq_emod_of_nonneg i (by omega)];exact q)
theorem Hu:ym X (binaryOp .Pow) (rI Rj fun i j=>.int (i ^ j.toNat)):=opI fun _ _ _ _ _ _ _ hc q=>pow_int_small hc.1 hc.2.1 hc.2.2 q
theorem Zn4:ym X (binaryOp .LShift) (rI Rj fun i j=>.int (i * 2 ^ j.toNat)):=opI fun _ _ _ _ _ _ _ hc q=>lshift_int_small hc.1 hc.2.1 hc.2.2 q
theorem Zn3:ym X (binaryOp .RShift) (rI (fun _ j=>0≤j) fun i j=>.int (i / 2 ^ j.toNat)):=opI fun i j _ _ _ _ _ hc q=>
 rshift_int hc (by rw [Int.fdiv_eq_ediv_of_nonneg i (Zv _)];exact q)
theorem MF:ym X (binaryOp .BitAnd) (pJ fun i j=>.int (Builtin.bitAnd i j)):=Zn7 fun _ _ _ _ _ _ _ q=>and_int q
theorem unI {f:Value→Sem Value}{g:Int→Int}
  (rule:∀ (i:Int) (t:Tok) (s:Shared) (Q:Value→Shared→Prop) (E:Value→Shared→Prop),Q (.int (g i) s.toks) { s with toks:=s.toks + 1 }→wpAny (model X.prog X.w) X.A (f (.int i t)) Q E s):
  UnR X f (rU fun i=>.int (g i)):=by
 intro pins s σ H x v Q I rx h;obtain ⟨i,rfl,q⟩:=h;obtain ⟨t,rfl⟩:=rx;exact rule i t s _ _ ⟨.int (g i),H,I.tok _,⟨_,rfl⟩,q⟩
theorem Zmf:UnR X (unaryOp .USub) (rU fun i=>.int (-i)):=unI fun _ _ _ _ _ q=>neg_int q
end
def Zpq:V→V→Bool
 | .non,.non=>true | .non,.int _=>true | .int _,.non=>true | .non,.bl _=>true | .bl _,.non=>true | .non,.str _=>true | .str _,.non=>true
 | .int _,.int _=>true | .bl _,.bl _=>true | .str _,.str _=>true | .byt _,.byt _=>true
 | .int _,.str _=>true | .str _,.int _=>true | .bl _,.str _=>true | .str _,.bl _=>true
 | _,_=>false
def uZ:R2:=fun x y H Q=>Zpq x y=true∧Q (.bl (decide (x=y))) H
def rNe:R2:=fun x y H Q=>Zpq x y=true∧Q (.bl (!decide (x=y))) H
theorem Zd0 {i j:Int}:decide (V.int i=V.int j)=(i == j):=by
 rw [Bool.eq_iff_iff];simp
theorem Zik {i j:Bool}:decide (V.bl i=V.bl j)=(i == j):=by
 rw [Bool.eq_iff_iff];simp
theorem Zcz {i j:Str}:decide (V.str i=V.str j)=(i == j):=by
 rw [Bool.eq_iff_iff];simp
theorem Zd1 {i j:Array UInt8}:decide (V.byt i=V.byt j)=(i.toList == j.toList):=by
 rw [Bool.eq_iff_iff];cases i;cases j;simp
section
variable {X:Cx}{a b c:Expr}{ta tb tc:TE}{pos:Pos}
theorem di {pins:List (Addr×Obj)}{σ:St}{H:Hp}{s:Shared}{Q:VK}{k k':Bool} (I:Inv X pins σ H s) (q:Q (.bl k) H) (e:k=k'):EP X pins σ Q (.bool k') s:=by
 subst e;exact ⟨.bl k,H,I,rfl,q⟩
theorem fD:ym X (compareOp .Eq) uZ:=by
 intro pins s σ H x y v u Q I rx ry h;obtain ⟨hs,q⟩:=h;cases x with
 | non=>
  cases rx;cases y with
  | non=>cases ry;exact PySem.EqNone.eq_none_none (di I q (by simp))
  | bl j=>cases ry;exact PySem.EqNone.eq_none_bool (di I q (by simp))
  | int j=>obtain ⟨t',rfl⟩:=ry;exact PySem.EqNone.eq_none_int (di I q (by simp))
  | str j=>obtain ⟨t',rfl⟩:=ry;exact PySem.EqNone.eq_none_str (di I q (by simp))
  | _=>exact absurd (show false=true from hs) Bool.false_ne_true
 | bl i=>
  cases rx;cases y with
  | non=>cases ry;exact PySem.EqNone.eq_bool_none (di I q (by simp))
  | bl j=>cases ry;exact eq_bool (di I q Zik)
  | str j=>obtain ⟨t',rfl⟩:=ry;exact PySem.EqMixed.eq_bool_str (di I q (by simp))
  | _=>exact absurd (show false=true from hs) Bool.false_ne_true
 | int i=>
  obtain ⟨t,rfl⟩:=rx;cases y with
  | non=>cases ry;exact PySem.EqNone.eq_int_none (di I q (by simp))
  | int j=>obtain ⟨t',rfl⟩:=ry;exact eq_int (di I q Zd0)
  | str j=>obtain ⟨t',rfl⟩:=ry;exact PySem.EqMixed.eq_int_str (di I q (by simp))
  | _=>exact absurd (show false=true from hs) Bool.false_ne_true
 | str i=>
  obtain ⟨t,rfl⟩:=rx;cases y with
  | non=>cases ry;exact PySem.EqNone.eq_str_none (di I q (by simp))
  | bl j=>cases ry;exact PySem.EqMixed.eq_str_bool (di I q (by simp))
  | int j=>obtain ⟨t',rfl⟩:=ry;exact PySem.EqMixed.eq_str_int (di I q (by simp))
  | str j=>obtain ⟨t',rfl⟩:=ry;exact eq_str (di I q Zcz)
  | _=>exact absurd (show false=true from hs) Bool.false_ne_true
 | byt i=>
  obtain ⟨t,rfl⟩:=rx;cases y with
  | byt j=>obtain ⟨t',rfl⟩:=ry;exact PySem.W.eq_bytes (di I q Zd1)
  | _=>exact absurd (show false=true from hs) Bool.false_ne_true
 | _=>cases y<;>exact absurd (show false=true from hs) Bool.false_ne_true
theorem Dq:ym X (compareOp .NotEq) rNe:=by
 intro pins s σ H x y v u Q I rx ry h;obtain ⟨hs,q⟩:=h;cases x with
 | non=>
  cases rx;cases y with
  | non=>cases ry;exact PySem.EqNone.ne_none_none (di I q (by simp))
  | bl j=>cases ry;exact PySem.EqNone.ne_none_bool (di I q (by simp))
  | int j=>obtain ⟨t',rfl⟩:=ry;exact PySem.EqNone.ne_none_int (di I q (by simp))
  | str j=>obtain ⟨t',rfl⟩:=ry;exact PySem.EqNone.ne_none_str (di I q (by simp))
  | _=>exact absurd (show false=true from hs) Bool.false_ne_true
 | bl i=>
  cases rx;cases y with
  | non=>cases ry;exact PySem.EqNone.ne_bool_none (di I q (by simp))
  | bl j=>cases ry;exact ne_bool (di I q (congrArg not Zik))
  | str j=>obtain ⟨t',rfl⟩:=ry;exact PySem.EqMixed.ne_bool_str (di I q (by simp))
  | _=>exact absurd (show false=true from hs) Bool.false_ne_true
 | int i=>
  obtain ⟨t,rfl⟩:=rx;cases y with
  | non=>cases ry;exact PySem.EqNone.ne_int_none (di I q (by simp))
  | int j=>obtain ⟨t',rfl⟩:=ry;exact ne_int (di I q (congrArg not Zd0))
  | str j=>obtain ⟨t',rfl⟩:=ry;exact PySem.EqMixed.ne_int_str (di I q (by simp))
  | _=>exact absurd (show false=true from hs) Bool.false_ne_true
 | str i=>
  obtain ⟨t,rfl⟩:=rx;cases y with
  | non=>cases ry;exact PySem.EqNone.ne_str_none (di I q (by simp))
  | bl j=>cases ry;exact PySem.EqMixed.ne_str_bool (di I q (by simp))
  | int j=>obtain ⟨t',rfl⟩:=ry;exact PySem.EqMixed.ne_str_int (di I q (by simp))
  | str j=>obtain ⟨t',rfl⟩:=ry;exact ne_str (di I q (congrArg not Zcz))
  | _=>exact absurd (show false=true from hs) Bool.false_ne_true
 | byt i=>
  obtain ⟨t,rfl⟩:=rx;cases y with
  | byt j=>obtain ⟨t',rfl⟩:=ry;exact PySem.W.ne_bytes (di I q (congrArg not Zd1))
  | _=>exact absurd (show false=true from hs) Bool.false_ne_true
 | _=>cases y<;>exact absurd (show false=true from hs) Bool.false_ne_true
theorem RN:ym X (compareOp .Lt) (pJ fun i j=>.bl (decide (i < j))):=Zk9 fun _ _ _ _ _ _ _ q=>lt_int q
theorem Zpy:ym X (compareOp .LtE) (pJ fun i j=>.bl (decide (i≤j))):=Zk9 fun _ _ _ _ _ _ _ q=>le_int q
theorem Zm8:ym X (compareOp .Gt) (pJ fun i j=>.bl (decide (j < i))):=Zk9 fun _ _ _ _ _ _ _ q=>gt_int q
theorem Zgh:ym X (compareOp .GtE) (pJ fun i j=>.bl (decide (j≤i))):=Zk9 fun _ _ _ _ _ _ _ q=>ge_int q
theorem Ze2:ym X (compareOp .In) (fun x y H Q=>∃ i j,x=.str i∧y=.str j∧Q (.bl (!(Builtin.Str.occurrences j i 0 j.length 1).isEmpty)) H):=by
 intro pins s σ H x y v u Q I rx ry h;obtain ⟨i,j,rfl,rfl,q⟩:=h;obtain ⟨t,rfl⟩:=rx;obtain ⟨t',rfl⟩:=ry;exact in_str (di I q rfl)
theorem Zn5:ym X (compareOp .Is) (fun x y H Q=>y=.non∧Q (.bl (decide (x=.non))) H):=by
 intro pins s σ H x y v u Q I rx ry h;obtain ⟨rfl,q⟩:=h;cases ry;refine is_none_gen (di I q ?_);cases x<;>first
  | (cases rx;rfl)
  | (obtain ⟨t,rfl⟩:=rx;rfl)
theorem Zk8:ym X (compareOp .IsNot) (fun x y H Q=>y=.non∧Q (.bl (!decide (x=.non))) H):=by
 intro pins s σ H x y v u Q I rx ry h;obtain ⟨rfl,q⟩:=h;cases ry;refine isnot_none_gen (di I q ?_);cases x<;>first
  | (cases rx;rfl)
  | (obtain ⟨t,rfl⟩:=rx;rfl)
def isObj:HO→Bool
 | .lst _=>true
 | .ins _ _ _=>true
 | _=>false
theorem HQ {pins:List (Addr×Obj)}{s:Shared}{σ:St}{H:Hp}{a:Addr}{o:HO} (I:Inv X pins σ H s) (h:H a=some o) (p:isObj o=true):∃ ob,s.heap.get? a=some ob∧ob.cls≠.type "tuple":=by
 cases o with
 | lst xs=>
  obtain ⟨_,its,n,_,e⟩:xs.length≤sizeLine∧∃ (its:List Value) (n:Nat),Vals xs its∧s.heap.get? a=some { cls:=.type "list",data:=.seq its.toArray n }:=I.hok a _ h;exact ⟨_,e,(by show Value.type "list"≠.type "tuple";decide +kernel)⟩
 | ins C dx fs=>
  have x:=I.hok a _ h;obtain ⟨_,_,_,e,_⟩:=x;exact ⟨_,e,(by show Value.ref C≠.type "tuple";exact fun z=>by cases z)⟩
 | _=>exact absurd (show false=true from p) Bool.false_ne_true
theorem ou (b:Expr) {op:CmpOp} (h:op≠.In:=by decide) (h2:op≠.NotIn:=by decide):behindInMarks op b=false:=by
 have e1:(op == CmpOp.In)=false:=by cases op<;>first | rfl | exact absurd rfl h
 have e2:(op == CmpOp.NotIn)=false:=by cases op<;>first | rfl | exact absurd rfl h2
 cases b<;>simp [behindInMarks,e1,e2]
theorem lJ {op:CmpOp}{r:R2} (ho:ym X (compareOp op) r) (ha:PE X a ta) (hb:PE X b tb) (hm:behindInMarks op b=false):PE X (.Compare a [op] [b] pos) (aY r ta tb):=by
 intro pins s σ H Q I h;exact wpAny_Compare1 (Zp2 ha hb I h fun v u s2 x y H2 I2 rx ry q=>ho pins s2 σ H2 x y v u Q I2 rx ry q) hm
def bR (t:TE):TT:=fun σ H Q=>t σ H fun x H'=>∃ k,x=.bl k∧Q k H'
theorem Zjm {op:CmpOp}{r:R2} (ho:ym X (compareOp op) r) (ha:PE X a ta) (hb:PE X b tb) (hm:behindInMarks op b=false):PT X (.Compare a [op] [b] pos) (bR (aY r ta tb)):=by
 intro pins s σ H Q I h;refine wpAny_isTrue_Compare1 (iD (ha pins s σ H _ I h) fun v s1 ⟨x,H1,I1,r1,q1⟩=>iD (hb pins s1 σ H1 _ I1 q1) fun u s2 ⟨y,H2,I2,r2,q2⟩=>
  iD (ho pins s2 σ H2 x y v u _ I2 r1 r2 q2) fun c s3 ⟨z,H3,I3,r3,k,e,q3⟩=>?_) hm
 subst e;cases r3;exact wpAny_truthy_bool ⟨H3,I3,q3⟩
def Zz (r r':R2) (ta tb tc:TE):TE:=fun σ H Q=>ta σ H fun x H1=>tb σ H1 fun y H2=>r x y H2 fun z H3=>∃ k,z=.bl k∧
 (if k=true then tc σ H3 fun w' H4=>r' y w' H4 Q else Q (.bl false) H3)
theorem Zgd {op op':CmpOp}{r r':R2} (ho:ym X (compareOp op) r) (ho':ym X (compareOp op') r') (ha:PE X a ta) (hb:PE X b tb) (hc:PE X c tc)
  (hm:lastMarks [op,op'] [b,c]=false:=by with_unfolding_all rfl):PE X (.Compare a [op,op'] [b,c] pos) (Zz r r' ta tb tc):=by
 intro pins s σ H Q I h;refine Compare_chain (iD (ha pins s σ H _ I h) fun v s1 ⟨x,H1,I1,r1,q1⟩=>chain_link (iD (hb pins s1 σ H1 _ I1 q1) fun u s2 ⟨y,H2,I2,r2,q2⟩=>
  iD (ho pins s2 σ H2 x y v u _ I2 r1 r2 q2) fun d s3 ⟨z,H3,I3,r3,k,e,q3⟩=>?_)) hm
 subst e;cases r3;refine wpAny_truthy_bool ?_;cases k with
 | false=>exact ite_ff ⟨.bl false,H3,I3,rfl,q3⟩
 | true=>exact ite_tt (chain_last (iD (hc pins s3 σ H3 _ I3 q3) fun w' s4 ⟨z',H4,I4,r4,q4⟩=>ho' pins s4 σ H4 y z' u w' Q I4 r2 r4 q4))
theorem Nf:(sizeLine:Nat) < 2 ^ 63:=by rw [sizeLine_eq];decide
theorem p7:ym X (binaryOp .Add) (fun x y H Q=>∃ i j,x=.str i∧y=.str j∧i.length + j.length≤sizeLine∧Q (.str (i ++ j)) H):=by
 intro pins s σ H x y v u Q I rx ry h;obtain ⟨i,j,rfl,rfl,hz,q⟩:=h;obtain ⟨t,rfl⟩:=rx;obtain ⟨t',rfl⟩:=ry;exact add_str (fun t' tk=>⟨.str (i ++ j),H,I.tok _,⟨_,rfl⟩,q⟩) hz
theorem vals1 {x:V}{us:List Value} (r:Vals [x] us):∃ u,us=[u]∧RelV x u:=by
 cases r with
 | cons r1 r2=>cases r2;exact ⟨_,rfl,r1⟩
theorem vals2 {x y:V}{us:List Value} (r:Vals [x,y] us):∃ u w',us=[u,w']∧RelV x u∧RelV y w':=by
 cases r with
 | cons r1 r2=>
  cases r2 with
  | cons r3 r4=>cases r4;exact ⟨_,_,rfl,r1,r3⟩
end
end L2
namespace L2
open PySem PySem.Spec PyProof.Rows
structure Zc7 (h:Heap) (x dx C:Addr) (mA:Str→Option Value):Prop where
 obj:h.get? x=some (PySem.W.instObj C dx)
 ns:h.Ns1 dx mA
 ne:dx≠x
theorem Zei {h:Heap}{dx:Addr}{mA:Str→Option Value} (n:h.Ns1 dx mA):∃ od,h.get? dx=some od∧∀ name,PySem.W.lookIn name od=some (mA name):=by
 obtain ⟨o,es,ep,ho,hd,hk,_,hm⟩:=n;refine ⟨o,ho,fun name=>?_⟩;have e:=hm name;unfold nsFind findBy at e;rw [← Array.find?_toList] at e;unfold PySem.W.lookIn;rw [hd];dsimp only;split
 ·rename_i y q
  rw [q] at e;exact congrArg some e
 ·rename_i q
  rw [q] at e;have a:es.toList.any (·.refKey)=false:=by
   rw [List.any_eq_false];intro y hy;obtain ⟨z,t,hkey⟩:=hk y (Array.mem_toList_iff.mp hy);simp [DictEntry.refKey,hkey]
  have a':¬ es.toList.any (·.refKey)=true:=by rw [a];exact Bool.false_ne_true
  rw [if_neg a'];exact congrArg some e
theorem Zc7.look {h:Heap}{x dx C:Addr}{mA:Str→Option Value} (I:Zc7 h x dx C mA):∃ od,PySem.W.InstAt h x (PySem.W.instObj C dx) C (some od)∧∀ name,PySem.W.lookIn name od=some (mA name):=
 let ⟨od,ho,hl⟩:=Zei I.ns
 ⟨od,⟨I.obj,rfl,rfl,ho⟩,hl⟩
section
variable {prog:Program}{w:World}{A:Around}{E:Value→Shared→Prop}{s:Shared}{K:aG}{x dx C f:Addr}{mA:Str→Option Value}{name:Str}{v:Value}
theorem get_map {expr:Bool}{Q:Value→Shared→Prop} (X:K.In s.heap) (I:Zc7 s.heap x dx C mA) (hg:PySem.W.plainGet K C name=true) (hh:PySem.W.hasDictIn K C=true)
  (ha:PySem.W.findIn K (.ref C) name=some none) (hv:mA name=some v) (hv':PySem.W.handedIn v=true) (h:Q v { s with toks:=s.toks + 1 }):
  wpAny (model prog w) A (getAttr (.ref x) name expr) Q E s:=by
 obtain ⟨od,J,hl⟩:=I.look;exact PySem.W.get_value X J (PySem.W.plainGet_of hg).1 (PySem.W.findObj_own hh ha rfl (by rw [hl,hv])) hv' h
theorem Zhz {pl:Sem Bool}{Q:Value×List Value→Shared→Prop} (X:K.In s.heap) (I:Zc7 s.heap x dx C mA) (hg:PySem.W.plainGet K C name=true)
  (hf:PySem.W.findIn K (.ref C) name=some (some (.ref f))) (ht:PySem.W.isFn K (.ref f)=true) (hv:mA name=none) (h:Q (.ref f,[.ref x]) s):
  wpAny (model prog w) A (getMethod (.ref x) name pl) Q E s:=by
 obtain ⟨od,J,hl⟩:=I.look;exact PySem.W.method_fn X J (PySem.W.plainGet_of hg).1 (PySem.W.plainGet_of hg).2 hf (beq_iff_eq.mp ht) (by show (PySem.W.lookIn name od).map (·.isSome)=some false;rw [hl,hv];rfl) h
theorem Zja {ns:List Str}{Q:Unit→Shared→Prop} (X:K.In s.heap) (I:Zc7 s.heap x dx C mA)
  (hs:PySem.W.findIn K (.ref C) "__setattr__"=some (some (.builtin "object.__setattr__"))) (hp:PySem.W.plainOver K C=true) (ht:PySem.W.takerIn K C name=some none) (hh:PySem.W.hasDictIn K C=true)
  (hw:PySem.Within mA ns) (hsz:ns.length≤sizeLine)
  (h:∀ h',Zc7 h' x dx C (fun y=>if y=name then some v else mA y)→Heap.SameBut dx s.heap h'→Q () { s with heap:=h',toks:=s.toks + 2 }):
  wpAny (model prog w) A (setAttr (.ref x) name v) Q E s:=by
 obtain ⟨od,J,hl⟩:=I.look;refine PySem.W.set_plain X J hs (PySem.W.osa_open (s:={ s with toks:=s.toks + 1 }) (r:=none) X J hp ht fun b=>?_);obtain ⟨cd,hc,hd'⟩:=PySem.W.any_some hh;have hx:s.heap.get? x=some ⟨.ref C,some dx,.plain,#[]⟩:=I.obj;refine wpAny_bind (wpAny_pure (wpAny_bind (wpAny_bind (wpAny_loadPart hx (wpAny_bind (PySem.W.Looks.here (s:={ s with toks:=s.toks + 1 }) (PySem.W.looks_clsIn X hc) ?_))))));rw [hd'];refine wpAny_pure (a:=some dx) (wpAny_bind (wpAny_pure (wpAny_bind ?_)));refine wpAny_nsSet1 (s:={ s with toks:=s.toks + 1 }) I.ns fun h' hn2 hs2=>?_;obtain ⟨oD,esD,epD,hoD,hdD,hcD⟩:=hn2.count (PySem.Within.cons name v hw);refine wpAny_bind (wpAny_lookBehind hoD (by rw [hdD];exact pastItsLine_dict (Nat.le_trans hcD (by rw [List.length_cons];omega))) ?_);exact wpAny_pure (h _ ⟨(hs2.2 _ (Ne.symm I.ne)).trans I.obj,hn2,I.ne⟩ hs2)
theorem Zgx {R:Result→Shared→Prop}{vs:List Value}{kw:List (Str×Value)} (X:K.In s.heap) (hm:PySem.W.makesIn K C=true)
  (hi:PySem.W.findIn K (.ref C) "__init__"=some (some (.ref f))) (hf:PySem.W.typeIn K (.ref f)=some (.type "function"))
  (h:codeAny (model prog w) (A.under (.builtin "type.__call__" ⟨.ref C :: vs,kw⟩)) (.call (.ref f) ⟨.ref (s.heap.objs.size + 1) :: vs,kw⟩) (PySem.W.InitBack (s.heap.objs.size + 1) R)
   { s with heap:=(s.heap.push PySem.W.emptyDict).push (PySem.W.instObj C s.heap.objs.size) }):
  codeAny (model prog w) A (.call (.ref C) ⟨vs,kw⟩) R s:=by
 obtain ⟨hh,g,d,t,os⟩:=s;exact PySem.W.make_core (PySem.W.makes_of X hm) (PySem.W.looks_findIn X hi) (fun self=>PySem.W.bind_fn X self hf) (.inl rfl) h
theorem Zea {R:Result→Shared→Prop} (X:K.In s.heap) (hm:PySem.W.makesIn K C=true)
  (hi:PySem.W.findIn K (.ref C) "__init__"=some (some (.builtin "object.__init__")))
  (hb:∀ self,PySem.W.Looks (model prog w) s.heap (bindSpecial (.builtin "object.__init__") self) (.builtin "object.__init__",[self]))
  (h:codeAny (model prog w) (A.under (.builtin "type.__call__" ⟨[.ref C],[]⟩)) (.call (.builtin "object.__init__") ⟨[.ref (s.heap.objs.size + 1)],[]⟩) (PySem.W.InitBack (s.heap.objs.size + 1) R)
   { s with heap:=(s.heap.push PySem.W.emptyDict).push (PySem.W.instObj C s.heap.objs.size) }):
  codeAny (model prog w) A (.call (.ref C) ⟨[],[]⟩) R s:=by
 obtain ⟨hh,g,d,t,os⟩:=s;exact PySem.W.make_core (PySem.W.makes_of X hm) (PySem.W.looks_findIn X hi) hb (.inr ⟨rfl,rfl⟩) h
end
def cj (f:Str) (v:V):List (Str×V)→List (Str×V)
 | []=>[(f,v)]
 | (g,x) :: r=>if g=f then (g,v) :: r else (g,x) :: cj f v r
theorem JN (f g:Str) (v:V):∀ fs:List (Str×V),(cj f v fs).lookup g=if g=f then some v else fs.lookup g
 | []=>by
  show List.lookup g [(f,v)]=_
  by_cases h:g=f
  ·have hb:(g == f)=true:=beq_iff_eq.mpr h;simp only [List.lookup,hb,if_pos h]
  ·have hb:(g == f)=false:=beq_eq_false_iff_ne.mpr h;simp only [List.lookup,hb,if_neg h]
 | (k,x) :: r=>by
  have ih:=JN f g v r;rw [show cj f v ((k,x) :: r)=(if k=f then (k,v) :: r else (k,x) :: cj f v r) from rfl]
  by_cases hk:k=f
  ·rw [if_pos hk]
   by_cases h:g=k
   ·have hb:(g == k)=true:=beq_iff_eq.mpr h;simp only [List.lookup,hb,if_pos (h.trans hk)]
   ·have hb:(g == k)=false:=beq_eq_false_iff_ne.mpr h;simp only [List.lookup,hb,if_neg (fun e:g=f=>h (e.trans hk.symm))]
  ·rw [if_neg hk]
   by_cases h:g=k
   ·have hb:(g == k)=true:=beq_iff_eq.mpr h;simp only [List.lookup,hb,if_neg (fun e:g=f=>hk (h.symm.trans e))]
   ·have hb:(g == k)=false:=beq_eq_false_iff_ne.mpr h;simp only [List.lookup,hb];exact ih
theorem Ii (f:Str) (v:V):∀ fs:List (Str×V),f∈(cj f v fs).map (·.1)∧∀ g,g∈fs.map (·.1)→g∈(cj f v fs).map (·.1)
 | []=>⟨by simp [cj],fun g h=>by simp at h⟩
 | (k,x) :: r=>by
  obtain ⟨i1,i2⟩:=Ii f v r;rw [show cj f v ((k,x) :: r)=(if k=f then (k,v) :: r else (k,x) :: cj f v r) from rfl]
  by_cases hk:k=f
  ·rw [if_pos hk];subst hk;exact ⟨by simp,fun g h=>by simpa using h⟩
  ·rw [if_neg hk];refine ⟨?_,fun g h=>?_⟩
   ·rw [List.map_cons];exact List.mem_cons_of_mem _ i1
   ·rw [List.map_cons] at h ⊢;rcases List.mem_cons.mp h with e | e
    ·exact List.mem_cons.mpr (.inl e)
    ·exact List.mem_cons_of_mem _ (i2 g e)
theorem JP (f:Str) (v:V):∀ fs:List (Str×V),(cj f v fs).length≤fs.length + 1
 | []=>by simp [cj]
 | (k,x) :: r=>by
  have ih:=JP f v r;rw [show cj f v ((k,x) :: r)=(if k=f then (k,v) :: r else (k,x) :: cj f v r) from rfl]
  by_cases hk:k=f
  ·rw [if_pos hk,List.length_cons,List.length_cons];omega
  ·rw [if_neg hk,List.length_cons,List.length_cons];omega
theorem Ar.some_of {v:V}{o:Option Value} (r:Ar (some v) o):∃ u,o=some u∧RelV v u:=by
 cases o with
 | none=>exact (show False from r).elim
 | some u=>exact ⟨u,rfl,r⟩
theorem Ar.none_of {o:Option Value} (r:Ar none o):o=none:=by
 cases o with
 | none=>rfl
 | some u=>exact (show False from r).elim
theorem Zez {v:V}{u:Value} (r:RelV v u):PySem.W.handedIn u=true:=by
 cases v with
 | non=>cases (show u=Value.none from r);rfl
 | bl b=>cases (show u=Value.bool b from r);rfl
 | int i=>obtain ⟨t,e⟩:=(show ∃ t,u=Value.int i t from r);cases e;rfl
 | str x=>obtain ⟨t,e⟩:=(show ∃ t,u=Value.str x t from r);cases e;rfl
 | byt b=>obtain ⟨t,e⟩:=(show ∃ t,u=Value.bytes b t from r);cases e;rfl
 | flt b=>obtain ⟨t,e⟩:=(show ∃ t,u=Value.float b t from r);cases e;rfl
 | ref a=>cases (show u=Value.ref a from r);rfl
 | ty n=>cases (show u=Value.type n from r);rfl
section
variable {P:Program}{w:World}{H H':Hp}{h h':Heap}{a C dx:Addr}{fs fs':List (Str×V)}
theorem KR (hok:yp P w H h) (e:H a=some (.ins C dx fs)):∃ mA,Zc7 h a dx C mA∧(∀ f,Ar (fs.lookup f) (mA f))∧PySem.Within mA (fs.map (·.1))∧fs.length≤1000∧H dx=some (.own a):=by
 obtain ⟨d,z,ne,ob,mA,n,r,q⟩:=(show jQ P w H h a (.ins C dx fs) from hok a _ e);exact ⟨mA,⟨ob,n,ne⟩,r,q,z,d⟩
end
structure Bo (K:aG) (C:Addr):Prop where
 pg:PySem.W.plainGet K C Str.empty=true
 hd:PySem.W.hasDictIn K C=true
 po:PySem.W.plainOver K C=true
 sa:PySem.W.findIn K (.ref C) "__setattr__"=some (some (.builtin "object.__setattr__"))
theorem Bo.get {K:aG}{C:Addr} (c:Bo K C) (f:Str):PySem.W.plainGet K C f=true:=c.pg
def bG (K:aG) (C:Addr) (f:Str):Prop:=PySem.W.findIn K (.ref C) f=some none
theorem bG.taker {K:aG}{C:Addr}{f:Str} (n:bG K C f):PySem.W.takerIn K C f=some none:=by
 unfold PySem.W.takerIn;rw [show PySem.W.findIn K (.ref C) f=some none from n];rfl
structure Con (K:aG) (C:Addr) (f:Str) (v:V) (u:Value):Prop where
 at_:PySem.W.findIn K (.ref C) f=some (some u)
 rel:RelV v u
 get:PySem.W.specialIn K u "__get__"=some none
 cp:PySem.W.copiedNames.contains f=false
structure Meth (K:aG) (C:Addr) (m:Str) (f:Addr):Prop where
 at_:PySem.W.findIn K (.ref C) m=some (some (.ref f))
 fn:PySem.W.isFn K (.ref f)=true
 kp:PySem.W.keepIn K (.ref f)=true
section
variable {X:Cx}{pins:List (Addr×Obj)}{σ:St}{H:Hp}{s:Shared}{a C dx:Addr}{fs:List (Str×V)}{f:Str}{v:V}{A:Around}{E:Value→Shared→Prop}
theorem Zbf {b:Bool}{Q:Value→Shared→Prop} (I:Inv X pins σ H s) (e:H a=some (.ins C dx fs)) (c:Bo X.K C) (n:bG X.K C f) (l:fs.lookup f=some v)
  (h:∀ u s',Inv X pins σ H s'→RelV v u→Q u s'):wpAny (model X.prog X.w) A (getAttr (.ref a) f b) Q E s:=by
 obtain ⟨mA,O,r,_,_,_⟩:=KR I.hok e;obtain ⟨u,hu,ru⟩:=Ar.some_of (v:=v) (o:=mA f) (by rw [← l];exact r f);exact get_map I.ux O (c.get f) c.hd n hu (Zez ru) (h u _ (I.tok _) ru)
theorem NK {m:Str}{g:Addr}{pl:Sem Bool}{Q:Value×List Value→Shared→Prop} (I:Inv X pins σ H s) (e:H a=some (.ins C dx fs)) (c:Bo X.K C) (k:Meth X.K C m g) (l:fs.lookup m=none)
  (h:Q (.ref g,[.ref a]) s):wpAny (model X.prog X.w) A (getMethod (.ref a) m pl) Q E s:=by
 obtain ⟨mA,O,r,_,_,_⟩:=KR I.hok e;have hn:mA m=none:=Ar.none_of (by rw [← l];exact r m);exact Zhz I.ux O (c.get m) k.at_ k.fn hn h
theorem ZZ {y:V}{u:Value}{Q:Unit→Shared→Prop} (I:Inv X pins σ H s) (e:H a=some (.ins C dx fs)) (c:Bo X.K C) (n:bG X.K C f) (hl:fs.length < 1000) (ry:RelV y u)
  (h:∀ s',Inv X pins σ (upd H a (.ins C dx (cj f y fs))) s'→Q () s'):wpAny (model X.prog X.w) A (setAttr (.ref a) f u) Q E s:=by
 obtain ⟨mA,O,r,wi,_,ho⟩:=KR I.hok e;have hz:(fs.map (·.1)).length≤sizeLine:=by rw [bh,sizeLine_eq];omega
 refine Zja I.ux O c.sa c.po n.taker c.hd wi hz fun h' O' sb=>h _ ?_;have hd:∃ o,h'.get? dx=some o:=let ⟨o,_,_,e',_⟩:=O'.ns;⟨o,e'⟩
 refine I.write (x:=a) (e:=dx) (by rw [e];exact True.intro) (.inr ho) (fun b q hb z=>(sb.2 b hb).trans z) hd ?_;refine ⟨by rw [aA O.ne];exact ho,?_,O.ne,O'.obj,_,O'.ns,fun g=>?_,fun g hg=>?_⟩
 ·have:=JP f y fs;omega
 ·show Ar ((cj f y fs).lookup g) (if g=f then some u else mA g);rw [JN]
  by_cases q:g=f
  ·rw [if_pos q,if_pos q];exact ry
  ·rw [if_neg q,if_neg q];exact r g
 ·by_cases q:g=f
  ·rw [q];exact (Ii f y fs).1
  ·refine (Ii f y fs).2 g (wi g fun z=>hg ?_);show (if g=f then some u else mA g)=none;rw [if_neg q];exact z
theorem Inv.made (I:Inv X pins σ H s):Inv X pins σ (upd (upd H s.heap.objs.size (.own (s.heap.objs.size + 1))) (s.heap.objs.size + 1) (.ins C s.heap.objs.size []))
  { s with heap:=(s.heap.push PySem.W.emptyDict).push (PySem.W.instObj C s.heap.objs.size) }:=by
 have e1:(s.heap.push PySem.W.emptyDict).get? s.heap.objs.size=some PySem.W.emptyDict:=Heap.get?_push_size s.heap rfl;have e2:((s.heap.push PySem.W.emptyDict).push (PySem.W.instObj C s.heap.objs.size)).get? (s.heap.objs.size + 1)=some (PySem.W.instObj C s.heap.objs.size):=by
  have:=Heap.get?_push_size (s.heap.push PySem.W.emptyDict) (o:=PySem.W.instObj C s.heap.objs.size) rfl
  rwa [Heap.size_push] at this
 have e3:(s.heap.push PySem.W.emptyDict).Ns s.heap.objs.size (fun _=>none):=⟨PySem.W.emptyDict,#[],_,e1,rfl,(fun e he=>absurd he (by simp)),fun _=>rfl⟩;have I1:=I.laid (a:=s.heap.objs.size) (o:=.own (s.heap.objs.size + 1)) (h':=s.heap.push PySem.W.emptyDict) (t':=s.toks) (fun b u q=>Heap.get?_push_of_some _ q) (Nat.le_refl _) ⟨_,e1⟩;refine I1.laid (a:=s.heap.objs.size + 1) (o:=.ins C s.heap.objs.size []) (t':=s.toks) (fun b u q=>Heap.get?_push_of_some _ q) (Nat.le_of_eq (Heap.size_push _ _)) ?_;have ne:s.heap.objs.size≠s.heap.objs.size + 1:=Nat.ne_of_lt (Nat.lt_succ_self _);refine ⟨by rw [aA ne,aq],Nat.zero_le _,ne,e2,fun _=>none,(Heap.Ns1.of_empty e3).at fun o q=>Heap.get?_push_of_some _ q,fun _=>True.intro,fun y hy=>absurd rfl hy⟩
theorem Zls {prog:Program}{w:World}{env:Env}{e:Expr}{f:Str}{pos:Pos}{s:Shared}{Q:Value→Shared→Prop} (hb:attributeBase e f env (eval e env)=eval e env)
  (h:wpAny (model prog w) A (eval e env) (fun o s₁=>wpAny (model prog w) A (getAttr o f true) Q E s₁) E s):wpAny (model prog w) A (eval (.Attribute e f pos) env) Q E s:=
 Attribute_any_ h (by rw [arm_eval_Attribute,hb])
end
def cA (K:aG) (ta:TE) (f:Str):TE:=fun σ H Q=>ta σ H fun x H1=>∃ a C dx fs v,x=.ref a∧H1 a=some (.ins C dx fs)∧Bo K C∧bG K C f∧fs.lookup f=some v∧Q v H1
def jC (K:aG) (ta tv:TE) (f:Str):TS:=fun D σ H=>tv σ H fun y H1=>ta σ H1 fun x H2=>∃ a C dx fs,x=.ref a∧H2 a=some (.ins C dx fs)∧Bo K C∧bG K C f∧fs.length < 1000∧
 D.nx σ (upd H2 a (.ins C dx (cj f y fs)))
section
variable {X:Cx}{o e value:Expr}{f:Str}{pos pos' tpos:Pos}{ta tv:TE}
theorem aW (he:PE X e ta) (hb:attributeBase e f X.env (eval e X.env)=eval e X.env):PE X (.Attribute e f pos) (cA X.K ta f):=by
 intro pins s σ H Q I h;refine Zls hb (iD (he pins s σ H _ I h) fun u s1 ⟨x,H1,I1,rx,a,C,dx,fs,v,ex,ea,c,n,l,q⟩=>?_);subst ex;obtain rfl:u=Value.ref a:=rx;exact Zbf I1 ea c n l fun u' s2 I2 ru=>⟨v,H1,I2,ru,q⟩
theorem cR (ha:PE X o ta) (hv:PE X value tv) (hs:swapsWith value (some (.Attribute o f pos')) pos.line X.env=pure false):PS X (.Assign [.Attribute o f pos'] value pos) (jC X.K ta tv f):=by
 intro pins s σ H D I h;refine plainObj_wpAny_Assign_Attribute (iD (hv pins s σ H _ I h) fun u s1 ⟨y,H1,I1,ry,q⟩=>iD (ha pins s1 σ H1 _ I1 q) fun ov s2 ⟨x,H2,I2,rx,a,C,dx,fs,ex,ea,c,n,l,q2⟩=>?_) hs;subst ex;obtain rfl:ov=Value.ref a:=rx;exact ZZ I2 ea c n l ry fun s3 I3=>⟨σ,_,I3,q2⟩
end
section
variable {X:Cx}{pins:List (Addr×Obj)}{σ:St}{H:Hp}{s:Shared}{A:Around}{E:Value→Shared→Prop}{Q:Value→Shared→Prop}{c:Value}{b:Bool}
inductive Jk (K:aG) (H:Hp):V→Value→Prop where
 | non:Jk K H .non (.type "NoneType")
 | bl (x:Bool):Jk K H (.bl x) (.type "bool")
 | int (i:Int):Jk K H (.int i) (.type "int")
 | str (x:Str):Jk K H (.str x) (.type "str")
 | flt (x:UInt64):Jk K H (.flt x) (.type "float")
 | lst {a:Addr}{xs:List V} (e:H a=some (.lst xs)):Jk K H (.ref a) (.type "list")
 | yd {a:Addr}{o:Obj}{xs:List V} (e:H a=some (.yd o (.lst xs))):Jk K H (.ref a) (.type "list")
 | tup {a:Addr}{xs:List V} (e:H a=some (.tup xs)):Jk K H (.ref a) (.type "tuple")
 | dK {a:Addr}{kvs:List (Key×V)} (e:H a=some (.dK kvs)):Jk K H (.ref a) (.type "dict")
 | dT {a:Addr}{kvs:List (List Key×V)} (e:H a=some (.dT kvs)):Jk K H (.ref a) (.type "dict")
 | ins {a C dx:Addr}{fs:List (Str×V)} (e:H a=some (.ins C dx fs)) (cl:Bo K C) (ha:PySem.W.findIn K (.ref C) "__class__"=some (some (.builtin "object.__class__")))
   (hn:PySem.W.specialIn K (.builtin "object.__class__") "__get__"=some (some (.builtin "getset_descriptor.__get__"))) (htk:PySem.W.takesIn K (.builtin "object.__class__")=some true)
   (hm:PySem.W.mroIn K C (.type "object")=some true):Jk K H (.ref a) (.ref C)
theorem Zem {x:V}{u t:Value} (I:Inv X pins σ H s) (rx:RelV x u) (ty:Jk X.K H x t) (e:PySem.W.kitOne X.K t c=some b) (h:∀ tk,Q (.bool b) { s with toks:=tk }):
  wpAny (model X.prog X.w) A (call (.builtin "isinstance") [u,c]) Q E s:=by
 cases ty with
 | non=>cases (show u=Value.none from rx);exact PySem.W.kia_one PySem.W.kitx_none I.ux True.intro e (fun z=>nomatch z) h
 | bl y=>cases (show u=Value.bool y from rx);exact PySem.W.kia_one PySem.W.kitx_bool I.ux True.intro e (fun z=>nomatch z) h
 | int i=>obtain ⟨t,q⟩:=(show ∃ t,u=Value.int i t from rx);cases q;exact PySem.W.kia_one PySem.W.kitx_int I.ux True.intro e (fun z=>nomatch z) h
 | str y=>obtain ⟨t,q⟩:=(show ∃ t,u=Value.str y t from rx);cases q;exact PySem.W.kia_one PySem.W.kitx_str I.ux True.intro e (fun z=>nomatch z) h
 | flt y=>obtain ⟨t,q⟩:=(show ∃ t,u=Value.float y t from rx);cases q;exact PySem.W.kia_one PySem.W.kitx_float I.ux True.intro e (fun z=>nomatch z) h
 | @lst a xs ea=>
  cases (show u=Value.ref a from rx);obtain ⟨_,_,n,_,h1⟩:=(show jQ X.prog X.w H s.heap a (.lst xs) from I.hok a _ ea);exact PySem.W.kia_one PySem.W.kitx_list I.ux ⟨_,h1,rfl⟩ e (fun z=>nomatch z) h
 | @yd a ob xs ea=>
  cases (show u=Value.ref a from rx);obtain ⟨_,_,_,n,_,h1⟩:=(show jQ X.prog X.w H s.heap a (.yd ob (.lst xs)) from I.hok a _ ea);exact PySem.W.kia_one PySem.W.kitx_list I.ux ⟨_,h1,rfl⟩ e (fun z=>nomatch z) h
 | @tup a xs ea=>
  cases (show u=Value.ref a from rx);obtain ⟨_,_,_,p⟩:=(show jQ X.prog X.w H s.heap a (.tup xs) from I.hok a _ ea);obtain ⟨o,h1,h2,_⟩:=p;exact PySem.W.kia_one PySem.W.kitx_tuple I.ux ⟨o,h1,h2⟩ e (fun z=>nomatch z) h
 | @dK a kvs ea=>
  cases (show u=Value.ref a from rx);obtain ⟨_,_,vs,_,p⟩:=(show jQ X.prog X.w H s.heap a (.dK kvs) from I.hok a _ ea);obtain ⟨o,es,ep,h1,h2,_⟩:=p;exact PySem.W.kia_one PySem.W.kitx_dict I.ux ⟨o,h1,h2.1⟩ e (fun z=>nomatch z) h
 | @dT a kvs ea=>
  cases (show u=Value.ref a from rx);obtain ⟨_,_,xs,_,o,es,ep,h1,h2,_⟩:=(show jQ X.prog X.w H s.heap a (.dT kvs) from I.hok a _ ea);exact PySem.W.kia_one PySem.W.kitx_dict I.ux ⟨o,h1,h2.1⟩ e (fun z=>nomatch z) h
 | @ins a C dx fs ea cl ha hn htk hm=>
  cases (show u=Value.ref a from rx);obtain ⟨mA,O,_⟩:=KR I.hok ea;obtain ⟨od,J,_⟩:=O.look;exact PySem.W.kia_one (PySem.W.kitx_own (cl.get _) cl.hd ha hn htk hm) I.ux J e (fun z=>nomatch z) h
end
end L2
namespace L2
open PySem PySem.Spec PyProof.Rows
structure Room (k:Nat) (A:Around):Prop where
 hd:A.handled=none
 dp:A.depth + 3 * k + 5 < recursionLimit
 un:A.units + 16 * k + 200 < cLine
theorem Room.mono {j k:Nat}{A:Around} (r:Room k A) (h:j≤k):Room j A:=⟨r.hd,by have:=r.dp;omega,by have:=r.un;omega⟩
theorem Room.deeper {k:Nat}{A:Around} (r:Room (k + 1) A) (env:Env):Room k (A.deeper env):=
 ⟨r.hd,by have:=r.dp;show A.depth + 1 + 3 * k + 5 < _;omega,by have:=r.un;show A.units + 3 + 16 * k + 200 < _;omega⟩
theorem Zav {A:Around}{C:Addr}{us:List Value}{kw:List (Str×Value)}:(A.under (.builtin "type.__call__" ⟨.ref C :: us,kw⟩)).depth=A.depth + 1:=by
 first | rfl | simp [Around.under,Code.weight,Code.isCreation,Code.isGuard,Code.isCaller,Code.frames,Code.isFrame,guardIds]
theorem Zau {A:Around}{C:Addr}{us:List Value}{kw:List (Str×Value)}:(A.under (.builtin "type.__call__" ⟨.ref C :: us,kw⟩)).units=A.units + 1:=by
 first | rfl | simp [Around.under,Code.cUnits,Code.frames,Code.isFrame]
theorem Room.make {k:Nat}{A:Around} (r:Room (k + 1) A) (C:Addr) (us:List Value) (kw:List (Str×Value)):Room k (A.under (.builtin "type.__call__" ⟨.ref C :: us,kw⟩)):=
 ⟨r.hd,by have:=r.dp;rw [Zav];omega,by have:=r.un;rw [Zau];omega⟩
theorem Room.depth {k:Nat}{A:Around} (r:Room k A):A.depth < recursionLimit:=by have:=r.dp;omega
theorem Room.units {k:Nat}{A:Around} (r:Room k A):A.units + 64 < cLine:=by have:=r.un;omega
def aL:TA:=fun _ H Q=>Q [] H
def ak (ta:TE) (tr:TA):TA:=fun σ H Q=>ta σ H fun x H1=>tr σ H1 fun xs H2=>Q (x :: xs) H2
section
variable {X:Cx}{e:Expr}{es:List Expr}{te:TE}{t:TA}{pos:Pos}
theorem az:PA X [] aL:=fun _ _ _ _ H Q I h=>Calls.spliced_nil ⟨[],H,I,.nil,h⟩
theorem aa (ha:PE X e te) (hr:PA X es t) (hs:starEach (e :: es) X.env=(false,eval e X.env) :: starEach es X.env:=by rfl):PA X (e :: es) (ak te t):=by
 intro pos pins s σ H Q I h;rw [hs];show wpAny _ _ (spliced ((false,eval e X.env) :: backTo pos (starEach es X.env))) _ _ s;refine Calls.spliced_cons (iD (ha pins s σ H _ I h) fun u s1 ⟨x,H1,I1,r1,q1⟩=>?_);exact iD (hr pos pins s1 σ H1 _ I1 q1) fun us s2 ⟨xs,H2,I2,r2,q2⟩=>⟨x :: xs,H2,I2,.cons r1 r2,q2⟩
def lG (t:TA):TE:=fun σ H Q=>t σ H fun xs H1=>xs.length≤sizeLine∧∀ p,H1 p=none→Q (.ref p) (upd H1 p (.tup xs))
def jR (t:TA):TE:=fun σ H Q=>t σ H fun xs H1=>xs.length≤sizeLine∧∀ p,H1 p=none→Q (.ref p) (upd H1 p (.lst xs))
theorem eY {x1} (h:PA X es t):PE X (.Tuple es x1 pos) (lG t):=by
 intro pins s σ H Q I hq;refine wpAny_Tuple_spliced (iD (h pos pins s σ H _ I hq) fun us s1 ⟨xs,H1,I1,r,z,q⟩=>⟨by rw [← r.length];exact z,?_⟩);have hf:H1 s1.heap.objs.size=none:=I1.hok.fresh (Nat.le_refl _);refine ⟨.ref s1.heap.objs.size,upd H1 s1.heap.objs.size (.tup xs),I1.laid (t':=s1.toks) (fun b u e=>Heap.get?_push_of_some _ e) (Nat.le_refl _) ?_,rfl,q _ hf⟩;exact ⟨z,us,r,⟨_,Heap.get?_push_size _ rfl,rfl,_,rfl⟩⟩
theorem dJ (h:PA X es t):PE X (.List es pos) (jR t):=by
 intro pins s σ H Q I hq;refine wpAny_List_spliced (iD (h pos pins s σ H _ I hq) fun us s1 ⟨xs,H1,I1,r,z,q⟩=>⟨by rw [← r.length];exact z,?_⟩);have hf:H1 s1.heap.objs.size=none:=I1.hok.fresh (Nat.le_refl _);refine ⟨.ref s1.heap.objs.size,upd H1 s1.heap.objs.size (.lst xs),I1.laid (t':=s1.toks) (fun b u e=>Heap.get?_push_of_some _ e) (Nat.le_refl _) ?_,rfl,q _ hf⟩;exact ⟨z,us,0,r,Heap.get?_push_size _ rfl⟩
end
abbrev Sp:=List V→Hp→VK→XK→Prop
abbrev Xa:=List Env→Hp→Shared→XK→Value→Shared→Prop
structure Zc8 (P:Program) (w:World) (K:aG) (mg:Str→Option Value) (base:Heap) (A:Around) (outer:List Env) (s:Shared) (H:Hp):Prop where
 frames:A.frames=some outer
 mod:Mod K mg base
 bs:∀ b o,base.get? b=some o→s.heap.get? b=some o∧H b=none
 bsz:base.objs.size≤s.heap.objs.size
 vR:s.heap.FunFrames base outer
 frf:∀ b∈frs outer,H b=none
 hok:yp P w H s.heap
 bare:AllBare s.gens
def CE (outer:List Env) (P:Program) (w:World) (H:Hp) (s:Shared) (Q:VK) (u:Value) (s':Shared):Prop:=
 ∃ v H',s'.os=s.os∧AllBare s'.gens∧Un (frs outer) [] H H' s.heap s'.heap∧yp P w H' s'.heap∧RelV v u∧Q v H'
def CR (CX:Xa) (outer:List Env) (P:Program) (w:World) (H:Hp) (s:Shared) (Q:VK) (E:XK) (r:Result) (s':Shared):Prop:=
 match r with
 | .ok (.ret u)=>CE outer P w H s Q u s'
 | .ok _=>False
 | .error e=>CX outer H s E e s'
structure qP (P:Program) (w:World) (K:aG) (mg:Str→Option Value) (base:Heap) (CX:Xa) (k:Nat) (f:Addr) (fd:FuncData) (ps:List Str) (sp:Sp):Prop where
 len:∀ vs H Q E,sp vs H Q E→vs.length=ps.length
 run:∀ (A:Around) (outer:List Env) (s:Shared) (H:Hp) (args:Args) (us:List Value) (vs:List V) (Q:VK) (E:XK),Room k A→Zc8 P w K mg base A outer s H→BindsTo s fd args (ps.zip us)→Vals vs us→sp vs H Q E→
  codeAny (model P w) A (.call (.ref f) args) (CR CX outer P w H s Q E) s
theorem Zc8.make {P:Program}{w:World}{K:aG}{mg:Str→Option Value}{base:Heap}{A:Around}{outer:List Env}{s:Shared}{H:Hp} (e:Zc8 P w K mg base A outer s H) (C:Addr) (us:List Value) (kw:List (Str×Value)):
  Zc8 P w K mg base (A.under (.builtin "type.__call__" ⟨.ref C :: us,kw⟩)) outer s H:=⟨by first | exact e.frames | (simpa [Around.under,Code.envs,Code.isFrame,pushEnvs] using e.frames),e.mod,e.bs,e.bsz,e.vR,e.frf,e.hok,e.bare⟩
section
variable {X:Cx}{pins:List (Addr×Obj)}{σ:St}{H:Hp}{s s':Shared}
theorem Inv.env0 (I:Inv X pins σ H s):Zc8 X.prog X.w X.K X.mg X.base X.A X.stack s H:=
 ⟨I.ok.frames,I.ok.mod,I.bs,Nat.le_trans I.ok.bsz I.sz,I.stack,I.Kz,I.hok,I.bare⟩
theorem Inv.after {Q:VK}{u:Value} (I:Inv X pins σ H s) (h:CE X.stack X.prog X.w H s Q u s'):EP X pins σ Q u s':=by
 obtain ⟨v,H',os,bare,un,hok,r,q⟩:=h;obtain ⟨hh,g,d,t,os'⟩:=s';obtain rfl:os'=s.os:=os;exact ⟨v,H',I.call (h':=hh) (g':=g) (d':=d) (t':=t) (ch:=[]) un hok bare (fun b z=>absurd z (by simp)),r,q⟩
end
def bz (sp:Sp) (tZ:List V) (E:XK) (t:TA):TE:=fun σ H Q=>t σ H fun vs H1=>sp (vs ++ tZ) H1 Q E
def qF (C:Addr) (m:Str) (sp:Sp) (tZ:List V) (E:XK) (ta:TE) (t:TA):TE:=fun σ H Q=>ta σ H fun x H1=>∃ a dx fs,x=.ref a∧H1 a=some (.ins C dx fs)∧fs.lookup m=none∧
 t σ H1 fun vs H2=>sp (x :: (vs ++ tZ)) H2 Q E
def CP (C:Addr) (sp:Sp) (tZ:List V) (E:XK) (t:TA):TE:=fun σ H Q=>t σ H fun vs H1=>∀ x dx,H1 x=none→H1 dx=none→dx≠x→
 sp (.ref x :: (vs ++ tZ)) (upd (upd H1 dx (.own x)) x (.ins C dx [])) (fun v H2=>v=.non∧Q (.ref x) H2) E
def Binds (K:aG) (fd:FuncData) (ps:List Str) (ds:List Value):Prop:=
 ∀ (s:Shared) (us:List Value),K.In s.heap→(us ++ ds).length=ps.length→BindsTo s fd ⟨us,[]⟩ (ps.zip (us ++ ds))
theorem Binds.all {K:aG}{fd:FuncData}{ps:List Str} (h:∀ us:List Value,us.length=ps.length→bindArgs fd ⟨us,[]⟩=pure (ps.zip us)):Binds K fd ps []:=fun s us _ hl=>by
 rw [List.append_nil] at hl ⊢;exact .of_eq (h us hl)
def Passes (CX:Xa) (X:Cx) (E:XK):Prop:=∀ (pins:List (Addr×Obj)) (σ:St) (H:Hp) (s:Shared) (e:Value) (s':Shared),Inv X pins σ H s→CX X.stack H s E e s'→X.xe e s'
section
variable {X:Cx}{CX:Xa}{k:Nat}{f C:Addr}{fd:FuncData}{ps:List Str}{sp:Sp}{tZ:List V}{ds:List Value}{E:XK}{x m:Str}{p pos apos:Pos}{e o:Expr}{es:List Expr}{ta:TE}{t:TA}
theorem Ui {pins:List (Addr×Obj)}{σ:St}{H:Hp}{s:Shared}{Q:VK}{us:List Value}{vs:List V} (F:qP X.prog X.w X.K X.mg X.base CX k f fd ps sp) (hr:Room k X.A) (hb:Binds X.K fd ps ds) (hd:Vals tZ ds) (hx:Passes CX X E)
  (I:Inv X pins σ H s) (r:Vals vs us) (h:sp (vs ++ tZ) H Q E):wpAny (model X.prog X.w) X.A (call (.ref f) us) (EP X pins σ Q) X.xe s:=by
 have r2:Vals (vs ++ tZ) (us ++ ds):=r.append hd;have hl:(us ++ ds).length=ps.length:=by rw [← r2.length];exact F.len _ _ _ _ h
 refine wpAny_call (codeAny_mono (F.run X.A X.stack s H ⟨us,[]⟩ (us ++ ds) (vs ++ tZ) Q E hr I.env0 (hb s us I.ux hl) r2 h) fun r s' hq=>?_);cases r with
 | error e=>exact hx pins σ H s e s' I hq
 | ok fl=>
  cases fl with
  | ret u=>exact I.after hq
  | next=>exact False.elim hq
  | brk=>exact False.elim hq
  | cont=>exact False.elim hq
theorem qj (F:qP X.prog X.w X.K X.mg X.base CX k f fd ps sp) (hr:Room k X.A) (hg:Gl X x) (hm:X.mg x=some (.ref f)) (hk:PySem.W.keepIn X.K (.ref f)=true) (hb:Binds X.K fd ps ds) (hd:Vals tZ ds) (hx:Passes CX X E)
  (ha:PA X (e :: es) t) (hdb:(x == ("__debug__":Str))=false:=by decide) (he:starEach (e :: es) X.env=(false,eval e X.env) :: starEach es X.env:=by rfl) (hpl:(backTo pos (starEach es X.env)).any (·.1)=false:=by rfl):
  PE X (.Call (.Name x p) (e :: es) [] pos) (bz sp tZ E t):=by
 intro pins s σ H Q I h;refine wpAny_Call_Name_kw (jA I hg hm ?_ hdb);refine PySem.W.callWith_K (h₀:=X.base) I.ok.mod.kin hk (iD (ha pos pins s σ H _ I h) fun us s1 ⟨vs,H1,I1,r,q⟩=>⟨I1.ux,?_⟩) he hpl;exact Ui F hr hb hd hx I1 r q
theorem z6 {pl:Sem Bool} (he:PE X o ta) (c:Bo X.K C) (hm:Meth X.K C m f) (F:qP X.prog X.w X.K X.mg X.base CX k f fd ps sp) (hr:Room k X.A) (hb:Binds X.K fd ps ds) (hd:Vals tZ ds) (hx:Passes CX X E) (ha:PA X (e :: es) t)
  (hst:starEach (e :: es) X.env=(false,eval e X.env) :: starEach es X.env:=by rfl) (hpl:(backTo pos (starEach es X.env)).any (·.1)=false:=by rfl)
  (ht:eval (.Call (.Attribute o m apos) (e :: es) [] pos) X.env=(do
   let ov ← eval o X.env
   standAt apos.atName
   let (f,first) ← holding [ov] (getMethod ov m pl)
   callWith pos f first (backTo pos (starEach (e :: es) X.env)) (backToKw pos (keywordEach [] X.env))):=by rfl):
  PE X (.Call (.Attribute o m apos) (e :: es) [] pos) (qF C m sp tZ E ta t):=by
 intro pins s σ H Q I h;refine PySem.W.methodCall_KW (pl:=pl) (iD (he pins s σ H _ I h) fun u s1 ⟨x,H1,I1,rx,a,dx,fs,ex,ea,l,q⟩=>?_) ht;subst ex;obtain rfl:u=Value.ref a:=rx;refine NK I1 ea c hm l ?_;refine PySem.W.callWith_K (first:=[.ref a]) (h₀:=X.base) I.ok.mod.kin hm.kp (iD (ha pos pins s1 σ H1 _ I1 q) fun us s2 ⟨vs,H2,I2,r,q2⟩=>⟨I2.ux,?_⟩) hst hpl;exact Ui (us:=.ref a :: us) (vs:=.ref a :: vs) F hr hb hd hx I2 (.cons rfl r) q2
theorem qI {pl:Sem Bool} (he:PE X o ta) (c:Bo X.K C) (hm:Meth X.K C m f) (F:qP X.prog X.w X.K X.mg X.base CX k f fd ps sp) (hr:Room k X.A) (hb:Binds X.K fd ps ds) (hd:Vals tZ ds) (hx:Passes CX X E)
  (ht:eval (.Call (.Attribute o m apos) [] [] pos) X.env=(do
   let ov ← eval o X.env
   standAt apos.atName
   let (f,first) ← holding [ov] (getMethod ov m pl)
   callWith pos f first (backTo pos (starEach [] X.env)) (backToKw pos (keywordEach [] X.env))):=by rfl):
  PE X (.Call (.Attribute o m apos) [] [] pos) (qF C m sp tZ E ta aL):=by
 intro pins s σ H Q I h;refine PySem.W.methodCall_KW (pl:=pl) (iD (he pins s σ H _ I h) fun u s1 ⟨x,H1,I1,rx,a,dx,fs,ex,ea,l,q⟩=>?_) ht;subst ex;obtain rfl:u=Value.ref a:=rx;refine NK I1 ea c hm l ?_;exact PySem.W.callWith_K0 (first:=[.ref a]) I1.ux hm.kp (Ui (us:=[.ref a]) (vs:=[.ref a]) F hr hb hd hx I1 (.cons rfl .nil) q)
structure Mk (K:aG) (C f:Addr):Prop where
 makes:PySem.W.makesIn K C=true
 init:PySem.W.findIn K (.ref C) "__init__"=some (some (.ref f))
 fn:PySem.W.isFn K (.ref f)=true
 kp:PySem.W.keepIn K (.ref C)=true
theorem Xv {pins:List (Addr×Obj)}{σ:St}{H:Hp}{s:Shared}{Q:VK}{us:List Value}{vs:List V} (M:Mk X.K C f) (F:qP X.prog X.w X.K X.mg X.base CX k f fd ps sp) (hr:Room (k + 1) X.A) (hb:Binds X.K fd ps ds) (hd:Vals tZ ds)
  (hx:Passes CX X E) (I:Inv X pins σ H s) (r:Vals vs us)
  (h:∀ x dx,H x=none→H dx=none→dx≠x→sp (.ref x :: (vs ++ tZ)) (upd (upd H dx (.own x)) x (.ins C dx [])) (fun v H2=>v=.non∧Q (.ref x) H2) E):
  wpAny (model X.prog X.w) X.A (call (.ref C) us) (EP X pins σ Q) X.xe s:=by
 have hq:=h (s.heap.objs.size + 1) s.heap.objs.size (I.hok.fresh (Nat.le_succ _)) (I.hok.fresh (Nat.le_refl _)) (Nat.ne_of_lt (Nat.lt_succ_self _));have I2:=Inv.made (C:=C) I;have r2:Vals (V.ref (s.heap.objs.size + 1) :: (vs ++ tZ)) (Value.ref (s.heap.objs.size + 1) :: (us ++ ds)):=.cons rfl (r.append hd);have hl:(Value.ref (s.heap.objs.size + 1) :: us ++ ds).length=ps.length:=by
  have e:=r2.length;rw [F.len _ _ _ _ hq] at e;exact e.symm
 refine wpAny_call (Zgx (f:=f) I.ux M.makes M.init (beq_iff_eq.mp M.fn) (codeAny_mono (F.run _ X.stack _ _ ⟨Value.ref (s.heap.objs.size + 1) :: us,[]⟩ (Value.ref (s.heap.objs.size + 1) :: (us ++ ds)) _ _ E (hr.make C us [])
  (I2.env0.make C us []) (hb _ (Value.ref (s.heap.objs.size + 1) :: us) I2.ux hl) r2 hq) fun r s' hq'=>?_))
 cases r with
 | error e=>exact hx pins σ _ _ e s' I2 hq'
 | ok fl=>
  cases fl with
  | ret u=>
   obtain ⟨v,H',I3,rv,ev,q3⟩:=I2.after hq';subst ev;exact ⟨rv,⟨V.ref (s.heap.objs.size + 1),H',I3,rfl,q3⟩⟩
  | next=>exact False.elim hq'
  | brk=>exact False.elim hq'
  | cont=>exact False.elim hq'
theorem Dm (M:Mk X.K C f) (F:qP X.prog X.w X.K X.mg X.base CX k f fd ps sp) (hr:Room (k + 1) X.A) (hg:Gl X x) (hm:X.mg x=some (.ref C)) (hb:Binds X.K fd ps ds) (hd:Vals tZ ds) (hx:Passes CX X E)
  (ha:PA X (e :: es) t) (hdb:(x == ("__debug__":Str))=false:=by decide) (he:starEach (e :: es) X.env=(false,eval e X.env) :: starEach es X.env:=by rfl) (hpl:(backTo pos (starEach es X.env)).any (·.1)=false:=by rfl):
  PE X (.Call (.Name x p) (e :: es) [] pos) (CP C sp tZ E t):=by
 intro pins s σ H Q I h;refine wpAny_Call_Name_kw (jA I hg hm ?_ hdb);refine PySem.W.callWith_K (h₀:=X.base) I.ok.mod.kin M.kp (iD (ha pos pins s σ H _ I h) fun us s1 ⟨vs,H1,I1,r,q⟩=>⟨I1.ux,?_⟩) he hpl;exact Xv M F hr hb hd hx I1 r q
theorem Zgb (M:Mk X.K C f) (F:qP X.prog X.w X.K X.mg X.base CX k f fd ps sp) (hr:Room (k + 1) X.A) (hg:Gl X x) (hm:X.mg x=some (.ref C)) (hb:Binds X.K fd ps ds) (hd:Vals tZ ds) (hx:Passes CX X E)
  (hdb:(x == ("__debug__":Str))=false:=by decide):PE X (.Call (.Name x p) [] [] pos) (CP C sp tZ E aL):=by
 intro pins s σ H Q I h;refine wpAny_Call_Name_kw (jA I hg hm ?_ hdb);exact PySem.W.callWith_K0 I.ux M.kp (Xv (us:=[]) M F hr hb hd hx I .nil h)
end
section
variable {X:Cx}{CX:Xa}{k:Nat}{f C:Addr}{fd:FuncData}{ps ks:List Str}{sp:Sp}{E:XK}{x m:Str}{p pos apos kpos:Pos}{e o:Expr}{es:List Expr}{kws:List Keyword}{te ta:TE}{t tk:TA}{nm:Option Str}
structure Zzk (K:aG) (fd:FuncData) (ps ks:List Str) (g:List Value→List Value→List Value) (gV:List V→List V→List V):Prop where
 to:∀ (s:Shared) (us ws:List Value),K.In s.heap→(g us ws).length=ps.length→BindsTo s fd ⟨us,ks.zip ws⟩ (ps.zip (g us ws))
 rel:∀ {vs:List V}{us:List Value}{zs:List V}{ws:List Value},Vals vs us→Vals zs ws→Vals (gV vs zs) (g us ws)
variable {g:List Value→List Value→List Value}{gV:List V→List V→List V}
end
structure aU (N P:List Str) (sc:Scope):Prop where
 kind:sc.kind=.function
 co:sc.isCoroutine=false
 gen:sc.isGenerator=false
 nd:N.Nodup
 pre:N.take P.length=P
 par:∀ x∈P,sc.names.lookup x=some .local∨sc.names.lookup x=some .cell
 Znd:∀ y∈sc.names,y.2≠.free
theorem Sy {kindOf:Str→Option NameKind}{x:Str}:∀ {binds:List (Str×Value)}{m:Str→Option Value},(∀ v,(x,v)∉binds)→bindL kindOf binds m x=m x
 | [],_,_=>rfl
 | (n,v) :: r,m,h=>by
  unfold bindL;rw [Sy fun w hw=>h w (List.mem_cons_of_mem _ hw)];split
  ·have:x≠n:=by rintro rfl;exact h v List.mem_cons_self
   simp [this]
  ·rfl
theorem SM {kindOf:Str→Option NameKind}{x:Str}:∀ {binds:List (Str×Value)}{m:Str→Option Value},(∀ v,(x,v)∉binds)→bindC kindOf binds m x=m x
 | [],_,_=>rfl
 | (n,v) :: r,m,h=>by
  unfold bindC;rw [SM fun w hw=>h w (List.mem_cons_of_mem _ hw)];split
  ·rfl
  ·have:x≠n:=by rintro rfl;exact h v List.mem_cons_self
   simp [this]
theorem SJ {kindOf:Str→Option NameKind}{x:Str}{v:Value}:∀ {P:List Str}{vs:List Value}{i:Nat}{m:Str→Option Value},P.Nodup→P[i]? =some x→vs[i]? =some v→kindOf x=some .local→
  bindL kindOf (P.zip vs) m x=some v
 | [],_,_,_,_,h,_,_=>by simp at h
 | _ :: _,[],_,_,_,_,h,_=>by simp at h
 | p :: P,w :: vs,0,m,nd,h1,h2,hk=>by
  simp at h1 h2;subst h1;subst h2;show bindL kindOf ((p,w) :: P.zip vs) m p=_;unfold bindL;rw [Sy fun v hv=>(List.nodup_cons.mp nd).1 (List.of_mem_zip hv).1,if_pos hk];simp
 | p :: P,w :: vs,i + 1,m,nd,h1,h2,hk=>by
  show bindL kindOf ((p,w) :: P.zip vs) m x=_;unfold bindL;exact SJ (i:=i) (List.nodup_cons.mp nd).2 (by simpa using h1) (by simpa using h2) hk
theorem SN {kindOf:Str→Option NameKind}{x:Str}{v:Value}:∀ {P:List Str}{vs:List Value}{i:Nat}{m:Str→Option Value},P.Nodup→P[i]? =some x→vs[i]? =some v→kindOf x≠some .local→
  bindC kindOf (P.zip vs) m x=some v
 | [],_,_,_,_,h,_,_=>by simp at h
 | _ :: _,[],_,_,_,_,h,_=>by simp at h
 | p :: P,w :: vs,0,m,nd,h1,h2,hk=>by
  simp at h1 h2;subst h1;subst h2;show bindC kindOf ((p,w) :: P.zip vs) m p=_;unfold bindC;rw [SM fun v hv=>(List.nodup_cons.mp nd).1 (List.of_mem_zip hv).1,if_neg hk];simp
 | p :: P,w :: vs,i + 1,m,nd,h1,h2,hk=>by
  show bindC kindOf ((p,w) :: P.zip vs) m x=_;unfold bindC;exact SN (i:=i) (List.nodup_cons.mp nd).2 (by simpa using h1) (by simpa using h2) hk
def start (N:List Str) (vs:List V):St:=vs.map some ++ List.replicate (N.length - vs.length) none
def Jf (CX:Xa) (P:Program) (w:World) (K:aG) (mg:Str→Option Value) (base:Heap) (N:List Str) (qual:Str) (scope:Scope) (f:Addr) (cd:Value) (A:Around) (outer:List Env) (s:Shared) (H:Hp) (E:XK):Cx where
 prog:=P
 w:=w
 K:=K
 mg:=mg
 base:=base
 A:=A.deeper (envOfC qual scope s.heap.objs.size f cd)
 N:=N
 s₀:=s
 H₀:=H
 env:=envOfC qual scope s.heap.objs.size f cd
 outer:=outer
 stack:=envOfC qual scope s.heap.objs.size f cd :: outer
 ex:=[]
 calm:=true
 fn:=fun _=>true
 pn:=[]
 xe:=fun e s'=>wpAny (model P w) (A.deeper (envOfC qual scope s.heap.objs.size f cd)) (leaving (envOfC qual scope s.heap.objs.size f cd) e) (fun _ s''=>CX outer H s E e s'') (fun e' s''=>CX outer H s E e' s'') s'
theorem Y6 {sc:Scope}{n:Nat}{x:Str} (h:sc.names.lookup x=some .cell):∃ c,(cellsFrom n sc.names []).lookup x=some c:=by
 have q:=PySem.W.cellsFrom_some sc.names n [] (.inl h);exact Option.isSome_iff_exists.mp q
theorem Zen {CX:Xa}{P:Program}{w:World}{K:aG}{mg:Str→Option Value}{base:Heap}{N ps:List Str}{qual:Str}{scope:Scope}{f:Addr}{cd:Value}{A:Around}{outer:List Env}{s s1:Shared}{H:Hp}{E:XK}{us:List Value}{vs:List V}
  (S:aU N ps scope) (hd:A.handled=none) (e0:Zc8 P w K mg base A outer s H) (hl:vs.length=ps.length) (r:Vals vs us)
  (x:InCallC s s.heap.objs.size (bindL (envOfC qual scope s.heap.objs.size f cd).kindOf (ps.zip us) fun _=>none) (cellsFrom (s.heap.objs.size + 1) scope.names []) (bindC (envOfC qual scope s.heap.objs.size f cd).kindOf (ps.zip us) fun _=>none) s1):
  Inv (Jf CX P w K mg base N qual scope f cd A outer s H E) [] (start N vs) H s1:=by
 have hpl:ps.length≤N.length:=by have:=congrArg List.length S.pre;rw [List.length_take] at this;omega
 obtain ⟨h1,tk,rfl,hk⟩:=x.done;have noA:∀ b:Addr,b∉(Jf CX P w K mg base N qual scope f cd A outer s H E).ex:=fun b z=>absurd (show b∈([]:List Addr) from z) (by simp);refine ⟨⟨e0.mod,S.kind,rfl,rfl,Nat.le_refl _,fun y z c h1 h2=>?_,fun y hy=>?_,fun y c _ h=>?_,fun _=>hd,Around.frames_deeper e0.frames,.inr ⟨rfl,rfl⟩,fun b z=>absurd z (noA b),e0.bs,e0.bsz,fun b _ _=>noA b,fun b z=>absurd z (noA b),e0.vR,e0.frf⟩,
  rfl,e0.bare,Un.kept hk,⟨_,x.toInCall.ns,fun i y v h1 h2 h3=>?_⟩,fun y c h=>⟨_,x.cell y c h⟩,e0.hok.fresh (Nat.le_refl _),fun y c h=>?_,fun p hp=>absurd (show p∈([]:List (Addr×Obj)) from hp) (by simp),e0.hok.kept hk,?_⟩
 ·exact name_of_addr x.apart (PySem.mem_of_lookup h1) (PySem.mem_of_lookup h2)
 ·have hy:scope.names.lookup y=some .cell∨scope.names.lookup y=some .free:=hy;rcases hy with hy | hy
  ·exact Y6 hy
  ·exact absurd rfl (S.Znd _ (PySem.mem_of_lookup hy))
 ·exact Nat.le_of_lt (x.above y c (PySem.mem_of_lookup h))
 ·have hi:i < vs.length:=by
   unfold start at h2
   by_cases hi:i < vs.length
   ·exact hi
   ·rw [List.getElem?_append_right (by simpa using hi)] at h2;rw [List.getElem?_replicate] at h2;split at h2<;>cases h2
  have ha:vs[i]? =some v:=by
   unfold start at h2;rw [List.getElem?_append_left (by simpa using hi),bx] at h2;cases e:vs[i]? with
   | none=>rw [e] at h2;cases h2
   | some a=>rw [e] at h2;cases h2;rfl
  obtain ⟨u,hu,rv⟩:=r.get ha;have hp:ps[i]? =some y:=by
   rw [← S.pre,List.getElem?_take_of_lt (by omega)];exact h1
  have ndP:ps.Nodup:=by rw [← S.pre];exact S.nd.sublist (List.take_sublist _ _)
  refine ⟨u,rv,?_⟩;rcases S.par y (List.mem_of_getElem? hp) with k | k
  ·exact .inl ⟨k,SJ ndP hp hu k⟩
  ·obtain ⟨c,e⟩:=Y6 (n:=s.heap.objs.size + 1) k;refine .inr ⟨.inl k,c,e,?_⟩;have q:=x.cell y c e;rw [SN ndP hp hu (by show scope.names.lookup y≠_;rw [k];decide)] at q;exact q
 ·exact e0.hok.fresh (Nat.le_of_lt (x.above y c (PySem.mem_of_lookup h)))
 ·unfold start;show _=N.length;rw [List.length_append,bh,List.length_replicate];omega
theorem Zi7 {CX:Xa}{P:Program}{w:World}{K:aG}{mg:Str→Option Value}{base:Heap}{k:Nat}{f:Addr}{name qual:Str}{params:Arguments}{body:List Stmt}{scope:Scope}{dV kV doc pm cdv ct oc:Value}{an od:Option Addr}
  {osl:Array (Option Value)}{N ps:List Str}{sp:Sp} (lk:K.lookup f=some ⟨oc,od,.func (PySem.W.fnOf name qual params body scope dV kV doc pm an cdv ct),osl⟩) (hcd:PySem.W.codeIn K cdv qual=true) (S:aU N ps scope)
  (len:∀ vs H Q E,sp vs H Q E→vs.length=ps.length)
  (hbody:∀ (A:Around) (outer:List Env) (s:Shared) (H:Hp) (vs:List V) (Q:VK) (E:XK),Room k (A.deeper (envOfC qual scope s.heap.objs.size f cdv))→sp vs H Q E→
   ∃ t,SQ (Jf CX P w K mg base N qual scope f cdv A outer s H E) body t∧t { nx:=fun _ H'=>Q .non H',rt:=Q } (start N vs) H):
  qP P w K mg base CX (k + 1) f (PySem.W.fnOf name qual params body scope dV kV doc pm an cdv ct) ps sp:=by
 refine ⟨len,fun A outer s H args us vs Q E hr e0 hb r hsp=>?_⟩;have hl:=len _ _ _ _ hsp;have KX:K.In s.heap:=e0.mod.kin.keeps fun b o e=>(e0.bs b o e).1;have lim:s.heap.NoLimit:=e0.mod.nolimit.keeps fun b o e=>(e0.bs b o e).1;have hkind:∀ y∈ps.zip us,scope.names.lookup y.1=some .local∨(scope.names.lookup y.1=some .cell∧((cellsFrom (s.heap.objs.size + 1) scope.names []).lookup y.1).isSome=true):=fun ⟨n,v⟩ hy=>by
  rcases S.par n (List.of_mem_zip hy).1 with q | q
  ·exact .inl q
  ·exact .inr ⟨q,PySem.W.cellsFrom_some _ _ _ (.inl q)⟩
 refine codeAny_call_function hr.depth (KX _ _ lk) rfl S.co S.gen rfl (PySem.W.codeRec_of KX hcd) (hb _ _ _ _ ?_);refine wpAny_newFunctionEnv_cells S.kind hkind fun env he s1 x=>?_;subst he;refine ⟨lim.keeps x.toInCall.keep,codeAny_func ?_⟩;obtain ⟨t,ht,hq⟩:=hbody A outer s H vs Q E (hr.deeper _) hsp;have I:Inv (Jf CX P w K mg base N qual scope f cdv A outer s H E) [] (start N vs) H s1:=Zen S hr.hd e0 hl r x;refine wpAny_mono (ht [] s1 (start N vs) H _ I hq) (fun fl s' hs=>?_) fun e s' hs=>hs;have fin:∀ {σ':St}{H':Hp}{v:V}{u:Value},Inv (Jf CX P w K mg base N qual scope f cdv A outer s H E) [] σ' H' s'→RelV v u→Q v H'→CE outer P w H s Q u s':=
  fun {σ' H' v u} J rv q=>⟨v,H',J.os,J.bare,J.base,J.hok,rv,q⟩
 cases fl with
 | ret u=>
  obtain ⟨v,σ',H',J,rv,q⟩:=hs;exact fin J rv q
 | next=>
  obtain ⟨σ',H',J,q⟩:=hs;exact fin (v:=V.non) (u:=Value.none) J rfl q
 | brk=>
  obtain ⟨_,_,_,q⟩:=hs;exact False.elim q
 | cont=>
  obtain ⟨_,_,_,q⟩:=hs;exact False.elim q
end L2
namespace L2
open PySem PySem.Spec PyProof.Rows
section
variable {X:Cx}{x:Str}{p pos:Pos}{e:Expr}{es:List Expr}{t:TA}{id T:String}{r:List V→Hp→VK→Prop}
def Ad (r:List V→Hp→VK→Prop) (t:TA):TE:=fun σ H Q=>t σ H fun vs H1=>r vs H1 Q
theorem bL (hc:Ot X (.builtin id) r) (hg:Gl X x) (hm:X.mg x=none) (hv:bootBuiltins x=some (.builtin id)) (ha:PA X (e :: es) t) (hn:x≠"__name__":=by decide) (hdb:(x == ("__debug__":Str))=false:=by decide)
  (he:starEach (e :: es) X.env=(false,eval e X.env) :: starEach es X.env:=by rfl) (hpl:(backTo pos (starEach es X.env)).any (·.1)=false:=by rfl):PE X (.Call (.Name x p) (e :: es) [] pos) (Ad r t):=by
 intro pins s σ H Q I h;refine wpAny_Call_Name_kw (Vi I hg hm hv ?_ hn hdb);exact PyProof.Rows.callWith_builtin1 (iD (ha pos pins s σ H _ I h) fun us s1 ⟨vs,H1,I1,r1,q1⟩=>hc pins s1 σ H1 vs us Q I1 r1 q1) he hpl
theorem Ze0 (hc:Ot X (.type T) r) (hg:Gl X x) (hm:X.mg x=none) (hv:bootBuiltins x=some (.type T)) (ha:PA X (e :: es) t) (hn:x≠"__name__":=by decide) (hdb:(x == ("__debug__":Str))=false:=by decide)
  (he:starEach (e :: es) X.env=(false,eval e X.env) :: starEach es X.env:=by rfl) (hpl:(backTo pos (starEach es X.env)).any (·.1)=false:=by rfl):PE X (.Call (.Name x p) (e :: es) [] pos) (Ad r t):=by
 intro pins s σ H Q I h;refine wpAny_Call_Name_kw (Vi I hg hm hv ?_ hn hdb);exact PyProof.Rows.callWith_type1 (iD (ha pos pins s σ H _ I h) fun us s1 ⟨vs,H1,I1,r1,q1⟩=>hc pins s1 σ H1 vs us Q I1 r1 q1) he hpl
end
end L2
namespace HT
open PySem PyProof.Rows
section
open PySem.SeqAt
open PySem.AutoSeq1 (wpAny_loadPart')
open PySem.MeetsSeq PySem.MeetsSeq2 PySem.MeetsSeq3
end
section
variable {prog:Program}{w:World}{A:Around}{E:Value→Shared→Prop}{s:Shared}
def oM (n d:Nat):Option Int→Nat
 | none=>d
 | some v=>if v < 0 then (v + (n:Int)).toNat else min v.toNat n
theorem Bx (n d:Nat) (hd:d≤n) (o:Option Int):oM n d o≤n:=by
 cases o with
 | none=>exact hd
 | some v=>
  show (if v < 0 then (v + (n:Int)).toNat else min v.toNat n)≤n
  by_cases hv:v < 0
  ·rw [if_pos hv];omega
  ·rw [if_neg hv];exact Nat.min_le_right _ _
end
end HT
namespace L2
open PySem PySem.Spec PyProof.Rows
abbrev TO:=St→Hp→(Option Int→Hp→Prop)→Prop
def PO (X:Cx) (e:Option Expr) (t:TO):Prop:=
 ∀ (pins:List (Addr×Obj)) (s:Shared) (σ:St) (H:Hp) (Q:Option Int→Hp→Prop),Inv X pins σ H s→t σ H Q→
  wpAny (model X.prog X.w) X.A (evalPart e X.env) (fun u s'=>∃ o H',Inv X pins σ H' s'∧IsPart u o∧Q o H') X.xe s
def CJ:TO:=fun _ H Q=>Q none H
def CG (t:TE):TO:=fun σ H Q=>t σ H fun x H1=>∃ i,x=.int i∧Q (some i) H1
section
variable {X:Cx}{e:Expr}{te:TE}{lo hi:Option Expr}{tl th:TO}{pos p2:Pos}
theorem Us:PO X none CJ:=by
 intro pins s σ H Q I h;rw [evalPart_none];exact wpAny_pure ⟨none,H,I,.none,h⟩
theorem xg (h:PE X e te):PO X (some e) (CG te):=by
 intro pins s σ H Q I hw;rw [evalPart_some];refine iD (h pins s σ H _ I hw) fun u s1 ⟨x,H1,I1,r1,q1⟩=>?_;obtain ⟨i,rfl,q⟩:=q1;obtain ⟨t,rfl⟩:=r1;exact ⟨some i,H1,I1,.int i t,q⟩
def SlR (X:Cx) (r:V→Option Int→Option Int→Hp→VK→Prop):Prop:=
 ∀ (pins:List (Addr×Obj)) (s:Shared) (σ:St) (H:Hp) (x:V) (v vl vu:Value) (lo hi:Option Int) (sl:Addr) (Q:VK),Inv X pins σ H s→RelV x v→s.heap.IsSliceOf sl vl vu .none→IsPart vl lo→IsPart vu hi→r x lo hi H Q→
  ∃ T id,typeLookup (.type T) "__getitem__"=pure (some (.builtin id))∧s.TypeIs v T∧wpAny (model X.prog X.w) X.A (getItem v (.ref sl)) (EP X pins σ Q) X.xe s
def tSl (r:V→Option Int→Option Int→Hp→VK→Prop) (te:TE) (tl th:TO):TE:=fun σ H Q=>te σ H fun x H1=>tl σ H1 fun l H2=>th σ H2 fun u H3=>r x l u H3 Q
theorem yX {r:V→Option Int→Option Int→Hp→VK→Prop} (hr:SlR X r) (he:PE X e te) (hl:PO X lo tl) (hu:PO X hi th):PE X (.Subscript e (.Slice lo hi none p2) pos) (tSl r te tl th):=by
 intro pins s σ H Q I h;refine Subscript_ (iD (he pins s σ H _ I h) fun v s1 ⟨x,H1,I1,r1,q1⟩=>?_);refine wpAny_Slice (iD (hl pins s1 σ H1 _ I1 q1) fun vl s2 ⟨l,H2,I2,pl,q2⟩=>iD (hu pins s2 σ H2 _ I2 q2) fun vu s3 ⟨u,H3,I3,pu,q3⟩=>?_);rw [evalPart_none];refine wpAny_pure ?_;have I4:Inv X pins σ H3 { s3 with heap:=s3.heap.push { cls:=.type "slice",data:=.fields #[vl,vu,.none] } }:=I3.kept (t':=s3.toks) fun b ob q=>Heap.get?_push_of_some _ q;obtain ⟨T,id,hT,ht,hg⟩:=hr pins { s3 with heap:=s3.heap.push { cls:=.type "slice",data:=.fields #[vl,vu,.none] } } σ H3 x v vl vu l u s3.heap.objs.size Q I4 r1 (Heap.IsSliceOf.new ..) pl pu q3;show wpAny (model X.prog X.w) X.A (subscriptTail e (.Slice lo hi none p2) v (.ref s3.heap.objs.size)) (EP X pins σ Q) X.xe { s3 with heap:=s3.heap.push { cls:=.type "slice",data:=.fields #[vl,vu,.none] } };exact tail_any (ops:=[.ref s3.heap.objs.size,v]) ht hT hg (by with_unfolding_all rfl)
def Y0 (xs:List V) (lo hi:Option Int):List V:=(xs.drop (HT.oM xs.length 0 lo)).take (HT.oM xs.length xs.length hi - HT.oM xs.length 0 lo)
theorem YZ (xs:List V) (lo hi:Option Int):(Y0 xs lo hi).length≤xs.length:=by
 unfold Y0;rw [List.length_take,List.length_drop];omega
end
end L2
namespace L2
open PySem PySem.Spec PyProof.Rows
def ixN (n:Nat) (i:Int):Option Nat:=if 0≤i then (if i < n then some i.toNat else none) else if -(n:Int)≤i then some (i + n).toNat else none
def Y8 {α:Type} (xs:List α) (i:Int):Option α:=(ixN xs.length i).bind fun j=>xs[j]?
theorem Zcr {n:Nat}{i:Int}{j:Nat} (h:ixN n i=some j):seqIndex? i n=some j∧j < n∧-(n:Int)≤i∧i < n:=by
 unfold ixN at h
 by_cases h0:0≤i
 ·rw [if_pos h0] at h
  by_cases h1:i < n
  ·rw [if_pos h1] at h;have e:i.toNat=j:=Option.some.inj h;exact ⟨by rw [seqIndex_of h0 h1,e],by omega,by omega,h1⟩
  ·rw [if_neg h1] at h;cases h
 ·rw [if_neg h0] at h
  by_cases h1:-(n:Int)≤i
  ·rw [if_pos h1] at h;have e:(i + n).toNat=j:=Option.some.inj h;exact ⟨by rw [seqIndex_neg (by omega) h1,e],by omega,h1,by omega⟩
  ·rw [if_neg h1] at h;cases h
theorem Wr {α:Type}{xs:List α}{i:Int}{v:α} (h:Y8 xs i=some v):∃ j,seqIndex? i xs.length=some j∧xs[j]? =some v∧j < xs.length∧-(xs.length:Int)≤i∧i < xs.length:=by
 unfold Y8 at h;cases e:ixN xs.length i with
 | none=>rw [e] at h;cases h
 | some j=>
  rw [e] at h;obtain ⟨h1,h2,h3,h4⟩:=Zcr e;exact ⟨j,h1,h,h2,h3,h4⟩
theorem aX {α:Type}{xs:List α}{j:Nat}{v:α} (h:xs[j]? =some v):Y8 xs (j:Int)=some v:=by
 have hj:j < xs.length:=(cI h).1;have e:ixN xs.length (j:Int)=some j:=by
  unfold ixN;rw [if_pos (by omega),if_pos (by omega)];simp
 unfold Y8;rw [e];exact h
def Le (b:Expr):Prop:=∀ o i,subscripted b false o i=operate [o,i] (getItem o i)
def IxR (X:Cx) (r:R2):Prop:=
 ∀ (value slice:Expr) (pins:List (Addr×Obj)) (s:Shared) (σ:St) (H:Hp) (x y:V) (v u:Value) (Q:VK),Inv X pins σ H s→RelV x v→RelV y u→r x y H Q→
  subscripted slice false v u=operate [v,u] (getItem v u)→wpAny (model X.prog X.w) X.A (subscriptTail value slice v u) (EP X pins σ Q) X.xe s
def MtR (X:Cx) (id:String) (r:V→List V→Hp→VK→Prop):Prop:=
 ∀ (pins:List (Addr×Obj)) (s:Shared) (σ:St) (H:Hp) (x:V) (xs:List V) (v:Value) (us:List Value) (Q:VK),Inv X pins σ H s→RelV x v→Vals xs us→r x xs H Q→
  wpAny (model X.prog X.w) X.A (call (.builtin id) (v :: us)) (EP X pins σ Q) X.xe s
section
variable {X:Cx}{a b:Expr}{ta tb:TE}{pos:Pos}
theorem IxR.or {r r':R2} (h:IxR X r) (h':IxR X r'):IxR X (fun x y H Q=>r x y H Q∨r' x y H Q):=by
 intro value slice pins s σ H x y v u Q I rx ry q hs;rcases q with q | q
 ·exact h value slice pins s σ H x y v u Q I rx ry q hs
 ·exact h' value slice pins s σ H x y v u Q I rx ry q hs
theorem Zgc {r:R2} (hr:IxR X r) (ha:PE X a ta) (hb:PE X b tb) (hs:Le b):PE X (.Subscript a b pos) (aY r ta tb):=by
 intro pins s σ H Q I h;exact Subscript_ (Zp2 ha hb I h fun v u s2 x y H2 I2 rx ry q=>hr a b pins s2 σ H2 x y v u Q I2 rx ry q (hs _ _))
def d7 (K:aG):R2:=fun x y H Q=>∃ p xs i v,x=.ref p∧y=.int i∧cF K H p xs∧Y8 xs i=some v∧Q v H
def cC (K:aG):R2:=fun x y H Q=>∃ p xs i v,x=.ref p∧y=.int i∧j4 K H p xs∧Y8 xs i=some v∧Q v H
def Za8:R2:=fun x y H Q=>∃ z i c,x=.str z∧y=.int i∧z.length≤sizeLine∧Y8 z.cps.toList i=some c∧Q (.str ⟨#[c]⟩) H
theorem bf:IxR X (d7 X.K):=by
 intro value slice pins s σ H x y v u Q I rx ry h hs;obtain ⟨p,xs,i,z,rfl,rfl,hq,he,q⟩:=h;cases rx;obtain ⟨t,rfl⟩:=ry;obtain ⟨its,r,pl,hz⟩:=I.list hq;obtain ⟨j,h1,h2,h3,h4,h5⟩:=Wr he;obtain ⟨w,ew,rw'⟩:=r.get h2;have hl:=r.length;have hn:=Nf;have fin:EP X pins σ Q w s:=⟨z,H,I,rw',q⟩
 by_cases h0:0≤i
 ·have hj:i.toNat=j:=by
   rw [seqIndex_of h0 h5] at h1;exact Option.some.inj h1
  exact item_listR pl.isList h0 (by omega) (by rw [hj];simpa using ew) fin hs
 ·have hj:(i + (its.toArray.size:Int)).toNat=j:=by
   rw [seqIndex_neg (by omega) h4] at h1;rw [List.size_toArray,← hl];exact Option.some.inj h1
  exact subscriptTail_builtinR (x:=w) pl.isList.typeIs slot_list_getitem.lookup
   (wpAny_getItem_list_neg (Q:=fun r s'=>r=w∧EP X pins σ Q r s') pl.isList (by omega) (by rw [List.size_toArray]<;>omega) (by omega) (by rw [hj];simpa using ew) ⟨rfl,fin⟩) hs
theorem aZ:IxR X (cC X.K):=by
 intro value slice pins s σ H x y v u Q I rx ry h hs;obtain ⟨p,xs,i,z,rfl,rfl,hq,he,q⟩:=h;cases rx;obtain ⟨t,rfl⟩:=ry;obtain ⟨its,r,pl,hz⟩:=I.tuple hq;obtain ⟨j,h1,h2,h3,h4,h5⟩:=Wr he;obtain ⟨w,ew,rw'⟩:=r.get h2;have hl:=r.length;have hn:=Nf;have fin:EP X pins σ Q w s:=⟨z,H,I,rw',q⟩;exact subscriptTail_builtinR (x:=w) pl.typeIs slot_tuple_getitem.lookup
  (getItem_tuple (j:=j) (Q:=fun r s'=>r=w∧EP X pins σ Q r s') pl (by omega) (by omega) (by rw [List.size_toArray,← hl];exact h1) (by simpa using ew) ⟨rfl,fin⟩) hs
theorem Vx:IxR X Za8:=by
 intro value slice pins s σ H x y v u Q I rx ry h hs;obtain ⟨z,i,c,rfl,rfl,hz,he,q⟩:=h;obtain ⟨t,rfl⟩:=rx;obtain ⟨t',rfl⟩:=ry;obtain ⟨j,h1,h2,h3,h4,h5⟩:=Wr he;have hl:z.cps.toList.length=z.length:=by simp [Str.length]
 rw [hl] at h1 h4 h5;have hn:=Nf;exact tail_any (typeIs_str s z t) slot_str_getitem.lookup (getItem_str (c:=c) (by
  have e1:decide (i < -(2 ^ 63:Int))=false:=decide_eq_false (by omega);have e2:decide (i≥2 ^ 63)=false:=decide_eq_false (by omega);rw [e1,e2,Bool.or_false]) (by rw [h1];simpa using h2) ⟨.str ⟨#[c]⟩,H,I.tok _,⟨_,rfl⟩,q⟩) hs
def rIx (K:aG):R2:=fun x y H Q=>d7 K x y H Q∨cC K x y H Q∨Za8 x y H Q
theorem Vy:IxR X (rIx X.K):=bf.or (aZ.or Vx)
theorem Zat (its:List Value) (n j:Nat) (u:Value):Obj.mapSeq (·.setIfInBounds j u) { cls:=.type "list",data:=.seq its.toArray n }={ cls:=.type "list",data:=.seq (its.set j u).toArray n }:=by
 simp [Obj.mapSeq]
theorem Inv.lst {pins:List (Addr×Obj)}{σ:St}{H:Hp}{s:Shared}{p:Addr}{xs:List V} (I:Inv X pins σ H s) (h:H p=some (.lst xs)):
  ∃ (its:List Value) (n:Nat),Vals xs its∧s.heap.get? p=some { cls:=.type "list",data:=.seq its.toArray n }∧xs.length≤sizeLine:=by
 obtain ⟨z,its,n,r,e⟩:=I.hok p _ h;exact ⟨its,n,r,e,z⟩
theorem Inv.Znl {pins:List (Addr×Obj)}{σ:St}{H:Hp}{s:Shared}{p:Addr}{xs ys:List V}{its its':List Value}{n n':Nat}{f:Obj→Obj} (I:Inv X pins σ H s) (h:H p=some (.lst xs))
  (ho:s.heap.get? p=some { cls:=.type "list",data:=.seq its.toArray n }) (hf:f { cls:=.type "list",data:=.seq its.toArray n }={ cls:=.type "list",data:=.seq its'.toArray n' }) (r:Vals ys its') (hz:ys.length≤sizeLine) (t:Nat):
  Inv X pins σ (upd H p (.lst ys)) { s with heap:=s.heap.update p f,toks:=t }:=by
 have e:(s.heap.update p f).get? p=some { cls:=.type "list",data:=.seq its'.toArray n' }:=by
  rw [Heap.get?_update_self f ho (by rw [hf]<;>rfl),hf]
 refine I.write (x:=p) (e:=p) (by rw [h];trivial) (.inl rfl) (fun b u hb q=>(Heap.get?_update_other _ _ (Ne.symm hb)).trans q) ⟨_,e⟩ ?_;exact ⟨hz,its',n',r,e⟩
def qH:V→V→V→Hp→(Hp→Prop)→Prop:=fun o i v H Q=>∃ p xs k j,o=.ref p∧i=.int k∧H p=some (.lst xs)∧ixN xs.length k=some j∧Q (upd H p (.lst (xs.set j v)))
theorem set_list:Zrs X qH:=by
 intro pins s σ H o i v ov iv u Q I ro ri rv h;obtain ⟨p,xs,k,j,rfl,rfl,hp,hj,q⟩:=h;cases ro;obtain ⟨t,rfl⟩:=ri;obtain ⟨its,n,r,ho,hz⟩:=I.lst hp;obtain ⟨h1,h2,h3,h4⟩:=Zcr hj;have hl:=r.length;have hn:=Nf;have I':Inv X pins σ (upd H p (.lst (xs.set j v))) { s with heap:=s.heap.update p (Obj.mapSeq (·.setIfInBounds j u)) }:=
  I.Znl hp ho (Zat its n j u) (r.set rv j) (by rw [List.length_set];exact hz) s.toks
 by_cases h0:0≤k
 ·have hk:k.toNat=j:=by
   rw [seqIndex_of h0 h4] at h1;exact Option.some.inj h1
  exact PySem.W.ki_setAt ho h0 (by omega) (by rw [List.size_toArray,← hl];exact h4) (by rw [hk];exact ⟨_,I',q⟩)
 ·have hk:(k + (its.toArray.size:Int)).toNat=j:=by
   rw [seqIndex_neg (by omega) h3] at h1;rw [List.size_toArray,← hl];exact Option.some.inj h1
  exact PySem.W.ki_setBack ho (by omega) (by rw [List.size_toArray,← hl];exact h3) (by omega) (by rw [hk];exact ⟨_,I',q⟩)
theorem Tt (lo hi:Option Int) (n:Nat):(sliceBounds lo hi none n).1=((HT.oM n 0 lo:Nat):Int)∧(sliceBounds lo hi none n).2.1=((HT.oM n n hi:Nat):Int)∧(sliceBounds lo hi none n).2.2=1:=by
 refine ⟨?_,?_,rfl⟩
 ·cases lo with
  | none=>simp [sliceBounds,HT.oM]
  | some i=>
   simp only [sliceBounds,HT.oM,Option.getD_none,show (1:Int) > 0 by decide,if_true]
   by_cases h:i < 0
   ·simp only [h,if_true]<;>omega
   ·simp only [h,if_false]<;>omega
 ·cases hi with
  | none=>simp [sliceBounds,HT.oM]
  | some i=>
   simp only [sliceBounds,HT.oM,Option.getD_none,show (1:Int) > 0 by decide,if_true]
   by_cases h:i < 0
   ·simp only [h,if_true]<;>omega
   ·simp only [h,if_false]<;>omega
theorem O6 (its:List Value) (lo hi:Option Int):slicePick its.toArray lo hi none=((its.drop (HT.oM its.length 0 lo)).take (HT.oM its.length its.length hi - HT.oM its.length 0 lo)).toArray:=by
 obtain ⟨h1,h2,h3⟩:=Tt lo hi its.toArray.size;unfold slicePick;rw [h1,h2,h3];simp only [sliceRange_one,pick_run,List.size_toArray]<;>rfl
def Zmv (K:aG):V→Option Int→Option Int→Hp→VK→Prop:=fun x lo hi H Q=>∃ a xs,x=.ref a∧cF K H a xs∧∀ p,H p=none→Q (.ref p) (upd H p (.lst (Y0 xs lo hi)))
theorem Zce:SlR X (Zmv X.K):=by
 intro pins s σ H x v vl vu lo hi sl Q I rx hs pl pu h;obtain ⟨a,xs,rfl,hx,q⟩:=h;cases rx;obtain ⟨its,r,ht,hz⟩:=I.list hx;have hlen:=r.length;refine ⟨"list",_,slot_list_getitem.lookup,ht.isList.typeIs,?_⟩;refine wpAny_getItem_list_slice ht.isList hs pl pu .none (by simp) ?_ (by rw [List.size_toArray]<;>omega);rw [O6,← hlen];refine ⟨.ref s.heap.objs.size,_,I.laid (t':=s.toks) (o:=.lst (Y0 xs lo hi)) (fun b ob q=>Heap.get?_push_of_some _ q) (Nat.le_refl _) ?_,rfl,q _ (I.hok.fresh (Nat.le_refl _))⟩;exact ⟨Nat.le_trans (YZ xs lo hi) hz,_,0,(r.drop (HT.oM xs.length 0 lo)).take (HT.oM xs.length xs.length hi - HT.oM xs.length 0 lo),Heap.get?_push_size _ rfl⟩
def rK:V→Bool
 | .non=>true
 | .bl _=>true
 | .int _=>true
 | .str _=>true
 | _=>false
def eqV:V→V→Bool
 | .non,.non=>true
 | .bl a,.bl b=>a == b
 | .bl a,.int b=>(if a then 1 else 0) == b
 | .int a,.bl b=>a == (if b then 1 else 0)
 | .int a,.int b=>a == b
 | .str a,.str b=>a == b
 | _,_=>false
theorem Zoz {A:Around}{s:Shared}{y x:V}{u v:Value} (ry:RelV y u) (rx:RelV x v) (fy:rK y=true) (fx:rK x=true):SeqAt.EqAt A s u v (eqV y x):=by
 cases y with
 | non=>
  cases ry;cases x with
  | non=>cases rx;exact SeqAt.EqAt.same _
  | bl b=>cases rx;exact SeqAt.EqAt.none_bool b
  | int b=>obtain ⟨t,rfl⟩:=rx;exact SeqAt.EqAt.none_int b t
  | str b=>obtain ⟨t,rfl⟩:=rx;exact SeqAt.EqAt.none_str b t
  | _=>exact absurd (show false=true from fx) Bool.false_ne_true
 | bl a=>
  cases ry;cases x with
  | non=>cases rx;exact SeqAt.EqAt.bool_none a
  | bl b=>cases rx;exact SeqAt.EqAt.bool_bool a b
  | int b=>obtain ⟨t,rfl⟩:=rx;exact SeqAt.EqAt.bool_int a b t
  | str b=>obtain ⟨t,rfl⟩:=rx;exact SeqAt.EqAt.bool_str a b t
  | _=>exact absurd (show false=true from fx) Bool.false_ne_true
 | int a=>
  obtain ⟨t',rfl⟩:=ry;cases x with
  | non=>cases rx;exact SeqAt.EqAt.int_none a t'
  | bl b=>cases rx;exact SeqAt.EqAt.int_bool a t' b
  | int b=>obtain ⟨t,rfl⟩:=rx;exact SeqAt.EqAt.int_int a t' b t
  | str b=>obtain ⟨t,rfl⟩:=rx;exact SeqAt.EqAt.int_str a t' b t
  | _=>exact absurd (show false=true from fx) Bool.false_ne_true
 | str a=>
  obtain ⟨t',rfl⟩:=ry;cases x with
  | non=>cases rx;exact SeqAt.EqAt.str_none a t'
  | bl b=>cases rx;exact SeqAt.EqAt.str_bool a t' b
  | int b=>obtain ⟨t,rfl⟩:=rx;exact SeqAt.EqAt.str_int a t' b t
  | str b=>obtain ⟨t,rfl⟩:=rx;exact SeqAt.EqAt.str_str a t' b t
  | _=>exact absurd (show false=true from fx) Bool.false_ne_true
 | _=>exact absurd (show false=true from fy) Bool.false_ne_true
def eqU (x:V) (u:Value):Bool:=match u with
 | .none=>eqV .non x
 | .bool b=>eqV (.bl b) x
 | .int i _=>eqV (.int i) x
 | .str z _=>eqV (.str z) x
 | _=>false
theorem Zib {x y:V}{u:Value} (r:RelV y u) (f:rK y=true):eqU x u=eqV y x:=by
 cases y with
 | non=>cases r;rfl
 | bl b=>cases r;rfl
 | int i=>obtain ⟨t,rfl⟩:=r;rfl
 | str z=>obtain ⟨t,rfl⟩:=r;rfl
 | _=>exact absurd (show false=true from f) Bool.false_ne_true
theorem Ws {x:V}:∀ {xs:List V}{us:List Value},Vals xs us→xs.all rK=true→us.any (eqU x)=xs.any fun y=>eqV y x
 | _,_,.nil,_=>rfl
 | y :: xs,u :: us,.cons r t,f=>by
  rw [List.all_cons,Bool.and_eq_true] at f;rw [List.any_cons,List.any_cons,Zib r f.1,Ws t f.2]
theorem M9 {A:Around}{s:Shared}{x:V}{v:Value} (rx:RelV x v) (fx:rK x=true):∀ {xs:List V}{us:List Value},Vals xs us→xs.all rK=true→∀ u∈us,SeqAt.EqAt A s u v (eqU x u)
 | _,_,.nil,_=>fun u hu=>by cases hu
 | y :: xs,u :: us,.cons r t,f=>fun u' hu=>by
  rw [List.all_cons,Bool.and_eq_true] at f;rcases List.mem_cons.mp hu with rfl | hu
  ·rw [Zib r f.1];exact Zoz r rx f.1 fx
  ·exact M9 rx fx t f.2 u' hu
def inV (x:V) (xs:List V):Bool:=xs.any fun y=>eqV y x
def rIn (K:aG) (neg:Bool):R2:=fun x y H Q=>∃ p xs,y=.ref p∧(cF K H p xs∨j4 K H p xs)∧rK x=true∧xs.all rK=true∧Q (.bl (if neg then !inV x xs else inV x xs)) H
theorem Hv:ym X (compareOp .In) (rIn X.K false):=by
 intro pins s σ H x y v u Q I rx ry h;obtain ⟨p,xs,rfl,hq,fx,fs,q⟩:=h;cases ry;rcases hq with hq | hq
 ·obtain ⟨its,r,pl,hz⟩:=I.list hq;refine SeqAt.in_listAt (eqU x) pl.isList (fun w hw=>M9 rx fx r fs w (by simpa using hw)) ⟨.bl _,H,I,rfl,?_⟩;rw [show its.toArray.any (eqU x)=its.any (eqU x) by simp,Ws r fs];exact q
 ·obtain ⟨its,r,pl,hz⟩:=I.tuple hq;refine SeqAt.in_tupleAt (eqU x) pl (fun w hw=>M9 rx fx r fs w (by simpa using hw)) ⟨.bl _,H,I,rfl,?_⟩;rw [show its.toArray.any (eqU x)=its.any (eqU x) by simp,Ws r fs];exact q
theorem Wo:Ot X (.builtin "len") (fun xs H Q=>∃ p ys,xs=[.ref p]∧(cF X.K H p ys∨j4 X.K H p ys)∧Q (.int ys.length) H):=by
 intro pins s σ H xs us Q I r h;obtain ⟨p,ys,rfl,hq,q⟩:=h;obtain ⟨u,rfl,rx⟩:=vals1 r;cases rx;have hn:=Nf;rcases hq with hq | hq
 ·obtain ⟨its,r',pl,hz⟩:=I.list hq;have hlen:=r'.length;exact Calls.call_len_list pl.isList (by simp only [List.size_toArray]<;>omega) ⟨.int ys.length,H,I.tok _,⟨s.toks + 1,by rw [List.size_toArray,hlen]⟩,q⟩
 ·obtain ⟨its,r',pl,hz⟩:=I.tuple hq;have hlen:=r'.length;exact len_tuple pl (by simp only [List.size_toArray]<;>omega) ⟨.int ys.length,H,I.tok _,⟨s.toks + 1,by rw [List.size_toArray,hlen]⟩,q⟩
theorem Wn:Ot X (.type "list") (fun xs H Q=>∃ p ys,xs=[.ref p]∧(cF X.K H p ys∨j4 X.K H p ys)∧∀ l,H l=none→Q (.ref l) (upd H l (.lst ys))):=by
 intro pins s σ H xs us Q I r h;obtain ⟨p,ys,rfl,hq,q⟩:=h;obtain ⟨u,rfl,rx⟩:=vals1 r;cases rx;have fin:∀ (its:List Value),Vals ys its→ys.length≤sizeLine→∀ (h':Heap) (c':Nat),(∀ b o',s.heap.get? b=some o'→h'.get? b=some o')→
   h'.get? s.heap.objs.size=some { cls:=.type "list",dict:=none,data:=.seq its.toArray c',slots:=#[] }→EP X pins σ Q (.ref s.heap.objs.size) { s with heap:=h' }:=fun its r' hz h' c' kp e=>
  ⟨.ref s.heap.objs.size,_,I.laid (t':=s.toks) kp (Nat.le_refl _) (show jQ X.prog X.w _ h' _ (.lst ys) from ⟨hz,its,c',r',e⟩),rfl,q _ (I.hok.fresh (Nat.le_refl _))⟩
 rcases hq with hq | hq
 ·obtain ⟨its,r',pl,hz⟩:=I.list hq;have hlen:=r'.length;obtain ⟨o,ho,hc,n,hd⟩:=pl.isList;exact call_list_seq p (.inl rfl) ho hc hd (fun h' c' kp e=>fin its r' hz h' c' kp e) (by simp only [List.size_toArray]<;>omega)
 ·obtain ⟨its,r',pl,hz⟩:=I.tuple hq;have hlen:=r'.length;obtain ⟨o,ho,hc,n,hd⟩:=pl;exact call_list_seq p (.inr rfl) ho hc hd (fun h' c' kp e=>fin its r' hz h' c' kp e) (by simp only [List.size_toArray]<;>omega)
def tyV (K:aG) (T:String) (x:V) (H:Hp):Prop:=match x with
 | .str _=>T="str"
 | .int _=>T="int"
 | .ref p=>(T="list"∧∃ xs,cF K H p xs)∨(T="tuple"∧∃ o,K.lookup p=some o∧o.cls=.type "tuple"∧o.dict=none)∨
   (T="dict"∧((∃ kvs,H p=some (.dK kvs))∨∃ kvs,H p=some (.dT kvs)))∨(T="set"∧∃ S n,H p=some (.set S n))
 | _=>False
theorem Zmg {pins:List (Addr×Obj)}{σ:St}{H:Hp}{s:Shared}{T:String}{x:V}{v:Value} (I:Inv X pins σ H s) (r:RelV x v) (ty:tyV X.K T x H):
  s.TypeIs v T∧∀ a,v=.ref a→∃ ob,s.heap.get? a=some ob∧ob.dict=none:=by
 cases x with
 | str z=>
  obtain ⟨t,rfl⟩:=r;cases (show T="str" from ty);exact ⟨typeIs_str s z t,fun _ e=>nomatch e⟩
 | int i=>
  obtain ⟨t,rfl⟩:=r;cases (show T="int" from ty);exact ⟨typeIs_int s i t,fun _ e=>nomatch e⟩
 | ref p=>
  cases r;rcases ty with ⟨rfl,xs,hq⟩ | ⟨rfl,o,hk,hc,hd⟩ | ⟨rfl,hk⟩ | ⟨rfl,S,n,hk⟩
  ·obtain ⟨its,_,pl,_⟩:=I.list hq;refine ⟨pl.isList.typeIs,fun a e=>?_⟩;cases e;obtain ⟨o,n,e,c,hd,_⟩:=pl;exact ⟨o,e,hd⟩
  ·refine ⟨⟨o,I.ux p o hk,hc⟩,fun a e=>?_⟩;cases e;exact ⟨o,I.ux _ o hk,hd⟩
  ·have z:∃ o,s.heap.get? p=some o∧o.ExactDict:=by
    rcases hk with ⟨kvs,hk⟩ | ⟨kvs,hk⟩
    ·obtain ⟨_,_,_,_,o,_,_,e,ex,_⟩:=I.hok p _ hk;exact ⟨o,e,ex⟩
    ·obtain ⟨_,_,_,_,o,_,_,e,ex,_⟩:=I.hok p _ hk;exact ⟨o,e,ex⟩
   obtain ⟨o,e,ex⟩:=z;refine ⟨⟨o,e,ex.1⟩,fun a e2=>?_⟩;cases e2;exact ⟨o,e,ex.2.1⟩
  ·obtain ⟨o,_,_,_,e,ex,_⟩:=I.hok p _ hk;refine ⟨⟨o,e,ex.1⟩,fun a e2=>?_⟩;cases e2;exact ⟨o,e,ex.2.1⟩
 | _=>exact False.elim ty
def ZF (K:aG) (T:String) (r:V→List V→Hp→VK→Prop) (to:TE) (t:TA):TE:=fun σ H Q=>to σ H fun x H1=>tyV K T x H1∧t σ H1 fun xs H2=>r x xs H2 Q
variable {o e:Expr}{es:List Expr}{to:TE}{t:TA}{name:Str}{apos cpos:Pos}{T id:String}{r:V→List V→Hp→VK→Prop}
theorem xV (pa:PlainAttrs T) (slot:Slot T name id) (hty:typeOf (.builtin id)=pure (.type "method_descriptor")) (hm:MtR X id r) (ho:PE X o to) (ha:PA X (e :: es) t)
  (hbase:attributeBase o name X.env (eval o X.env)=eval o X.env:=by rfl)
  (hfew:((backTo cpos (starEach (e :: es) X.env)).all (fun x=>!x.1) && (backToKw cpos (keywordEach [] X.env)).all (fun x=>x.1.isSome)
   && decide ((e :: es).length + ([]:List Keyword).length + (if ([]:List Keyword).isEmpty then 0 else 1) < 30))=true:=by rfl)
  (hline:(apos.endLine == cpos.line)=true:=by rfl) (hs:starEach (e :: es) X.env=(false,eval e X.env) :: starEach es X.env:=by rfl) (hplain:(backTo cpos (starEach es X.env)).any (·.1)=false:=by rfl):
  PE X (.Call (.Attribute o name apos) (e :: es) [] cpos) (ZF X.K T r to t):=by
 intro pins s σ H Q I h;refine wpAny_Call_method_late hbase hfew hline rfl (iD (ho pins s σ H _ I h) fun v s1 ⟨x,H1,I1,r1,ty,q1⟩=>?_);obtain ⟨h1,h2⟩:=Zmg I1 r1 ty;refine ⟨T,id,pa,slot,hty,h1,h2,?_⟩;have hA:=ha cpos pins s1 σ H1 _ I1 q1;rw [hs] at hA ⊢;refine Calls.callWith_builtin (by show (false || (backTo cpos (starEach es X.env)).any (·.1))=false;rw [hplain]<;>rfl) (Calls.evalArgs_plain ?_);exact iD hA fun us s2 ⟨vs,H2,I2,r2,q2⟩=>hm pins s2 σ H2 x vs v us Q I2 r1 r2 q2
end
end L2
namespace L2
open PySem PySem.Spec PyProof.Rows
def MtM (X:Cx) (id:String) (r:V→List V→Hp→VK→Prop):Prop:=
 ∀ (pins:List (Addr×Obj)) (s:Shared) (σ:St) (H:Hp) (x:V) (xs:List V) (v:Value) (us:List Value) (Q:VK),Inv X pins σ H s→RelV x v→Vals xs us→r x xs H Q→
  wpAny (model X.prog X.w) X.A (call (.builtin id) (v :: us)) (EP X pins σ Q) X.xe s
theorem Vals.one:∀ {x:V}{us:List Value},Vals [x] us→∃ u,us=[u]∧RelV x u
 | _,_,.cons r .nil=>⟨_,rfl,r⟩
theorem Vals.rep {xs:List V}{us:List Value} (h:Vals xs us):∀ k:Nat,Vals (List.replicate k xs).flatten (List.replicate k us).flatten
 | 0=>.nil
 | k + 1=>by
  rw [List.replicate_succ,List.replicate_succ,List.flatten_cons,List.flatten_cons];exact Vals.append h (Vals.rep h k)
theorem foldl_rep (its:List Value):∀ (k:Nat) (acc:List Value),
  List.foldl (fun x1 x2=>x1 ++ x2) acc.toArray (List.replicate k its.toArray)=(acc ++ (List.replicate k its).flatten).toArray
 | 0,acc=>by simp
 | k + 1,acc=>by
  have e:acc.toArray ++ its.toArray=(acc ++ its).toArray:=by simp
  have e2:(acc ++ its) ++ (List.replicate k its).flatten=acc ++ (List.replicate (k + 1) its).flatten:=by
   rw [List.replicate_succ,List.flatten_cons,List.append_assoc]
  rw [← e2,← foldl_rep its k (acc ++ its),← e,List.replicate_succ,List.foldl_cons]
section
variable {X:Cx}{pins:List (Addr×Obj)}{σ:St}{H:Hp}{s:Shared}{l b:Addr}{xs ys zs:List V}
theorem Inv.Zsm {its its':List Value}{n:Nat}{f:Array Value→Array Value}{t':Nat} (I:Inv X pins σ H s) (hH:H l=some (.lst xs))
  (e:s.heap.get? l=some { cls:=.type "list",data:=.seq its.toArray n }) (hf:f its.toArray=its'.toArray) (hv:Vals ys its') (hz:ys.length≤sizeLine):
  Inv X pins σ (upd H l (.lst ys)) { s with heap:=s.heap.update l (Obj.mapSeq f),toks:=t' }:=by
 have q:=PySem.IsL.update e f;rw [hf] at q;refine I.write (x:=l) (e:=l) (by rw [hH];exact trivial) (.inl rfl) (fun b' u hb hu=>(Heap.get?_update_other s.heap (Obj.mapSeq f) (Ne.symm hb)).trans hu) ⟨_,q⟩ ?_;exact ⟨hz,its',_,hv,q⟩
theorem Inv.Zq3 {its:List Value}{t':Nat} (I:Inv X pins σ H s) (hv:Vals ys its) (hz:ys.length≤sizeLine):
  Inv X pins σ (upd H s.heap.objs.size (.lst ys)) { s with heap:=s.heap.push { cls:=.type "list",data:=.seq its.toArray },toks:=t' }:=
 I.laid (fun _ _ q=>Heap.get?_push_of_some _ q) (Nat.le_refl _) ⟨hz,its,0,hv,Heap.get?_push_size _ rfl⟩
theorem Inv.fresh (I:Inv X pins σ H s):H s.heap.objs.size=none:=I.hok.fresh (Nat.le_refl _)
theorem Inv.Zko (I:Inv X pins σ H s) (hH:H l=some (.lst xs)):xs.length≤sizeLine∧∃ (its:List Value) (n:Nat),Vals xs its∧xs.length=its.length∧s.heap.get? l=some { cls:=.type "list",data:=.seq its.toArray n }:=by
 obtain ⟨z,its,n,r,e⟩:=I.hok l _ hH;exact ⟨z,its,n,r,r.length,e⟩
theorem Zgn {n:Nat} (h:n≤sizeLine):Builtin.List.listTooLong n=false:=by
 unfold Builtin.List.listTooLong;exact decide_eq_false (by omega)
end
section
variable {X:Cx}
def mJ:V→List V→Hp→VK→Prop:=fun x vs H Q=>∃ l xs y,x=.ref l∧vs=[y]∧H l=some (.lst xs)∧xs.length < sizeLine∧Q .non (upd H l (.lst (xs ++ [y])))
theorem jg:MtM X "list.append" mJ:=by
 intro pins s σ H x vs v us Q I rx rv h;obtain ⟨l,xs,y,rfl,rfl,hH,hz,q⟩:=h;cases rx;obtain ⟨u,rfl,ru⟩:=rv.one;obtain ⟨z,its,n,r,hl,e⟩:=I.Zko hH;refine call_meets F.slot_list_append ⟨_,e,rfl⟩ F.entry_list_append (F.args_list_append_2 _ _) (PySem.list_append l its.toArray n u (by rw [List.size_toArray];omega)) ⟨e,?_⟩;refine ⟨.non,_,I.Zsm (its':=its ++ [u]) hH e (by simp) (r.append (.cons ru .nil)) ?_,rfl,q⟩;rw [List.length_append,List.length_singleton];omega
def Zpu:R2:=fun x y H Q=>∃ l b xs zs,x=.ref l∧y=.ref b∧H l=some (.lst xs)∧H b=some (.lst zs)∧xs.length + zs.length≤sizeLine∧∀ p,H p=none→Q (.ref p) (upd H p (.lst (xs ++ zs)))
theorem Zn6:ym X (binaryOp .Add) Zpu:=by
 intro pins s σ H x y v u Q I rx ry h;obtain ⟨l,b,xs,zs,rfl,rfl,hH,hB,hz,q⟩:=h;cases rx;cases ry;obtain ⟨z,its,n,r,hl,e⟩:=I.Zko hH;obtain ⟨z2,its2,n2,r2,hl2,e2⟩:=I.Zko hB;refine PySem.P.add_list e e2 ?_ (by rw [List.size_toArray,List.size_toArray];omega);have ea:its.toArray ++ its2.toArray=(its ++ its2).toArray:=by simp
 rw [ea];exact ⟨.ref _,_,I.Zq3 (t':=s.toks) (r.append r2) (by rw [List.length_append];omega),rfl,q _ I.fresh⟩
def Zdt:R2:=fun x y H Q=>∃ l k xs,x=.ref l∧y=.int k∧H l=some (.lst xs)∧-(2 ^ 63)≤k∧k < 2 ^ 63∧xs.length * k.toNat≤sizeLine∧
 ∀ p,H p=none→Q (.ref p) (upd H p (.lst (List.replicate k.toNat xs).flatten))
theorem len_rep {α:Type} (xs:List α) (k:Nat):(List.replicate k xs).flatten.length=k * xs.length:=by
 induction k with
 | zero=>simp
 | succ k ih=>rw [List.replicate_succ,List.flatten_cons,List.length_append,ih,Nat.succ_mul,Nat.add_comm]
theorem Uu:ym X (binaryOp .Mult) Zdt:=by
 intro pins s σ H x y v u Q I rx ry h;obtain ⟨l,k,xs,rfl,rfl,hH,h1,h2,hz,q⟩:=h;cases rx;obtain ⟨t,rfl⟩:=ry;obtain ⟨z,its,n,r,hl,e⟩:=I.Zko hH;have hlen:its.toArray.size * k.toNat≤sizeLine:=by rw [List.size_toArray,← hl];exact hz
 have hcap:¬ its.toArray.size * k.toNat > (2 ^ 63 - 1) / 8:=by
  have:(sizeLine:Nat)≤(2 ^ 63 - 1) / 8:=by decide
  omega
 have hfit:¬ (!Builtin.List.listFitsIndex k)=true:=by
  rw [fitsIndex_both h1 h2];exact Bool.false_ne_true
 have Zqy:¬ Builtin.List.listTooLong (its.toArray.size * k.toNat)=true:=by
  rw [Zgn hlen];exact Bool.false_ne_true
 have hnew:List.foldl (fun x1 x2=>x1 ++ x2) #[] (List.replicate (if its.toArray.isEmpty=true then 0 else k.toNat) its.toArray)=(List.replicate k.toNat its).flatten.toArray:=by
  have f0:∀ m:Nat,List.foldl (fun x1 x2=>x1 ++ x2) #[] (List.replicate m its.toArray)=(List.replicate m its).flatten.toArray:=fun m=>by
   have:=foldl_rep its m [];rw [List.nil_append] at this;exact this
  rw [f0];cases its with
  | nil=>simp
  | cons a r'=>rw [if_neg (by simp)]
 refine wpAny_binaryOp_repeat_ref (T:="list") (U:="int") (by decide) ⟨_,e,rfl⟩ (fun s'=>typeIs_int s' k t) noFill_list_mul F.fills_int_mul F.slot_int_rmul repeat_list F.slot_int_index.lookup
  (call_meets F.slot_int_rmul (typeIs_int s k t) F.entry_int_rmul (F.args_int_rmul_2 _ _) (int___rmul___int_list k t l its.toArray n)
   ⟨e,rfl,⟨_,e,rfl⟩,call_meets F.slot_list_mul ⟨_,e,rfl⟩ F.entry_list_mul (F.args_list_mul_2 _ _) (AutoListH.list___mul___list_int_3 l its.toArray n k t hfit hcap Zqy) ⟨e,?_⟩⟩)
 rw [hnew];exact ⟨.ref _,_,I.Zq3 (t':=s.toks) (r.rep k.toNat) (by rw [len_rep,Nat.mul_comm];exact hz),rfl,q _ I.fresh⟩
end
section
variable {prog:Program}{w:World}{A:Around}{E:Value→Shared→Prop}{s:Shared}
end
section
variable {X:Cx}
end
end L2
namespace Att
open PySem PySem.W PySem.Calls PyProof.Rows
theorem Kl {P:Params}{h:Heap}:∀ (ns:List Int) (vs:List Value),WellAll P h vs (ns.map WData.int)→IntsAre vs ns:=by
 intro ns
 induction ns with
 | nil=>
  intro vs w;rw [List.map_nil] at w;cases w;exact .nil
 | cons n ns ih=>
  intro vs w;rw [List.map_cons] at w;cases w with
  | cons a b=>
   cases a;exact .cons _ _ (ih _ b)
theorem Zdo {l:OpenLaw}{n:Nat} (hn:l.most=some n) {P:Params}{h:Heap}{args:List WData}{vals:List Value}
  (hpre:l.row.toRowW.claim.pre args=true) (hwl:WellAll P h vals args):
  ∃ a vs ns,vals=[Value.ref a]∧args=[WData.list (ns.map WData.int)]∧h.get? a=some { cls:=.type "list",data:=.seq vs.toArray }∧IntsAre vs ns∧ns.length≤n:=by
 have hsh:WShape.hasAll [] args [.list .int]=true:=(pre_splitW hpre).1;have hc:l.pre.holds [] { args:=args }=true:=(pre_splitW hpre).2;obtain ⟨d,r,rfl,h1,h2⟩:=hasAllW_cons hsh;obtain rfl:=hasAllW_nil h2;obtain ⟨xs,rfl,h3⟩:=hasW_list h1;obtain ⟨ns,rfl⟩:=items_int h3;have hlen:ns.length≤n:=by
  unfold OpenLaw.pre at hc;have h4:(WTm.not (.lt (.lit (.int (n:Int))) (.len (.arg 0)))).holds [] { args:=[.list (ns.map .int)] }=true:=by
   have h4:=(holds_andW hc).1;rw [hn] at h4;exact h4
  have h5:=condW_of h4 (w_not (w_lt w_lit (w_len_list (w_arg rfl))));rw [bh] at h5;refine Nat.le_of_not_lt fun q=>?_;have q':(n:Int) < ((ns.length:Nat):Int):=by omega
  first
   | (rw [decide_eq_true q'] at h5;exact absurd h5 (by decide))
   | (simp at h5;omega)
 cases hwl with
 | cons w1 w2=>
  cases w2;cases w1 with
  | list ho hall=>exact ⟨_,_,ns,rfl,rfl,ho,Kl ns _ hall,hlen⟩
theorem Zdz (l:OpenLaw) (args:List WData):l.row.toRowW.claim.post args (.bool true) args=true:=
 postW_of (r:=l.row.toRowW) (X:=(true == true))
  (show WShape.has [] (.bool true) .bool=true by first | rfl | decide | simp [WShape.has,WShape.arms,WShape.armsAll])
  (show (WTm.eq .res (.lit (.bool true))).value [] { args:=args,res:=some (.bool true),after:=args }=some (.bool (true == true)) from w_eq_bool (w_res rfl) w_lit) rfl
section
variable {prog:Program}{w:World}{A:Around}{E:Value→Shared→Prop}{s:Shared}{K:Frag}
end
end Att
namespace L2
open PySem PySem.Spec PyProof.Rows
theorem Rk:∀ {vs:List Value}{ns:List Int},IntsAre vs ns→Vals (ns.map V.int) vs
 | _,_,.nil=>.nil
 | _,_,.cons n t h=>.cons ⟨t,rfl⟩ (Rk h)
def Only (H:Hp):Prop:=∀ b,H b=none∨∃ o xs,H b=some (.yd o (.lst xs))
theorem Zhg {P:Program}{w:World}{K:aG}{mg mb:Str→Option Value}{CX:Xa}{k:Nat}{fa a:Addr}{fd:FuncData}{x:Str}{sp:Sp}{s₁:Shared}{vs:List Value}{ns:List Int}
  (KX:K.In s₁.heap) (hns:s₁.heap.Ns mainGlobals mg) (hb:s₁.heap.Ns builtinsNs mb) (hbb:∀ x:Str,x≠"__name__"→mb x=bootBuiltins x) (hlim:s₁.heap.NoLimit) (hg:s₁.gens=#[])
  (ha:s₁.heap.get? a=some { cls:=.type "list",data:=.seq vs.toArray }) (hi:IntsAre vs ns) (hl:ns.length≤sizeLine) (hr:Room k callerA)
  (F:∀ base:Heap,K.In base→base.Ns mainGlobals mg→qP P w K mg base CX k fa fd [x] sp) (hbind:∀ (s:Shared) (u:Value),BindsTo s fd ⟨[u],[]⟩ [(x,u)])
  (hsp:∀ H:Hp,Only H→cF K H a (ns.map V.int)→sp [.ref a] H (fun v _=>v=.bl true) fun _ _ _=>False)
  (hCX:∀ H e s',CX [] H s₁ (fun _ _ _=>False) e s'→False):
  codeAny (model P w) callerA (.call (.ref fa) ⟨[.ref a],[]⟩) (fun r s'=>r=.ok (.ret (.bool true))∧OldK s₁.heap s'.heap∧s'.os=s₁.os∧AllBare s'.gens) s₁:=by
 have rv:=Rk hi;have lenV:=hi.length;have core:∀ H:Hp,Only H→cF K H a (ns.map V.int)→yp P w H s₁.heap→(∀ b,H b≠none→b=a)→(H a≠none→K.lookup a=none)→
   codeAny (model P w) callerA (.call (.ref fa) ⟨[.ref a],[]⟩) (fun r s'=>r=.ok (.ret (.bool true))∧OldK s₁.heap s'.heap∧s'.os=s₁.os∧AllBare s'.gens) s₁:=by
  intro H hO hS hok hA hK;have Zd4:∀ {b:Addr}{o:Obj},s₁.heap.get? b=some o→H b=none→(VP s₁.heap H).get? b=some o:=fun e n=>Zhq e n;have noA:∀ {b:Addr}{o:Obj}{es:Array DictEntry}{ep:Nat},s₁.heap.get? b=some o→o.data=.dict es ep→H b=none:=fun {b o es ep} e d=>by
   cases q:H b with
   | none=>rfl
   | some u=>
    have e':b=a:=hA b (by rw [q];simp);subst e';rw [ha] at e;cases e;have d':Data.seq vs.toArray _=Data.dict es ep:=d;cases d'
  have nsK:∀ {b:Addr}{m:Str→Option Value},s₁.heap.Ns b m→(VP s₁.heap H).Ns b m:=fun {b m} ⟨o,es,ep,e,d,r⟩=>⟨o,es,ep,Zd4 e (noA e d),d,r⟩;have hKb:K.In (VP s₁.heap H):=fun b o e=>Zd4 (KX b o e) (by
   cases q:H b with
   | none=>rfl
   | some u=>
    have e':b=a:=hA b (by rw [q];simp);subst e';rw [hK (by rw [q];simp)] at e;cases e)
  have hM:Mod K mg (VP s₁.heap H):=⟨hKb,nsK hns,⟨mb,nsK hb,hbb⟩,let ⟨mc,h1,h2⟩:=hlim;⟨mc,nsK h1,h2⟩⟩;have e0:Zc8 P w K mg (VP s₁.heap H) callerA [] s₁ H:=⟨rfl,hM,fun b o e=>Zke e,Nat.le_of_eq (Zey _ _),trivial,fun b hb=>absurd (show b∈([]:List Addr) from hb) (by simp),hok,.of_eq hg⟩;refine codeAny_mono ((F _ hKb (nsK hns)).run callerA [] s₁ H ⟨[.ref a],[]⟩ [.ref a] [.ref a] _ _ hr e0 (hbind s₁ (.ref a)) (.cons rfl .nil) (hsp H hO hS)) fun r s' h=>?_;cases r with
  | error e=>exact (hCX H e s' h).elim
  | ok fl=>
   cases fl with
   | next=>exact False.elim h
   | brk=>exact False.elim h
   | cont=>exact False.elim h
   | ret u=>
    obtain ⟨v,H',os,bare,un,hok',r',q⟩:=h;have q':v=.bl true:=q;subst q';obtain rfl:u=Value.bool true:=r';refine ⟨rfl,OldK.of_keep fun b o e=>?_,os,bare⟩;cases q:H b with
    | none=>exact un.keep b o e q (by intro z;exact absurd (show b∈([]:List Addr) from z) (by simp)) (by simp)
    | some u=>
     rcases hO b with z | ⟨ob,xs,z⟩
     ·rw [q] at z;cases z
     ·have z2:=un.Et b ob _ z;obtain ⟨e1,_⟩:=hok b _ z;obtain ⟨e2,_⟩:=hok' b _ z2;rw [e] at e1;cases e1;exact e2
 cases hk:K.lookup a with
 | some o=>
  have e:=KX a o hk;rw [ha] at e;cases e;refine core (fun _=>none) (fun _=>.inl rfl) (.inr ⟨_,vs.toArray,_,hk,rfl,rfl,rfl,by rw [List.size_toArray,lenV];exact hl,by simpa using rv⟩) (fun b u z=>by have z':(none:Option HO)=some u:=z;cases z') (fun b z=>absurd rfl z) fun z=>absurd rfl z
 | none=>
  refine core (fun b=>if b=a then some (.yd { cls:=.type "list",data:=.seq vs.toArray } (.lst (ns.map V.int))) else none) (fun b=>?_) (.inl (.inr ⟨{ cls:=.type "list",data:=.seq vs.toArray },if_pos rfl⟩)) (fun b u z=>?_) (fun b z=>?_) fun _=>hk
  ·by_cases hb:b=a
   ·exact .inr ⟨_,_,if_pos hb⟩
   ·exact .inl (if_neg hb)
  ·by_cases hb:b=a
   ·have z':=(if_pos hb).symm.trans z;cases z';subst hb;exact ⟨ha,by rw [bh];exact hl,vs,_,rv,ha⟩
   ·have z':=(if_neg hb).symm.trans z;cases z'
  ·by_cases hb:b=a
   ·exact hb
   ·exact absurd (if_neg hb) z
end L2
namespace L2
open PySem PySem.Spec PyProof.Rows
end L2
namespace L2
open PySem PySem.Spec PyProof.Rows
def inClass (s:Stmt) (j:Nat):Stmt:=match s with
 | .ClassDef _ _ _ body _ _ _ _ _ _ _=>body.getD j (.Pass ⟨0,0,0,0⟩)
 | _=>.Pass ⟨0,0,0,0⟩
def lA (s:Stmt):Arguments:=match s with
 | .FunctionDef _ a _ _ _ _ _ _ _ _=>a
 | _=>{ posonlyargs:=[],args:=[],vararg:=none,kwonlyargs:=[],kw_defaults:=[],kwarg:=none,defaults:=[] }
def iI (s:Stmt):List Stmt:=match s with
 | .FunctionDef _ _ b _ _ _ _ _ _ _=>b
 | _=>[]
def aJ (s:Stmt):Scope:=match s with
 | .FunctionDef _ _ _ _ _ _ sc _ _ _=>sc
 | _=>{ kind:=.function,names:=[],isGenerator:=false,isCoroutine:=false }
abbrev E0:XK:=fun _ _ _=>False
structure jY (K:aG) (x qual:Str) (st:Stmt) (f:Addr) (fd:FuncData):Prop where
 ex:∃ (oc:Value) (od:Option Addr) (kV doc pm:Value) (an:Option Addr) (cdv ct:Value) (osl:Array (Option Value)),
  fd=PySem.W.fnOf x qual (lA st) (iI st) (aJ st) .none kV doc pm an cdv ct∧K.lookup f=some ⟨oc,od,.func fd,osl⟩∧PySem.W.codeIn K cdv qual=true
 kp:PySem.W.keepIn K (.ref f)=true
section
variable {P:Program}{w:World}{K:aG}{mg:Str→Option Value}{base:Heap}
theorem jY.binds {x qual:Str}{st:Stmt}{f:Addr}{fd:FuncData}{ps:List Str} (F:jY K x qual st f fd)
  (h:∀ (kV doc pm:Value) (an:Option Addr) (cdv ct:Value) (us:List Value),us.length=ps.length→bindArgs (PySem.W.fnOf x qual (lA st) (iI st) (aJ st) .none kV doc pm an cdv ct) ⟨us,[]⟩=pure (ps.zip us)):Binds K fd ps []:=by
 obtain ⟨oc,od,kV,doc,pm,an,cdv,ct,osl,rfl,lk,hcd⟩:=F.ex;exact .all (h kV doc pm an cdv ct)
theorem Zi3 {x qual:Str}{st:Stmt}{f:Addr}{oc:Value}{od an:Option Addr}{osl:Array (Option Value)}{kV doc pm cdv ct:Value} (l:K.lookup f=some ⟨oc,od,.func (PySem.W.fnOf x qual (lA st) (iI st) (aJ st) .none kV doc pm an cdv ct),osl⟩)
  (c:PySem.W.codeIn K cdv qual=true) (k:PySem.W.keepIn K (.ref f)=true):jY K x qual st f (PySem.W.fnOf x qual (lA st) (iI st) (aJ st) .none kV doc pm an cdv ct):=⟨⟨oc,od,kV,doc,pm,an,cdv,ct,osl,rfl,l,c⟩,k⟩
end
theorem vQ {A:Around}{k:Nat} (hr:Room k A):A.units + 1 < cLine:=Nat.lt_of_le_of_lt (Nat.add_le_add_left (by decide:1≤64) _) hr.units
section
variable {X:Cx}
theorem pv (i:Nat) {x:Str}{pos:Pos} (hN:X.N[i]? =some x:=by rfl) (hv:Vis X.env.scope x:=by first | exact Or.inl rfl | exact Or.inr (Or.inl rfl) | exact Or.inr (Or.inr rfl)) (hd:(x == ("__debug__":Str))=false:=by decide)
  (hcd:(x == ("__classdict__":Str))=false:=by decide):PE X (.Name x pos) (aj i):=Zga hN hv hd hcd
end
theorem Znv {A B:Prop} (h:B):if false=true then A else B:=by
 rw [if_neg Bool.false_ne_true];exact h
theorem Zel {A B:Prop} (h:A):if true=true then A else B:=by
 rw [if_pos rfl];exact h
theorem Zq8 {c A B:Prop} [Decidable c] (h1:c→A) (h2:¬ c→B):if c then A else B:=by
 by_cases h:c
 ·rw [if_pos h];exact h1 h
 ·rw [if_neg h];exact h2 h
def bN (H H':Hp):Prop:=∀ b o,H b=some o→H' b=some o
theorem bN.refl (H:Hp):bN H H:=fun _ _ h=>h
theorem bN.trans {H H1 H2:Hp} (a:bN H H1) (b:bN H1 H2):bN H H2:=fun c o h=>b c o (a c o h)
theorem bN.free {H H':Hp} (e:bN H H') {l:Addr} (h:H' l=Option.none):H l=Option.none:=by
 cases q:H l with
 | none=>rfl
 | some o=>
  rw [e l o q] at h;cases h
theorem bN.seq {K:aG}{H H':Hp}{a:Addr}{xs:List V} (e:bN H H') (h:cF K H a xs):cF K H' a xs:=by
 rcases h with (h | ⟨o,h⟩) | h
 ·exact .inl (.inl (e _ _ h))
 ·exact .inl (.inr ⟨o,e _ _ h⟩)
 ·exact .inr h
end L2
namespace L2
open PySem PySem.Spec PyProof.Rows
end L2
namespace L2
open PySem PySem.Spec PyProof.Rows
end L2
namespace L2
open PySem PySem.Spec PyProof.Rows
section
variable {X:Cx}{pins:List (Addr×Obj)}{σ:List (Option V)}{H H':Hp}{s:Shared}{h':Heap}
end
end L2
namespace L2
open PySem PySem.Spec PyProof.Rows
section
variable {X:Cx}
variable {a b:Expr}{ta tb:TE}{pos:Pos}
variable {tA tB':TT}{rest:List Expr}
end
end L2
namespace L2
open PySem PySem.Spec PyProof.Rows
end L2
namespace L2
open PySem PySem.Spec PyProof.Rows
end L2
namespace L2
open PySem PySem.Spec PyProof.Rows
section
variable {X:Cx}{a b c:Expr}{ta tb tc:TE}{pos:Pos}
end
end L2
namespace L2
open PySem PySem.Spec PyProof.Rows
section
variable {prog:Program}{w:World}{A:Around}{E:Value→Shared→Prop}{s:Shared}{K:aG}{x dx C f:Addr}{mA:Str→Option Value}{name:Str}{v:Value}
end
section
variable {X:Cx}{pins:List (Addr×Obj)}{σ:St}{H:Hp}{s:Shared}{a C dx:Addr}{fs:List (Str×V)}{f:Str}{v:V}{A:Around}{E:Value→Shared→Prop}
end
end L2
namespace L2
open PySem PySem.Spec PyProof.Rows
section
variable {X:Cx}{CX:Xa}{k:Nat}{f C:Addr}{fd:FuncData}{ps:List Str}{sp:Sp}{tZ:List V}{ds:List Value}{E:XK}{x m:Str}{p pos apos:Pos}{e o:Expr}{es:List Expr}{ta:TE}{t:TA}
end
end L2
namespace L2
open PySem PySem.Spec PyProof.Rows
section
variable {X:Cx}{x:Str}{p pos:Pos}{e:Expr}{es:List Expr}{t:TA}{id T:String}{r:List V→Hp→VK→Prop}
end
end L2
namespace L2
open PySem PySem.Spec PyProof.Rows
section
variable {κ:Type} [DecidableEq κ]
def oK (kvs:List (κ×V)) (k:κ):Option V:=(kvs.find? fun kv=>decide (kv.1=k)).map (·.2)
def putK (kvs:List (κ×V)) (k:κ) (v:V):List (κ×V):=
 if (kvs.any fun kv=>decide (kv.1=k))=true then kvs.map (fun kv=>if kv.1=k then (kv.1,v) else kv) else kvs ++ [(k,v)]
theorem sV {p:κ×V}{r:List (κ×V)}{k:κ} (e:p.1=k):oK (p :: r) k=some p.2:=by simp [oK,List.find?_cons,e]
theorem qD {p:κ×V}{r:List (κ×V)}{k:κ} (e:¬ p.1=k):oK (p :: r) k=oK r k:=by simp [oK,List.find?_cons,e]
theorem Cz (k:κ):∀ kvs:List (κ×V),(kvs.any fun kv=>decide (kv.1=k))=(oK kvs k).isSome
 | []=>rfl
 | p :: r=>by
  rw [List.any_cons]
  by_cases e:p.1=k
  ·simp only [sV e,decide_eq_true e,Bool.true_or,Option.isSome_some]
  ·rw [qD e,decide_eq_false e,Bool.false_or];exact Cz k r
theorem zJ (kvs:List (κ×V)) (k:κ) (v:V):(putK kvs k v).length≤kvs.length + 1:=by
 unfold putK;split
 ·rw [bh];omega
 ·rw [List.length_append,List.length_cons,List.length_nil];omega
theorem Mu {kvs:List (κ×V)}{k:κ} (v:V) (h:oK kvs k=none):putK kvs k v=kvs ++ [(k,v)]:=by
 unfold putK;rw [Cz,h];exact if_neg (by decide)
theorem Ar.Ij {o:Option V}{u:Option Value} (r:Ar o u):o.isSome=u.isSome:=by
 cases o with
 | none=>cases u with
  | none=>rfl
  | some _=>exact (show False from r).elim
 | some _=>cases u with
  | none=>exact (show False from r).elim
  | some _=>rfl
theorem KV.val {kvs:List (κ×V)}{vs:List (κ×Value)} (r:KV kvs vs) (k:κ):Ar (oK kvs k) (valueAt vs k):=by
 unfold KV at r
 induction r with
 | nil=>exact True.intro
 | @cons p q ps qs h t ih=>
  obtain ⟨h1,h2⟩:=h
  by_cases e:p.1=k
  ·have e':q.1=k:=h1.symm.trans e;have b:valueAt (q :: qs) k=some q.2:=by simp [valueAt,List.find?_cons,e']
   rw [sV e,b];exact h2
  ·have e':¬ q.1=k:=fun z=>e (h1.trans z);have b:valueAt (q :: qs) k=valueAt qs k:=by simp [valueAt,List.find?_cons,e']
   rw [qD e,b];exact ih
theorem KV.any {kvs:List (κ×V)}{vs:List (κ×Value)} (r:KV kvs vs) (k:κ):(kvs.any fun kv=>decide (kv.1=k))=vs.any fun kv=>decide (kv.1=k):=by
 unfold KV at r
 induction r with
 | nil=>rfl
 | cons h t ih=>rw [List.any_cons,List.any_cons,ih,h.1]
theorem KV.repl {kvs:List (κ×V)}{vs:List (κ×Value)} (r:KV kvs vs) (k:κ) {y:V}{u:Value} (ry:RelV y u):
  KV (kvs.map fun kv=>if kv.1=k then (kv.1,y) else kv) (vs.map fun kv=>if kv.1=k then (kv.1,u) else kv):=by
 unfold KV at r ⊢
 induction r with
 | nil=>exact .nil
 | @cons p q ps qs h t ih=>
  rw [List.map_cons,List.map_cons];refine .cons ?_ ih;obtain ⟨h1,h2⟩:=h
  by_cases e:p.1=k
  ·rw [if_pos e,if_pos (h1.symm.trans e)];exact ⟨h1,ry⟩
  ·rw [if_neg e,if_neg (fun z=>e (h1.trans z))];exact ⟨h1,h2⟩
theorem KV.put {kvs:List (κ×V)}{vs:List (κ×Value)} (r:KV kvs vs) (k:κ) {y:V}{u:Value} (ry:RelV y u):KV (putK kvs k y) (stored vs k u):=by
 unfold putK stored;rw [r.any k]
 by_cases e:(vs.any fun kv=>decide (kv.1=k))=true
 ·rw [if_pos e,if_pos e];exact r.repl k ry
 ·rw [if_neg e,if_neg e];exact Paired.snoc r ⟨rfl,ry⟩
theorem KV.keys {kvs:List (κ×V)}{vs:List (κ×Value)} (r:KV kvs vs):kvs.map (·.1)=vs.map (·.1):=by
 unfold KV at r
 induction r with
 | nil=>rfl
 | cons h t ih=>rw [List.map_cons,List.map_cons,ih,h.1]
theorem KV.length {kvs:List (κ×V)}{vs:List (κ×Value)} (r:KV kvs vs):kvs.length=vs.length:=Paired.length r
end
theorem Yt {P:Program}{w:World}{k:Key}{u:Value} (r:RelV (kV k) u):(iH P w).is k u=true:=by
 cases k with
 | inl i=>obtain ⟨t,e⟩:=(show ∃ t,u=Value.int i t from r);subst e;exact Yd P w i t
 | inr x=>obtain ⟨t,e⟩:=(show ∃ t,u=Value.str x t from r);subst e;exact Yc P w x t
theorem RX {P:Program}{w:World}:∀ {ks:List Key}{us:List Value},Vals (ks.map kV) us→ItemsAre (iH P w) ks us
 | [],_,r=>by rw [List.map_nil] at r;cases r;exact .nil
 | k :: ks,_,r=>by
  rw [List.map_cons] at r;cases r with
  | cons h t=>exact .cons (Yt h) (RX t)
abbrev KT (H:Hp):List (List Key×V)→List (List Key×Addr×Value)→Prop:=Paired fun p q=>p.1=q.1∧H q.2.1=some (.tup (p.1.map kV))∧RelV p.2 q.2.2
theorem KT.val {H:Hp}{kvs:List (List Key×V)}{xs:List (List Key×Addr×Value)} (r:KT H kvs xs) (k:List Key):Ar (oK kvs k) ((atKey xs k).map (·.2)):=by
 induction r with
 | nil=>exact True.intro
 | @cons p q ps qs h t ih=>
  obtain ⟨h1,_,h2⟩:=h
  by_cases e:p.1=k
  ·have e':q.1=k:=h1.symm.trans e;have b:atKey (q :: qs) k=some q.2:=by simp [atKey,List.find?_cons,e']
   rw [sV e,b];exact h2
  ·have e':¬ q.1=k:=fun z=>e (h1.trans z);have b:atKey (q :: qs) k=atKey qs k:=by simp [atKey,List.find?_cons,e']
   rw [qD e,b];exact ih
theorem KT.repl {H:Hp}{kvs:List (List Key×V)}{xs:List (List Key×Addr×Value)} (r:KT H kvs xs) (k:List Key) {y:V}{u:Value} (ry:RelV y u):
  KT H (kvs.map fun kv=>if kv.1=k then (kv.1,y) else kv) (xs.map (putAt k u)):=by
 induction r with
 | nil=>exact .nil
 | @cons p q ps qs h t ih=>
  rw [List.map_cons,List.map_cons];refine .cons ?_ ih;obtain ⟨h1,h2,h3⟩:=h;unfold putAt
  by_cases e:p.1=k
  ·rw [if_pos e,if_pos (h1.symm.trans e)];exact ⟨h1,h2,ry⟩
  ·rw [if_neg e,if_neg (fun z=>e (h1.trans z))];exact ⟨h1,h2,h3⟩
theorem KT.put {H:Hp}{kvs:List (List Key×V)}{xs:List (List Key×Addr×Value)} (r:KT H kvs xs) (k:List Key) {b:Addr}{y:V}{u:Value} (hb:H b=some (.tup (k.map kV))) (ry:RelV y u):
  KT H (putK kvs k y) (storedH xs k b u):=by
 have e:(kvs.any fun kv=>decide (kv.1=k))=(atKey xs k).isSome:=by
  rw [Cz,(r.val k).Ij,Option.isSome_map]
 unfold putK storedH;rw [e]
 by_cases q:(atKey xs k).isSome=true
 ·rw [if_pos q,if_pos q];exact r.repl k ry
 ·rw [if_neg q,if_neg q];exact Paired.snoc r ⟨rfl,hb,ry⟩
theorem KT.keeps {H H':Hp}{kvs:List (List Key×V)}{xs:List (List Key×Addr×Value)} (r:KT H kvs xs) (ht:∀ b ys,H b=some (.tup ys)→H' b=some (.tup ys)):KT H' kvs xs:=
 Paired.Znk r fun _ _ z=>⟨z.1,ht _ _ z.2.1,z.2.2⟩
section
variable {P:Program}{w:World}{H:Hp}{h:Heap}{a:Addr}
theorem Zm6 {u:HO} (ok:yp P w H h) (e:Rd H a u):jQ P w H h a u:=e.ok ok
theorem YQ {kvs:List (Key×V)} (ok:yp P w H h) (e:Rd H a (.dK kvs)):kvs.length≤sizeLine∧(a == sysModules)=false∧∃ vs,KV kvs vs∧h.DictOf (iH P w) a vs:=
 show jQ P w H h a (.dK kvs) from Zm6 ok e
theorem YS {kvs:List (Key×V)} (ok:yp P w H h) (e:H a=some (.dK kvs)):kvs.length≤sizeLine∧(a == sysModules)=false∧∃ vs,KV kvs vs∧h.DictOf (iH P w) a vs:=YQ ok (.inl e)
theorem Vw {ks:List Key} (ok:yp P w H h) (e:H a=some (.tup (ks.map kV))):(tupleKind (iH P w)).is h ks a:=by
 obtain ⟨_,its,r,o,h1,h2,n,h3⟩:=(show jQ P w H h a (.tup (ks.map kV)) from ok a _ e);exact ⟨o,its.toArray,n,h1,h2,h3,by simpa using RX r⟩
theorem YJ {kvs:List (List Key×V)} (ok:yp P w H h) (e:Rd H a (.dT kvs)):kvs.length≤sizeLine∧(a == sysModules)=false∧
  ∃ xs,KT H kvs xs∧h.DictOfH (tupleKind (iH P w)) a xs:=by
 obtain ⟨z,y,xs,r,o,es,ep,h1,h2,h3,h4,h5⟩:=(show jQ P w H h a (.dT kvs) from Zm6 ok e);refine ⟨z,y,xs,r,o,es,ep,h1,h2,h3,h4,fun x hx=>?_,h5⟩;have all:∀ {l:List (List Key×V)}{m:List (List Key×Addr×Value)},KT H l m→∀ x∈m,(tupleKind (iH P w)).is h x.1 x.2.1:=by
  intro l m q
  induction q with
  | nil=>intro x hx;exact nomatch hx
  | @cons p q ps qs hq t ih=>
   intro x hx;rcases List.mem_cons.mp hx with e | hx
   ·subst e;exact Vw ok (by rw [← hq.1];exact hq.2.1)
   ·exact ih x hx
 exact all r x hx
theorem Zrd {kvs:List (List Key×V)} (ok:yp P w H h) (e:H a=some (.dT kvs)):kvs.length≤sizeLine∧(a == sysModules)=false∧
  ∃ xs,KT H kvs xs∧h.DictOfH (tupleKind (iH P w)) a xs:=YJ ok (.inl e)
end
def qg (H:Hp) (a:Addr) (y:V) (r:Option V):Prop:=
 (∃ kvs k,Rd H a (.dK kvs)∧y=kV k∧r=oK kvs k)∨∃ kvs k b,Rd H a (.dT kvs)∧y=.ref b∧H b=some (.tup (k.map kV))∧r=oK kvs k
def zY (H:Hp) (a:Addr) (y v:V) (H':Hp):Prop:=
 (∃ kvs k,H a=some (.dK kvs)∧y=kV k∧kvs.length < sizeLine∧H'=upd H a (.dK (putK kvs k v)))∨
 ∃ kvs k b,H a=some (.dT kvs)∧y=.ref b∧H b=some (.tup (k.map kV))∧kvs.length < sizeLine∧H'=upd H a (.dT (putK kvs k v))
theorem qg.k {H:Hp}{a:Addr}{kvs:List (Key×V)}{k:Key} (e:H a=some (.dK kvs)):qg H a (kV k) (oK kvs k):=.inl ⟨kvs,k,.inl e,rfl,rfl⟩
theorem zY.k {H:Hp}{a:Addr}{kvs:List (Key×V)}{k:Key}{v:V} (e:H a=some (.dK kvs)) (hl:kvs.length < sizeLine):zY H a (kV k) v (upd H a (.dK (putK kvs k v))):=.inl ⟨kvs,k,e,rfl,hl,rfl⟩
section
variable {X:Cx}{pins:List (Addr×Obj)}{σ:St}{H:Hp}{s:Shared}{a:Addr}{y v:V}{u r:Value}{o:Option V}{A:Around}{E:Value→Shared→Prop}
theorem Inv.big (I:Inv X pins σ H s):sysModules < s.heap.objs.size:=by
 have h:mainGlobals < s.heap.objs.size:=(I.mod.glob.keeps I.bk).lt;exact Nat.lt_trans (by decide) h
theorem Zfb {Q:Value→Shared→Prop} (hu:A.units + 1 < cLine) (I:Inv X pins σ H s) (g:qg H a y (some v)) (ry:RelV y u) (h:∀ w' s',Inv X pins σ H s'→RelV v w'→Q w' s'):
  wpAny (model X.prog X.w) A (getItem (.ref a) u) Q E s:=by
 rcases g with ⟨kvs,k,e,ey,l⟩ | ⟨kvs,k,b,e,ey,eb,l⟩
 ·subst ey;obtain ⟨z,hd,vs,rel,dd⟩:=YQ I.hok e;obtain ⟨w',hw,rw'⟩:=Ar.some_of (v:=v) (o:=valueAt vs k) (by rw [l];exact rel.val k);exact wpAny_getItem_of (Yt ry) dd.mapOf hw (h w' _ (I.tok _) rw')
 ·subst ey;cases (show u=Value.ref b from ry);obtain ⟨z,hd,xs,rel,dd⟩:=YJ I.hok e;obtain ⟨w',hw,rw'⟩:=Ar.some_of (v:=v) (o:=(atKey xs k).map (·.2)) (by rw [l];exact rel.val k);obtain ⟨p,hp,hp2⟩:=Option.map_eq_some_iff.mp hw;refine wpAny_getItem_heap (tupleKind_room_in1 hu) (Vw I.hok eb) dd hp ?_;rw [hp2];exact h w' _ (I.tok _) rw'
theorem Zlp {Q:Value→Shared→Prop} (hu:A.units + 1 < cLine) (I:Inv X pins σ H s) (g:qg H a y o) (ry:RelV y u) (h:∀ s',Inv X pins σ H s'→Q (.bool (!o.isSome)) s'):
  wpAny (model X.prog X.w) A (compareOp .NotIn u (.ref a)) Q E s:=by
 rcases g with ⟨kvs,k,e,ey,l⟩ | ⟨kvs,k,b,e,ey,eb,l⟩
 ·subst ey;obtain ⟨z,hd,vs,rel,dd⟩:=YQ I.hok e;refine wpAny_notIn_of (Yt ry) hd dd.mapOf ?_;rw [← (rel.val k).Ij,← l];exact h _ (I.tok _)
 ·subst ey;cases (show u=Value.ref b from ry);obtain ⟨z,hd,xs,rel,dd⟩:=YJ I.hok e;refine wpAny_notIn_heap (tupleKind_room_in1 hu) (Vw I.hok eb) hd dd ?_;have q:=(rel.val k).Ij;rw [Option.isSome_map] at q;rw [← q,← l];exact h _ (I.tok _)
theorem KZ {h':Heap}{t':Nat}{ob:HO} (I:Inv X pins σ H s) (mu:Mut (H a)) (hs:Heap.SameBut a s.heap h') (he:∃ q,h'.get? a=some q) (new:jQ X.prog X.w (upd H a ob) h' a ob):
  Inv X pins σ (upd H a ob) { s with heap:=h',toks:=t' }:=
 I.write (x:=a) (e:=a) mu (.inl rfl) (fun b q hb z=>(hs.2 b hb).trans z) he new
theorem Zc0 {P:Program}{w:World}{H':Hp}{h':Heap}{kvs:List (Key×V)}{vs:List (Key×Value)} (z:kvs.length≤sizeLine) (hd:(a == sysModules)=false) (rel:KV kvs vs) (dd:h'.DictOf (iH P w) a vs):
  jQ P w H' h' a (.dK kvs):=⟨z,hd,vs,rel,dd⟩
theorem Zfa {H':Hp}{Q:Unit→Shared→Prop} (hu:A.units + 1 < cLine) (I:Inv X pins σ H s) (g:zY H a y v H') (ry:RelV y u) (rv:RelV v r) (h:∀ s',Inv X pins σ H' s'→Q () s'):
  wpAny (model X.prog X.w) A (setItem (.ref a) u r) Q E s:=by
 rcases g with ⟨kvs,k,e,ey,l,eH⟩ | ⟨kvs,k,b,e,ey,eb,l,eH⟩
 ·subst ey eH;obtain ⟨z,hd,vs,rel,dd⟩:=YS I.hok e;have hz:vs.length≤sizeLine:=by rw [← rel.length];exact z
  have hl:(putK kvs k v).length≤sizeLine:=by have:=zJ kvs k v;omega
  refine wpAny_setItem_pairs (hsz:=hz) (Yt ry) dd fun h' dd' hs=>h _ ?_;have he:∃ q,h'.get? a=some q:=let ⟨q,_,_,hq,_⟩:=dd';⟨q,hq⟩
  exact KZ I (by rw [e];exact True.intro) hs he (Zc0 hl hd (rel.put k rv) dd')
 ·subst ey eH;cases (show u=Value.ref b from ry);obtain ⟨z,hd,xs,rel,dd⟩:=Zrd I.hok e;have hz:xs.length≤sizeLine:=by rw [← Paired.length rel];exact z
  have hl:(putK kvs k v).length≤sizeLine:=by have:=zJ kvs k v;omega
  refine wpAny_setItem_heap (hsz:=hz) (tupleKind_room_in1 hu) (Vw I.hok eb) dd fun h' dd' hs=>h _ ?_;obtain ⟨q,es,ep,hq,h2,h3,h4,_,h5⟩:=dd';refine KZ I (by rw [e];exact True.intro) hs ⟨q,hq⟩ ⟨hl,hd,_,(rel.put k eb rv).keeps fun c ys ec=>?_,q,es,ep,hq,h2,h3,h4,h5⟩;rw [aA (Dy ec e (fun z=>nomatch z))];exact ec
end
section
variable {X:Cx}{pins:List (Addr×Obj)}{σ:St}{H:Hp}{s:Shared}{a:Addr}{kvs:List (Key×V)}{k:Key}{u:Value}{A:Around}{E:Value→Shared→Prop}
end
def Zly (i:Expr):Prop:=∀ ov iv,subscripted i false ov iv=operate [ov,iv] (getItem ov iv)
theorem Zcc {prog:Program}{w:World}{A:Around}{E:Value→Shared→Prop}{s:Shared}{env:Env}{value slice:Expr}{pos:Pos}{T id:String}{Q:Value→Shared→Prop}
  (hl:typeLookup (.type T) "__getitem__"=pure (some (.builtin id))) (hs:Zly slice)
  (h:wpAny (model prog w) A (eval value env) (fun o s₁=>wpAny (model prog w) A (eval slice env) (fun i s₂=>s₂.TypeIs o T∧wpAny (model prog w) A (getItem o i) Q E s₂) E s₁) E s):
  wpAny (model prog w) A (eval (.Subscript value slice pos) env) Q E s:=by
 refine Subscript_ (wpAny_mono h (fun o s₁ h₁=>wpAny_mono h₁ (fun i s₂ h₂=>?_) fun _ _ x=>x) fun _ _ x=>x);obtain ⟨hT,h₂⟩:=h₂;unfold subscriptTail;refine wpAny_bind ?_;rw [getitemInPython_of_ne hT.not_modules];refine wpAny_bind (wpAny_specialOf hT hl ?_);have fin:wpAny (model prog w) A (subscripted slice false o i) (fun r s₃=>wpAny (model prog w) A (letTemporaryGo value o r >>= fun _=>pure r) Q E s₃) E s₂:=by
  rw [hs o i];exact wpAny_operating (wpAny_mono h₂ (fun r s₃ h₃=>wpAny_bind (wpAny_letTemporaryGo (wpAny_pure h₃))) fun _ _ x=>x)
 first
  | exact wpAny_pure (wpAny_bind fin)
  | exact wpAny_bind (wpAny_pure (wpAny_bind fin))
  | exact wpAny_bind fin
theorem YW {X:Cx}{pins:List (Addr×Obj)}{σ:St}{H:Hp}{s:Shared}{a:Addr}{y:V}{o:Option V} (I:Inv X pins σ H s) (g:qg H a y o):s.TypeIs (.ref a) "dict":=by
 rcases g with ⟨kvs,k,e,_,_⟩ | ⟨kvs,k,b,e,_,_,_⟩
 ·obtain ⟨_,_,vs,_,dd⟩:=YQ I.hok e;exact dd.typeIs
 ·obtain ⟨_,_,xs,_,dd⟩:=YJ I.hok e;exact dd.typeIs
def fu (td ty:TE):TE:=fun σ H Q=>td σ H fun x H1=>ty σ H1 fun y H2=>∃ a v,x=.ref a∧qg H2 a y (some v)∧Q v H2
def Ky (ty td:TE):TE:=fun σ H Q=>ty σ H fun y H1=>td σ H1 fun x H2=>∃ a o,x=.ref a∧qg H2 a y o∧Q (.bl (!o.isSome)) H2
def xU (td ty tv:TE):TS:=fun D σ H=>tv σ H fun v H1=>td σ H1 fun x H2=>ty σ H2 fun y H3=>∃ a H4,x=.ref a∧zY H3 a y v H4∧D.nx σ H4
section
variable {X:Cx}{o i e value:Expr}{pos pos' tpos:Pos}{td ty tv:TE}
theorem Zk6 (hu:X.A.units + 1 < cLine) (ho:PE X o td) (hi:PE X i ty) (hs:Zly i):PE X (.Subscript o i pos) (fu td ty):=by
 intro pins s σ H Q I h;refine Zcc PySem.F.slot_dict_getitem.lookup hs (iD (ho pins s σ H _ I h) fun u s1 ⟨x,H1,I1,rx,q1⟩=>iD (hi pins s1 σ H1 _ I1 q1) fun iv s2 ⟨y,H2,I2,ry,a,v,ex,g,q2⟩=>?_);subst ex;obtain rfl:u=Value.ref a:=rx;exact ⟨YW I2 g,Zfb hu I2 g ry fun w' s3 I3 rw'=>⟨v,H2,I3,rw',q2⟩⟩
theorem RM (hu:X.A.units + 1 < cLine) (hi:PE X i ty) (ho:PE X o td):PC X .NotIn i o (Ky ty td):=by
 intro pins s σ H Q I h;refine iD (hi pins s σ H _ I h) fun iv s1 ⟨y,H1,I1,ry,q1⟩=>iD (ho pins s1 σ H1 _ I1 q1) fun u s2 ⟨x,H2,I2,rx,a,ov,ex,g,q2⟩=>?_;subst ex;obtain rfl:u=Value.ref a:=rx;exact Zlp hu I2 g ry fun s3 I3=>⟨.bl (!ov.isSome),H2,I3,rfl,q2⟩
theorem ug (hu:X.A.units + 1 < cLine) (ho:PE X o td) (hi:PE X i ty) (hv:PE X value tv) (hs:swapsWith value (some (.Subscript o i pos')) pos.line X.env=pure false):
  PS X (.Assign [.Subscript o i pos'] value pos) (xU td ty tv):=by
 intro pins s σ H D I h;refine wpAny_Assign_Subscript (iD (hv pins s σ H _ I h) fun r s1 ⟨v,H1,I1,rv,q1⟩=>iD (ho pins s1 σ H1 _ I1 q1) fun u s2 ⟨x,H2,I2,rx,q2⟩=>iD (hi pins s2 σ H2 _ I2 q2) fun iv s3 ⟨y,H3,I3,ry,a,H4,ex,g,q3⟩=>?_) hs;subst ex;obtain rfl:u=Value.ref a:=rx;exact Zfa hu I3 g ry rv fun s4 I4=>⟨σ,H4,I4,q3⟩
end
theorem YT {P:Program}{w:World}{H:Hp} (h:Heap) (hb:sysModules < h.objs.size):jQ P w H (h.push { cls:=.type "dict",data:=.dict #[] }) h.objs.size (.dK []):=
 ⟨Nat.zero_le _,beq_eq_false_iff_ne.mpr (Ne.symm (Nat.ne_of_lt hb)),[],.nil,Heap.DictOf.new h⟩
def Lz:TE:=fun _ H Q=>∀ p,H p=none→Q (.ref p) (upd H p (.dK []))
section
variable {X:Cx}{pos:Pos}
theorem Dn:PE X (.Dict [] [] pos) Lz:=fun pins s σ H Q I h=>
 wpAny_Dict_empty ⟨.ref s.heap.objs.size,_,I.laid (a:=s.heap.objs.size) (o:=.dK []) (t':=s.toks) (fun _ _ q=>Heap.get?_push_of_some _ q) (Nat.le_refl _) (YT s.heap I.big),rfl,h _ (I.hok.fresh (Nat.le_refl _))⟩
end
def FQ:List (TE×TE)→St→Hp→(List (V×V)→Hp→Prop)→Prop
 | [],_,H,Q=>Q [] H
 | (tk,tv) :: r,σ,H,Q=>tk σ H fun x H1=>tv σ H1 fun y H2=>FQ r σ H2 fun ps H3=>Q ((x,y) :: ps) H3
abbrev VV:List (V×V)→List (Value×Value)→Prop:=Paired fun p q=>RelV p.1 q.1∧RelV p.2 q.2
def PPs (X:Cx) (pos:Pos) (keys:List (Option Expr)) (values:List Expr) (Xg:List (TE×TE)):Prop:=
 ∀ (pins:List (Addr×Obj)) (s:Shared) (σ:St) (H:Hp) (Q:List (V×V)→Hp→Prop),Inv X pins σ H s→FQ Xg σ H Q→
  wpAny (model X.prog X.w) X.A (evalPairs (pairTrees keys values X.env pos)) (fun vs s'=>∃ ps H',Inv X pins σ H' s'∧VV ps vs∧Q ps H') X.xe s
theorem Ur {X:Cx}{pos:Pos}:PPs X pos [] [] []:=fun pins s σ H Q I h=>pairTrees_nil_walk ⟨[],H,I,.nil,h⟩
theorem lV {X:Cx}{pos:Pos}{k v:Expr}{ks:List (Option Expr)}{vs:List Expr}{tk tv:TE}{Xg:List (TE×TE)} (hk:PE X k tk) (hv:PE X v tv) (hr:PPs X pos ks vs Xg):
  PPs X pos (some k :: ks) (v :: vs) ((tk,tv) :: Xg):=fun pins s σ H Q I h=>
 pairTrees_cons_walk (iD (hk pins s σ H _ I h) fun u s1 ⟨x,H1,I1,rx,q1⟩=>iD (hv pins s1 σ H1 _ I1 q1) fun w2 s2 ⟨y,H2,I2,ry,q2⟩=>
  iD (hr pins s2 σ H2 _ I2 q2) fun ws s3 ⟨ps,H3,I3,rel,q3⟩=>⟨(x,y) :: ps,H3,I3,.cons ⟨rx,ry⟩ rel,q3⟩)
def p8 (kvs more:List (Key×V)):List (Key×V):=more.foldl (fun acc kv=>putK acc kv.1 kv.2) kvs
theorem KV.merge:∀ {more:List (Key×V)}{rs:List (Key×Value)}{kvs:List (Key×V)}{vs:List (Key×Value)},KV more rs→KV kvs vs→KV (p8 kvs more) (merged vs rs):=by
 intro more rs kvs vs r;unfold KV at r
 induction r generalizing kvs vs with
 | nil=>intro q;exact q
 | @cons p q ps qs h t ih=>
  intro r0;have e:KV (putK kvs p.1 p.2) (stored vs q.1 q.2):=by
   have:=r0.put p.1 h.2;rw [← h.1];exact this
  exact ih e
theorem vo:∀ (more kvs:List (Key×V)),(p8 kvs more).length≤kvs.length + more.length
 | [],kvs=>by show kvs.length≤kvs.length + 0;omega
 | p :: r,kvs=>by
  have h1:=vo r (putK kvs p.1 p.2);have h2:=zJ kvs p.1 p.2;show (p8 (putK kvs p.1 p.2) r).length≤_;rw [List.length_cons];omega
theorem Og {P:Program}{w:World}:∀ {kvs:List (Key×V)}{ws:List (Value×Value)},VV (kvs.map fun kv=>(kV kv.1,kv.2)) ws→∃ rs,Carries (iH P w) ws rs∧KV kvs rs
 | [],_,r=>by rw [List.map_nil] at r;cases r;exact ⟨[],True.intro,.nil⟩
 | p :: kvs,_,r=>by
  rw [List.map_cons] at r;cases r with
  | @cons a b as bs h t=>
   obtain ⟨rs,c,q⟩:=Og (P:=P) (w:=w) t;obtain ⟨b1,b2⟩:=b;exact ⟨(p.1,b2) :: rs,⟨Yt h.1,rfl,c⟩,.cons ⟨rfl,h.2⟩ q⟩
def Xh (Xg:List (TE×TE)):TE:=fun σ H Q=>∀ p,H p=none→FQ Xg σ (upd H p (.dK [])) fun ps H2=>H2 p=some (.dK [])∧∃ kvs:List (Key×V),ps=kvs.map (fun kv=>(kV kv.1,kv.2))∧kvs.length≤15∧Q (.ref p) (upd H2 p (.dK (p8 [] kvs)))
theorem Ut {X:Cx}{pos:Pos}{keys:List (Option Expr)}{values:List Expr}{Xg:List (TE×TE)} (h:PPs X pos keys values Xg) (hall:keys.all (·.isSome)=true) (hl:keys.length=values.length) (h0:keys≠[])
  (h15:keys.length≤15):PE X (.Dict keys values pos) (Xh Xg):=by
 intro pins s σ H Q I q;have hn:=I.hok.fresh (Nat.le_refl s.heap.objs.size);have I1:=I.laid (a:=s.heap.objs.size) (o:=.dK []) (h':=s.heap.push { cls:=.type "dict",data:=.dict #[] }) (t':=s.toks) (fun _ _ q=>Heap.get?_push_of_some _ q) (Nat.le_refl _) (YT s.heap I.big);refine wpAny_Dict_walk (knd:=iH X.prog X.w) hall hl h0 h15 (iD (h pins _ σ _ _ I1 (q _ hn)) fun ws s2 ⟨ps,H2,I2,rel,e,kvs,ep,lk,q2⟩=>?_);subst ep;obtain ⟨rs,c,rk⟩:=Og (P:=X.prog) (w:=X.w) rel;obtain ⟨z,hd,vs0,r0,dd⟩:=YS I2.hok e;cases r0;refine ⟨rs,c,dd,fun h' dd' hs=>⟨.ref s.heap.objs.size,_,?_,rfl,q2⟩⟩;have hz:(p8 [] kvs).length≤sizeLine:=by
  have h1:=vo kvs [];rw [List.length_nil] at h1;rw [sizeLine_eq];omega
 have he:∃ q,h'.get? s.heap.objs.size=some q:=let ⟨q,_,_,hq,_⟩:=dd';⟨q,hq⟩
 exact KZ I2 (by rw [e];exact True.intro) hs he (Zc0 hz hd (rk.merge .nil) dd')
structure M1 (X:Cx) (o:Expr) (m:Str) (apos:Pos) (e:Expr) (cpos:Pos):Prop where
 base:attributeBase o m X.env (eval o X.env)=eval o X.env
 few:((backTo cpos (starEach [e] X.env)).all (fun x=>!x.1) && (backToKw cpos (keywordEach [] X.env)).all (fun x=>x.1.isSome)
  && decide (([e]:List Expr).length + ([]:List Keyword).length + (if ([]:List Keyword).isEmpty then 0 else 1) < 30))=true
 line:(apos.endLine == cpos.line)=true
 trees:backTo cpos (starEach [e] X.env)=[(false,eval e X.env)]
structure M2 (X:Cx) (o:Expr) (m:Str) (apos:Pos) (e f:Expr) (cpos:Pos):Prop where
 base:attributeBase o m X.env (eval o X.env)=eval o X.env
 few:((backTo cpos (starEach [e,f] X.env)).all (fun x=>!x.1) && (backToKw cpos (keywordEach [] X.env)).all (fun x=>x.1.isSome)
  && decide (([e,f]:List Expr).length + ([]:List Keyword).length + (if ([]:List Keyword).isEmpty then 0 else 1) < 30))=true
 line:(apos.endLine == cpos.line)=true
 trees:backTo cpos (starEach [e,f] X.env)=[(false,eval e X.env),(false,eval f X.env)]
def IsD (H:Hp) (a:Addr):Prop:=(∃ kvs,Rd H a (.dK kvs))∨∃ kvs,Rd H a (.dT kvs)
theorem Znx {X:Cx}{pins:List (Addr×Obj)}{σ:St}{H:Hp}{s:Shared}{a:Addr} (I:Inv X pins σ H s) (d:IsD H a):
  s.TypeIs (.ref a) "dict"∧(∀ b,Value.ref a=.ref b→∃ ob,s.heap.get? b=some ob∧ob.dict=none)∧(a == sysModules)=false:=by
 rcases d with ⟨kvs,e⟩ | ⟨kvs,e⟩
 ·obtain ⟨_,hd,vs,_,dd⟩:=YQ I.hok e;refine ⟨dd.typeIs,fun b q=>?_,hd⟩;cases q;obtain ⟨ob,_,_,h1,h2,_⟩:=dd;exact ⟨ob,h1,h2.2.1⟩
 ·obtain ⟨_,hd,xs,_,dd⟩:=YJ I.hok e;refine ⟨dd.typeIs,fun b q=>?_,hd⟩;cases q;obtain ⟨ob,_,_,h1,h2,_⟩:=dd;exact ⟨ob,h1,h2.2.1⟩
section
variable {X:Cx}{pins:List (Addr×Obj)}{σ:St}{H:Hp}{s:Shared}{a:Addr}{y d:V}{u r:Value}{o:Option V}{A:Around}{E:Value→Shared→Prop}
end
section
variable {X:Cx}{o e f:Expr}{apos cpos:Pos}{td ty tx:TE}
end
section
variable {X:Cx}{pins:List (Addr×Obj)}{σ:St}{H:Hp}{s:Shared}{a:Addr}{kvs:List (Key×V)}{A:Around}{E:Value→Shared→Prop}
end
section
variable {X:Cx}{pins:List (Addr×Obj)}{σ:St}{H:Hp}{s:Shared}{a:Addr}{y:V}{u:Value}{A:Around}{E:Value→Shared→Prop}
end
end L2
namespace Att
open PySem PySem.W PySem.Calls PyProof.Rows
section
variable {prog:Program}{w:World}{A:Around}{E:Value→Shared→Prop}{s:Shared}{K:Frag}
end
end Att
namespace L2
open PySem PySem.Spec PyProof.Rows
end L2
namespace L2
open PySem PySem.Spec PyProof.Rows
end L2
namespace L2
open PySem PySem.Spec PyProof.Rows
section
variable {X:Cx}
end
section
variable {κ:Type} [DecidableEq κ]
theorem Zca {kvs:List (κ×V)}{k:κ}{v:V} (h:oK kvs k=some v):k∈kvs.map (·.1):=by
 have q:(kvs.any fun kv=>decide (kv.1=k))=true:=by
  rw [Cz,h]
  all_goals rfl
 obtain ⟨p,hp,e⟩:=List.any_eq_true.mp q;exact List.mem_map.mpr ⟨p,hp,of_decide_eq_true e⟩
end
end L2
set_option maxHeartbeats 40000000
namespace G
open PySem L2
section
variable {D:Ends}{σ:St}{H H1:Hp}{Q:VK}{t u:TS}{ta tb tc te:TE}{n:St→Hp→Prop}{r:VK}{b c:St→Hp→Prop}
theorem Zct (h:t ⟨u ⟨n,r,b,c⟩,r,b,c⟩ σ H):aK t u ⟨n,r,b,c⟩ σ H:=h
theorem Nr (h:n σ H):bT ⟨n,r,b,c⟩ σ H:=h
theorem Zog (h:te σ H fun _ H1=>n σ H1):rH te ⟨n,r,b,c⟩ σ H:=h
theorem Zqe (h:te σ H r):bI te ⟨n,r,b,c⟩ σ H:=h
theorem Zt5 {c':TT} (h:c' σ H fun k H1=>if k=true then t ⟨n,r,b,c⟩ σ H1 else u ⟨n,r,b,c⟩ σ H1):cZ c' t u ⟨n,r,b,c⟩ σ H:=h
theorem Zmb {g:TG} (h:te σ H fun x H1=>g x σ H1 n):bB te g ⟨n,r,b,c⟩ σ H:=h
theorem i_C {v:V} (h:Q v H):tC v σ H Q:=h
theorem Zt3 {f:R2} (h:ta σ H fun x H1=>tb σ H1 fun y H2=>f x y H2 Q):aY f ta tb σ H Q:=h
theorem Zsz {f:V→Hp→VK→Prop} (h:ta σ H fun x H1=>f x H1 Q):tUn f ta σ H Q:=h
def kB (q:Bool→Hp→Prop):VK:=fun x H'=>∃ k,x=.bl k∧q k H'
theorem i_B {k:Bool}{q:Bool→Hp→Prop} (h:q k H):kB q (.bl k) H:=⟨k,rfl,h⟩
theorem Zo1 {q:Bool→Hp→Prop} (h:te σ H (kB q)):bR te σ H q:=h
theorem Zt0 {q:Bool→Hp→Prop} (h:te σ H (kB q)):tB te σ H q:=h
theorem Zqw {t u:TT}{q:Bool→Hp→Prop} (h:t σ H fun k H1=>if k=true then u σ H1 q else q false H1):J4 t u σ H q:=h
theorem Zt2 {t u:TT}{q:Bool→Hp→Prop} (h:t σ H fun k H1=>if k=true then q true H1 else u σ H1 q):tOr t u σ H q:=h
theorem Zqf {t:TT}{q:Bool→Hp→Prop} (h:t σ H fun k H1=>q (!k) H1):Lw t σ H q:=h
theorem Zol (h:ta σ H (kB fun k H1=>if k=true then tb σ H1 Q else Q (.bl false) H1)):Aw ta tb σ H Q:=h
theorem Zo4 (h:ta σ H (kB fun k H1=>Q (.bl (!k)) H1)):Zcb ta σ H Q:=h
theorem Zqn {t:TT} (h:t σ H fun k H1=>if k=true then ta σ H1 Q else tb σ H1 Q):tIf t ta tb σ H Q:=h
theorem Zti {g:Int→Int→V}{i j:Int} (h:Q (g i j) H):pJ g (.int i) (.int j) H Q:=⟨i,j,rfl,rfl,h⟩
theorem i_I {C:Int→Int→Prop}{g:Int→Int→V}{i j:Int} (hc:C i j) (h:Q (g i j) H):rI C g (.int i) (.int j) H Q:=⟨i,j,rfl,rfl,hc,h⟩
theorem i_U {g:Int→V}{i:Int} (h:Q (g i) H):rU g (.int i) H Q:=⟨i,rfl,h⟩
theorem Zqv {i j:Int} (h:Q (.bl (decide (i=j))) H):uZ (.int i) (.int j) H Q:=⟨rfl,by rw [show decide (V.int i=V.int j)=decide (i=j) from decide_eq_decide.mpr ⟨fun e=>V.int.inj e,fun e=>by rw [e]⟩];exact h⟩
theorem Zqu {i j:Str} (h:Q (.bl (decide (i=j))) H):uZ (.str i) (.str j) H Q:=⟨rfl,by rw [show decide (V.str i=V.str j)=decide (i=j) from decide_eq_decide.mpr ⟨fun e=>V.str.inj e,fun e=>by rw [e]⟩];exact h⟩
theorem Zqi {i j:Int} (h:Q (.bl (!decide (i=j))) H):rNe (.int i) (.int j) H Q:=⟨rfl,by rw [show decide (V.int i=V.int j)=decide (i=j) from decide_eq_decide.mpr ⟨fun e=>V.int.inj e,fun e=>by rw [e]⟩];exact h⟩
theorem Zqh {i j:Str} (h:Q (.bl (!decide (i=j))) H):rNe (.str i) (.str j) H Q:=⟨rfl,by rw [show decide (V.str i=V.str j)=decide (i=j) from decide_eq_decide.mpr ⟨fun e=>V.str.inj e,fun e=>by rw [e]⟩];exact h⟩
def Dj:R2:=fun x y H Q=>y=.non∧Q (.bl (decide (x=.non))) H
def Ms:R2:=fun x y H Q=>y=.non∧Q (.bl (!decide (x=.non))) H
theorem Zod (h:Q (.bl true) H):Dj .non .non H Q:=⟨rfl,h⟩
theorem Zoc {i:Int} (h:Q (.bl false) H):Dj (.int i) .non H Q:=⟨rfl,h⟩
theorem Zob {i:Str} (h:Q (.bl false) H):Dj (.str i) .non H Q:=⟨rfl,h⟩
theorem Zoa {i:Addr} (h:Q (.bl false) H):Dj (.ref i) .non H Q:=⟨rfl,h⟩
theorem Zo9 {i:Bool} (h:Q (.bl false) H):Dj (.bl i) .non H Q:=⟨rfl,h⟩
theorem Zl0 (h:Q (.bl false) H):Ms .non .non H Q:=⟨rfl,h⟩
theorem Zkz {i:Int} (h:Q (.bl true) H):Ms (.int i) .non H Q:=⟨rfl,h⟩
theorem Zb6 {A B:Prop} (h:A):if true=true then A else B:=Zel h
theorem zQ {A B:Prop} (h:B):if false=true then A else B:=Znv h
theorem Zl3 {A B:Prop} (h:B):if (!true)=true then A else B:=Znv h
theorem Zl4 {A B:Prop} (h:A):if (!false)=true then A else B:=Zel h
theorem sO {p A B:Prop} [Decidable p] (h1:p→A) (h2:¬ p→B):if decide p=true then A else B:=Zq8 (fun e=>h1 (of_decide_eq_true e)) (fun e=>h2 (fun q=>e (decide_eq_true q)))
theorem vO {p A B:Prop} [Decidable p] (h1:¬ p→A) (h2:p→B):if (!decide p)=true then A else B:=Zq8 (fun e=>h1 (by simpa using e)) (fun e=>h2 (by simpa using e))
theorem Zqg {q:List V→Hp→Prop} (h:q [] H):aL σ H q:=h
theorem Zoj {q:List V→Hp→Prop}{t:TA} (h:ta σ H fun x H1=>t σ H1 fun xs H2=>q (x :: xs) H2):ak ta t σ H q:=h
theorem Zqj {t:TA} (h:t σ H fun xs H1=>xs.length≤sizeLine∧∀ p,H1 p=none→Q (.ref p) (upd H1 p (.lst xs))):jR t σ H Q:=h
theorem Zqc {t:TA} (h:t σ H fun xs H1=>xs.length≤sizeLine∧∀ p,H1 p=none→Q (.ref p) (upd H1 p (.tup xs))):lG t σ H Q:=h
theorem Zok {t:TA}{sp:Sp}{tZ:List V}{E:XK} (h:t σ H fun vs H1=>sp (vs ++ tZ) H1 Q E):bz sp tZ E t σ H Q:=h
theorem Ztj {t:TA}{f:List V→Hp→VK→Prop} (h:t σ H fun vs H1=>f vs H1 Q):Ad f t σ H Q:=h
theorem Zo7 {t:TA}{sp:Sp}{tZ:List V}{E:XK}{C:Addr} (h:t σ H fun vs H1=>∀ x dx,H1 x=none→H1 dx=none→dx≠x→sp (.ref x :: (vs ++ tZ)) (upd (upd H1 dx (.own x)) x (.ins C dx [])) (fun v H2=>v=.non∧Q (.ref x) H2) E):CP C sp tZ E t σ H Q:=h
def Zq7 (K:aG) (f:Str) (Q:VK):VK:=fun x H1=>∃ a C dx fs v,x=.ref a∧H1 a=some (.ins C dx fs)∧Bo K C∧bG K C f∧fs.lookup f=some v∧Q v H1
theorem Zqt {K:aG}{f:Str} (h:ta σ H (Zq7 K f Q)):cA K ta f σ H Q:=h
theorem aR {K:aG}{f:Str}{a C dx:Addr}{fs:List (Str×V)}{v:V} (h:H a=some (.ins C dx fs)) (hc:Bo K C) (hn:bG K C f) (hl:fs.lookup f=some v) (q:Q v H):Zq7 K f Q (.ref a) H:=⟨a,C,dx,fs,v,rfl,h,hc,hn,hl,q⟩
theorem Zo2 {K:aG}{f:Str}{tv:TE} (h:tv σ H fun y H1=>ta σ H1 fun x H2=>∃ a C dx fs,x=.ref a∧H2 a=some (.ins C dx fs)∧Bo K C∧bG K C f∧fs.length < 1000∧n σ (upd H2 a (.ins C dx (cj f y fs)))):jC K ta tv f ⟨n,r,b,c⟩ σ H:=h
theorem Zo6 {C:Addr}{m:Str}{sp:Sp}{tZ:List V}{E:XK}{t:TA} (h:ta σ H fun x H1=>∃ a dx fs,x=.ref a∧H1 a=some (.ins C dx fs)∧fs.lookup m=none∧t σ H1 fun vs H2=>sp (x :: (vs ++ tZ)) H2 Q E):qF C m sp tZ E ta t σ H Q:=h
theorem Zhn {q:Option Int→Hp→Prop} (h:q none H):CJ σ H q:=h
def kI (q:Int→Hp→Prop):VK:=fun x H1=>∃ i,x=.int i∧q i H1
theorem Zo3 {q:Option Int→Hp→Prop} (h:te σ H (kI fun i=>q (some i))):CG te σ H q:=h
theorem Zt4 {i:Int}{q:Int→Hp→Prop} (h:q i H):kI q (.int i) H:=⟨i,rfl,h⟩
theorem Zt1 {f:V→Option Int→Option Int→Hp→VK→Prop}{tl th:TO} (h:te σ H fun x H1=>tl σ H1 fun l H2=>th σ H2 fun u H3=>f x l u H3 Q):tSl f te tl th σ H Q:=h
theorem Zth {K:aG}{T:String}{f:V→List V→Hp→VK→Prop}{to:TE}{t:TA} (h:to σ H fun x H1=>tyV K T x H1∧t σ H1 fun xs H2=>f x xs H2 Q):ZF K T f to t σ H Q:=h
theorem Zqs {wi:TI}{g:TG}{tb:TS} (h:wi σ H fun J H1=>∃ W:Nat→Nat→St→Hp→Prop,(∃ m,W 0 m σ H1)∧∀ i m σ H,W i m σ H→
 (J.stop i H∧n σ H)∨(J.go i H∧∃ N:St→Hp→Prop,(∀ σ' H',N σ' H'→∃ m',m' < m∧W (i + 1) m' σ' H')∧∀ x H',J.yld i H x H'→g x σ H' fun σ2 H2=>tb ⟨N,r,n,N⟩ σ2 H2)):FT wi g tb ⟨n,r,b,c⟩ σ H:=h
theorem Zt7 {K:aG}{R:It→Hp→Prop} (h:te σ H fun x H1=>∃ a,x=.ref a∧(∃ xs,cF K H1 a xs)∧R (Itl K a) H1):vP K te σ H R:=h
theorem Zt6 {ta:TA}{R:It→Hp→Prop} (h:ta σ H fun vs H1=>∃ j:Int,vs=[.int j]∧-(2 ^ 62)≤j∧j < 2 ^ 62∧R (Itr 0 j.toNat) H1):Es ta σ H R:=h
end
theorem Zsy {v:V}{l:St}{H:Hp}{Q:VK} (h:Q v H):aj 0 (some v :: l) H Q:=⟨v,rfl,h⟩
theorem Zsx {x0:Option V}{v:V}{l:St}{H:Hp}{Q:VK} (h:Q v H):aj 1 (x0 :: some v :: l) H Q:=⟨v,rfl,h⟩
theorem Ztg {x0:Option V}{y:Option V}{v:V}{l:St}{H:Hp}{Q:St→Hp→Prop} (h:Q (x0 :: some v :: l) H):aO 1 v (x0 :: y :: l) H Q:=h
theorem Zsw {x0 x1:Option V}{v:V}{l:St}{H:Hp}{Q:VK} (h:Q v H):aj 2 (x0 :: x1 :: some v :: l) H Q:=⟨v,rfl,h⟩
theorem Ztf {x0 x1:Option V}{y:Option V}{v:V}{l:St}{H:Hp}{Q:St→Hp→Prop} (h:Q (x0 :: x1 :: some v :: l) H):aO 2 v (x0 :: x1 :: y :: l) H Q:=h
theorem Zsv {x0 x1 x2:Option V}{v:V}{l:St}{H:Hp}{Q:VK} (h:Q v H):aj 3 (x0 :: x1 :: x2 :: some v :: l) H Q:=⟨v,rfl,h⟩
theorem Zte {x0 x1 x2:Option V}{y:Option V}{v:V}{l:St}{H:Hp}{Q:St→Hp→Prop} (h:Q (x0 :: x1 :: x2 :: some v :: l) H):aO 3 v (x0 :: x1 :: x2 :: y :: l) H Q:=h
theorem Zsu {x0 x1 x2 x3:Option V}{v:V}{l:St}{H:Hp}{Q:VK} (h:Q v H):aj 4 (x0 :: x1 :: x2 :: x3 :: some v :: l) H Q:=⟨v,rfl,h⟩
theorem Ztd {x0 x1 x2 x3:Option V}{y:Option V}{v:V}{l:St}{H:Hp}{Q:St→Hp→Prop} (h:Q (x0 :: x1 :: x2 :: x3 :: some v :: l) H):aO 4 v (x0 :: x1 :: x2 :: x3 :: y :: l) H Q:=h
theorem Zst {x0 x1 x2 x3 x4:Option V}{v:V}{l:St}{H:Hp}{Q:VK} (h:Q v H):aj 5 (x0 :: x1 :: x2 :: x3 :: x4 :: some v :: l) H Q:=⟨v,rfl,h⟩
theorem Ztc {x0 x1 x2 x3 x4:Option V}{y:Option V}{v:V}{l:St}{H:Hp}{Q:St→Hp→Prop} (h:Q (x0 :: x1 :: x2 :: x3 :: x4 :: some v :: l) H):aO 5 v (x0 :: x1 :: x2 :: x3 :: x4 :: y :: l) H Q:=h
theorem Zss {x0 x1 x2 x3 x4 x5:Option V}{v:V}{l:St}{H:Hp}{Q:VK} (h:Q v H):aj 6 (x0 :: x1 :: x2 :: x3 :: x4 :: x5 :: some v :: l) H Q:=⟨v,rfl,h⟩
theorem Ztb {x0 x1 x2 x3 x4 x5:Option V}{y:Option V}{v:V}{l:St}{H:Hp}{Q:St→Hp→Prop} (h:Q (x0 :: x1 :: x2 :: x3 :: x4 :: x5 :: some v :: l) H):aO 6 v (x0 :: x1 :: x2 :: x3 :: x4 :: x5 :: y :: l) H Q:=h
theorem Zsr {x0 x1 x2 x3 x4 x5 x6:Option V}{v:V}{l:St}{H:Hp}{Q:VK} (h:Q v H):aj 7 (x0 :: x1 :: x2 :: x3 :: x4 :: x5 :: x6 :: some v :: l) H Q:=⟨v,rfl,h⟩
theorem Zta {x0 x1 x2 x3 x4 x5 x6:Option V}{y:Option V}{v:V}{l:St}{H:Hp}{Q:St→Hp→Prop} (h:Q (x0 :: x1 :: x2 :: x3 :: x4 :: x5 :: x6 :: some v :: l) H):aO 7 v (x0 :: x1 :: x2 :: x3 :: x4 :: x5 :: x6 :: y :: l) H Q:=h
theorem Zsq {x0 x1 x2 x3 x4 x5 x6 x7:Option V}{v:V}{l:St}{H:Hp}{Q:VK} (h:Q v H):aj 8 (x0 :: x1 :: x2 :: x3 :: x4 :: x5 :: x6 :: x7 :: some v :: l) H Q:=⟨v,rfl,h⟩
theorem Zt9 {x0 x1 x2 x3 x4 x5 x6 x7:Option V}{y:Option V}{v:V}{l:St}{H:Hp}{Q:St→Hp→Prop} (h:Q (x0 :: x1 :: x2 :: x3 :: x4 :: x5 :: x6 :: x7 :: some v :: l) H):aO 8 v (x0 :: x1 :: x2 :: x3 :: x4 :: x5 :: x6 :: x7 :: y :: l) H Q:=h
theorem Zsp {x0 x1 x2 x3 x4 x5 x6 x7 x8:Option V}{v:V}{l:St}{H:Hp}{Q:VK} (h:Q v H):aj 9 (x0 :: x1 :: x2 :: x3 :: x4 :: x5 :: x6 :: x7 :: x8 :: some v :: l) H Q:=⟨v,rfl,h⟩
theorem Zqo {x0 x1 x2 x3 x4 x5 x6 x7 x8:Option V}{y:Option V}{v:V}{l:St}{H:Hp}{Q:St→Hp→Prop} (h:Q (x0 :: x1 :: x2 :: x3 :: x4 :: x5 :: x6 :: x7 :: x8 :: some v :: l) H):aO 9 v (x0 :: x1 :: x2 :: x3 :: x4 :: x5 :: x6 :: x7 :: x8 :: y :: l) H Q:=h
theorem Zqb {x0 x1 x2 x3 x4 x5 x6 x7 x8 x9:Option V}{v:V}{l:St}{H:Hp}{Q:VK} (h:Q v H):aj 10 (x0 :: x1 :: x2 :: x3 :: x4 :: x5 :: x6 :: x7 :: x8 :: x9 :: some v :: l) H Q:=⟨v,rfl,h⟩
theorem Zqr {x0 x1 x2 x3 x4 x5 x6 x7 x8 x9:Option V}{y:Option V}{v:V}{l:St}{H:Hp}{Q:St→Hp→Prop} (h:Q (x0 :: x1 :: x2 :: x3 :: x4 :: x5 :: x6 :: x7 :: x8 :: x9 :: some v :: l) H):aO 10 v (x0 :: x1 :: x2 :: x3 :: x4 :: x5 :: x6 :: x7 :: x8 :: x9 :: y :: l) H Q:=h
theorem Zqa {x0 x1 x2 x3 x4 x5 x6 x7 x8 x9 x10:Option V}{v:V}{l:St}{H:Hp}{Q:VK} (h:Q v H):aj 11 (x0 :: x1 :: x2 :: x3 :: x4 :: x5 :: x6 :: x7 :: x8 :: x9 :: x10 :: some v :: l) H Q:=⟨v,rfl,h⟩
theorem Zqq {x0 x1 x2 x3 x4 x5 x6 x7 x8 x9 x10:Option V}{y:Option V}{v:V}{l:St}{H:Hp}{Q:St→Hp→Prop} (h:Q (x0 :: x1 :: x2 :: x3 :: x4 :: x5 :: x6 :: x7 :: x8 :: x9 :: x10 :: some v :: l) H):aO 11 v (x0 :: x1 :: x2 :: x3 :: x4 :: x5 :: x6 :: x7 :: x8 :: x9 :: x10 :: y :: l) H Q:=h
theorem Zq9 {x0 x1 x2 x3 x4 x5 x6 x7 x8 x9 x10 x11:Option V}{v:V}{l:St}{H:Hp}{Q:VK} (h:Q v H):aj 12 (x0 :: x1 :: x2 :: x3 :: x4 :: x5 :: x6 :: x7 :: x8 :: x9 :: x10 :: x11 :: some v :: l) H Q:=⟨v,rfl,h⟩
theorem Zqp {x0 x1 x2 x3 x4 x5 x6 x7 x8 x9 x10 x11:Option V}{y:Option V}{v:V}{l:St}{H:Hp}{Q:St→Hp→Prop} (h:Q (x0 :: x1 :: x2 :: x3 :: x4 :: x5 :: x6 :: x7 :: x8 :: x9 :: x10 :: x11 :: some v :: l) H):aO 12 v (x0 :: x1 :: x2 :: x3 :: x4 :: x5 :: x6 :: x7 :: x8 :: x9 :: x10 :: x11 :: y :: l) H Q:=h
end G
namespace G
open PySem L2
theorem aN {H:Hp}{p:Addr} (h:H p=none) (o:HO):bN H (upd H p o):=fun b u q=>by rw [aA (aD q h)];exact q
def tyN (H:Hp):V→Option String
 | .non=>some "NoneType"
 | .bl _=>some "bool"
 | .int _=>some "int"
 | .str _=>some "str"
 | .ref a=>match H a with
  | some (.lst _)=>some "list"
  | some (.yd _ (.lst _))=>some "list"
  | some (.tup _)=>some "tuple"
  | some (.dK _)=>some "dict"
  | some (.dT _)=>some "dict"
  | _=>none
 | _=>none
def tY (t n:String):Option Bool:=if ["int","bool","str","list","tuple","dict"].contains n then some (t == n || (t == "bool" && n == "int")) else none
def t7:List V→Hp→VK→Prop:=fun xs H Q=>∃ x n t k,xs=[x,.ty n]∧tyN H x=some t∧tY t n=some k∧Q (.bl k) H
theorem JS:tY "int" "int"=some true:=by decide +kernel
theorem Em:tY "int" "bool"=some false:=by decide +kernel
theorem Yu:tY "int" "str"=some false:=by decide +kernel
theorem VF:tY "int" "list"=some false:=by decide +kernel
theorem Qn:tY "int" "tuple"=some false:=by decide +kernel
theorem VG:tY "int" "dict"=some false:=by decide +kernel
theorem VM:tY "bool" "int"=some true:=by decide +kernel
theorem Qu:tY "bool" "bool"=some true:=by decide +kernel
theorem VL:tY "bool" "str"=some false:=by decide +kernel
theorem Qs:tY "bool" "list"=some false:=by decide +kernel
theorem Nq:tY "bool" "tuple"=some false:=by decide +kernel
theorem Qt:tY "bool" "dict"=some false:=by decide +kernel
theorem JR:tY "str" "int"=some false:=by decide +kernel
theorem VD:tY "str" "bool"=some false:=by decide +kernel
theorem JQ:tY "str" "str"=some true:=by decide +kernel
theorem Vz:tY "str" "list"=some false:=by decide +kernel
theorem Qj:tY "str" "tuple"=some false:=by decide +kernel
theorem VB:tY "str" "dict"=some false:=by decide +kernel
theorem Io:tY "NoneType" "int"=some false:=by decide +kernel
theorem Ep:tY "NoneType" "bool"=some false:=by decide +kernel
theorem Im:tY "NoneType" "str"=some false:=by decide +kernel
theorem En:tY "NoneType" "list"=some false:=by decide +kernel
theorem Cp:tY "NoneType" "tuple"=some false:=by decide +kernel
theorem Eo:tY "NoneType" "dict"=some false:=by decide +kernel
theorem El:tY "list" "int"=some false:=by decide +kernel
theorem Ql:tY "list" "bool"=some false:=by decide +kernel
theorem Ek:tY "list" "str"=some false:=by decide +kernel
theorem Bk:tY "list" "list"=some true:=by decide +kernel
theorem zO:tY "list" "tuple"=some false:=by decide +kernel
theorem Qk:tY "list" "dict"=some false:=by decide +kernel
theorem Bj:tY "tuple" "int"=some false:=by decide +kernel
theorem Nm:tY "tuple" "bool"=some false:=by decide +kernel
theorem Bh:tY "tuple" "str"=some false:=by decide +kernel
theorem zN:tY "tuple" "list"=some false:=by decide +kernel
theorem yc:tY "tuple" "tuple"=some true:=by decide +kernel
theorem Nj:tY "tuple" "dict"=some false:=by decide +kernel
theorem VJ:tY "dict" "int"=some false:=by decide +kernel
theorem Qq:tY "dict" "bool"=some false:=by decide +kernel
theorem VH:tY "dict" "str"=some false:=by decide +kernel
theorem Qo:tY "dict" "list"=some false:=by decide +kernel
theorem Np:tY "dict" "tuple"=some false:=by decide +kernel
theorem Qp:tY "dict" "dict"=some true:=by decide +kernel
theorem Zbd {i:Int}{H:Hp}{Q:VK} (h:Q (.bl true) H):t7 [.int i,.ty "int"] H Q:=⟨_,_,_,_,rfl,rfl,JS,h⟩
theorem Yx {i:Int}{H:Hp}{Q:VK} (h:Q (.bl false) H):t7 [.int i,.ty "bool"] H Q:=⟨_,_,_,_,rfl,rfl,Em,h⟩
theorem Zba {i:Str}{H:Hp}{Q:VK} (h:Q (.bl false) H):t7 [.str i,.ty "int"] H Q:=⟨_,_,_,_,rfl,rfl,JR,h⟩
theorem Zb9 {i:Str}{H:Hp}{Q:VK} (h:Q (.bl true) H):t7 [.str i,.ty "str"] H Q:=⟨_,_,_,_,rfl,rfl,JQ,h⟩
theorem Zbc {a:Addr}{H:Hp}{Q:VK}{xs:List V} (hp:H a=some (.lst xs)) (h:Q (.bl false) H):t7 [.ref a,.ty "int"] H Q:=⟨_,_,_,_,rfl,(by show (match H a with | some (.lst _)=>some "list" | some (.yd _ (.lst _))=>some "list" | some (.tup _)=>some "tuple" | some (.dK _)=>some "dict" | some (.dT _)=>some "dict" | _=>none)=some "list";rw [hp]),El,h⟩
theorem Zb8 {a:Addr}{H:Hp}{Q:VK}{xs:List V} (hp:H a=some (.tup xs)) (h:Q (.bl false) H):t7 [.ref a,.ty "int"] H Q:=⟨_,_,_,_,rfl,(by show (match H a with | some (.lst _)=>some "list" | some (.yd _ (.lst _))=>some "list" | some (.tup _)=>some "tuple" | some (.dK _)=>some "dict" | some (.dT _)=>some "dict" | _=>none)=some "tuple";rw [hp]),Bj,h⟩
theorem Zbb {a:Addr}{H:Hp}{Q:VK}{xs:List V} (hp:H a=some (.lst xs)) (h:Q (.bl false) H):t7 [.ref a,.ty "str"] H Q:=⟨_,_,_,_,rfl,(by show (match H a with | some (.lst _)=>some "list" | some (.yd _ (.lst _))=>some "list" | some (.tup _)=>some "tuple" | some (.dK _)=>some "dict" | some (.dT _)=>some "dict" | _=>none)=some "list";rw [hp]),Ek,h⟩
theorem Zb7 {a:Addr}{H:Hp}{Q:VK}{xs:List V} (hp:H a=some (.tup xs)) (h:Q (.bl false) H):t7 [.ref a,.ty "str"] H Q:=⟨_,_,_,_,rfl,(by show (match H a with | some (.lst _)=>some "list" | some (.yd _ (.lst _))=>some "list" | some (.tup _)=>some "tuple" | some (.dK _)=>some "dict" | some (.dT _)=>some "dict" | _=>none)=some "tuple";rw [hp]),Bh,h⟩
theorem JT {a:Addr}{H:Hp}{Q:VK}{xs:List V} (hp:H a=some (.lst xs)) (h:Q (.bl true) H):t7 [.ref a,.ty "list"] H Q:=⟨_,_,_,_,rfl,(by show (match H a with | some (.lst _)=>some "list" | some (.yd _ (.lst _))=>some "list" | some (.tup _)=>some "tuple" | some (.dK _)=>some "dict" | some (.dT _)=>some "dict" | _=>none)=some "list";rw [hp]),Bk,h⟩
theorem Yw {a:Addr}{H:Hp}{Q:VK}{xs:List V} (hp:H a=some (.tup xs)) (h:Q (.bl false) H):t7 [.ref a,.ty "list"] H Q:=⟨_,_,_,_,rfl,(by show (match H a with | some (.lst _)=>some "list" | some (.yd _ (.lst _))=>some "list" | some (.tup _)=>some "tuple" | some (.dK _)=>some "dict" | some (.dT _)=>some "dict" | _=>none)=some "tuple";rw [hp]),zN,h⟩
theorem VN {a:Addr}{H:Hp}{Q:VK}{xs:List V} (hp:H a=some (.lst xs)) (h:Q (.bl false) H):t7 [.ref a,.ty "tuple"] H Q:=⟨_,_,_,_,rfl,(by show (match H a with | some (.lst _)=>some "list" | some (.yd _ (.lst _))=>some "list" | some (.tup _)=>some "tuple" | some (.dK _)=>some "dict" | some (.dT _)=>some "dict" | _=>none)=some "list";rw [hp]),zO,h⟩
theorem Er {a:Addr}{H:Hp}{Q:VK}{xs:List V} (hp:H a=some (.tup xs)) (h:Q (.bl true) H):t7 [.ref a,.ty "tuple"] H Q:=⟨_,_,_,_,rfl,(by show (match H a with | some (.lst _)=>some "list" | some (.yd _ (.lst _))=>some "list" | some (.tup _)=>some "tuple" | some (.dK _)=>some "dict" | some (.dT _)=>some "dict" | _=>none)=some "tuple";rw [hp]),yc,h⟩
def mW (K:aG):List V→Hp→VK→Prop:=fun xs H Q=>∃ p ys,xs=[.ref p]∧(cF K H p ys∨j4 K H p ys)∧Q (.int ys.length) H
theorem jV {K:aG}{a:Addr}{H:Hp}{Q:VK}{xs:List V} (hp:cF K H a xs) (h:Q (.int xs.length) H):mW K [.ref a] H Q:=⟨a,xs,rfl,.inl hp,h⟩
theorem bK {K:aG}{a:Addr}{H:Hp}{Q:VK}{xs:List V}{i:Int}{v:V} (hp:cF K H a xs) (hi:Y8 xs i=some v) (h:Q v H):d7 K (.ref a) (.int i) H Q:=⟨a,xs,i,v,rfl,rfl,hp,hi,h⟩
section
variable {K:aG}{a:Addr}{xs:List V}{g:TG}{tb:TS}{σ:St}{H:Hp}{n:St→Hp→Prop}{r:VK}
theorem forL (xs:List V) (Pv:Nat→St→Hp→Prop) (h0:Pv 0 σ H) (hl:∀ i σ H,i≤xs.length→Pv i σ H→cF K H a xs)
  (hs:∀ i x σ H,xs[i]? =some x→Pv i σ H→g x σ H fun σ2 H2=>tb ⟨Pv (i + 1),r,n,Pv (i + 1)⟩ σ2 H2) (hd:∀ σ H,Pv xs.length σ H→n σ H):
  ∃ W:Nat→Nat→St→Hp→Prop,(∃ m,W 0 m σ H)∧∀ i m σ H,W i m σ H→
   ((Itl K a).stop i H∧n σ H)∨((Itl K a).go i H∧∃ N:St→Hp→Prop,(∀ σ' H',N σ' H'→∃ m',m' < m∧W (i + 1) m' σ' H')∧∀ x H',(Itl K a).yld i H x H'→g x σ H' fun σ2 H2=>tb ⟨N,r,n,N⟩ σ2 H2):=
 Zi6 (D:=⟨n,r,fun _ _=>False,fun _ _=>False⟩) Pv h0 hl hs hd
theorem forR {lo:Int}{k:Nat} (Pv:Nat→St→Hp→Prop) (h0:Pv 0 σ H)
  (hs:∀ i σ H,i < k→Pv i σ H→g (.int (lo + i)) σ H fun σ2 H2=>tb ⟨Pv (i + 1),r,n,Pv (i + 1)⟩ σ2 H2) (hd:∀ σ H,Pv k σ H→n σ H):
  ∃ W:Nat→Nat→St→Hp→Prop,(∃ m,W 0 m σ H)∧∀ i m σ H,W i m σ H→
   ((Itr lo k).stop i H∧n σ H)∨((Itr lo k).go i H∧∃ N:St→Hp→Prop,(∀ σ' H',N σ' H'→∃ m',m' < m∧W (i + 1) m' σ' H')∧∀ x H',(Itr lo k).yld i H x H'→g x σ H' fun σ2 H2=>tb ⟨N,r,n,N⟩ σ2 H2):=
 Zf0 (D:=⟨n,r,fun _ _=>False,fun _ _=>False⟩) Pv h0 hs hd
end
theorem bu {n:Nat} (h:n≤1000000):n≤sizeLine:=Nat.le_trans h (by decide)
end G
namespace G
open PySem L2
def Dk:R2:=fun x y H Q=>∃ i j,x=.str i∧y=.str j∧i.length + j.length≤sizeLine∧Q (.str (i ++ j)) H
theorem Nv {i j:Str}{H:Hp}{Q:VK} (hz:i.length + j.length≤sizeLine) (h:Q (.str (i ++ j)) H):Dk (.str i) (.str j) H Q:=⟨i,j,rfl,rfl,hz,h⟩
theorem Zqk {z:Str}{i:Int}{c:Nat}{H:Hp}{Q:VK} (hz:z.length≤sizeLine) (hi:Y8 z.cps.toList i=some c) (h:Q (.str ⟨#[c]⟩) H):Za8 (.str z) (.int i) H Q:=⟨z,i,c,rfl,rfl,hz,hi,h⟩
theorem Zb5 {z:Str}{i:Int}{H:Hp}{Q:VK} (hz:z.length≤sizeLine) (h0:0≤i) (h1:i < z.length) (h:∀ c:Nat,Q (.str ⟨#[c]⟩) H):Za8 (.str z) (.int i) H Q:=by
 have hk:i.toNat < z.cps.toList.length:=by rw [Array.length_toList];exact (Int.toNat_lt h0).mpr h1
 have ek:i=((i.toNat:Nat):Int):=by omega
 have q:Y8 z.cps.toList ((i.toNat:Nat):Int)=some z.cps.toList[i.toNat]:=aX (bO hk);rw [← ek] at q;exact Zqk hz q (h _)
def Wh (z:Str) (lo hi:Option Int):Str:=⟨((z.cps.toList.drop (HT.oM z.length 0 lo)).take (HT.oM z.length z.length hi - HT.oM z.length 0 lo)).toArray⟩
theorem zU (z:Str) (lo hi:Option Int):(Wh z lo hi).length≤z.length:=by
 show (List.toArray _).size≤z.cps.size;rw [List.size_toArray,List.length_take,List.length_drop,Array.length_toList];omega
def Zfx:V→Option Int→Option Int→Hp→VK→Prop:=fun x lo hi H Q=>∃ z,x=.str z∧z.length≤sizeLine∧Q (.str (Wh z lo hi)) H
theorem Zma {z:Str}{lo hi:Option Int}{H:Hp}{Q:VK} (hz:z.length≤sizeLine) (h:Q (.str (Wh z lo hi)) H):Zfx (.str z) lo hi H Q:=⟨z,rfl,hz,h⟩
theorem str_len (z:Str):z.cps.toList.length=z.length:=Array.length_toList
def pick (σ:St) (j:Nat):Option V:=match σ[j]? with
 | some v=>v
 | none=>none
def tLC (wi:TI) (caps:List Nat) (tc:TT) (te:TE):TE:=fun σ H Q=>wi σ H fun J H1=>∃ W:Nat→Nat→List V→Hp→Prop,(∃ m,W 0 m [] H1)∧∀ i m ys H,W i m ys H→
 (J.stop i H∧∀ p,H p=none→Q (.ref p) (upd H p (.lst ys)))∨
 (J.go i H∧ys.length < sizeLine∧∀ x H',J.yld i H x H'→tc (some x :: caps.map (pick σ)) H' fun k H2=>if k=true then te (some x :: caps.map (pick σ)) H2 (fun y H3=>∃ m',m' < m∧W (i + 1) m' (ys ++ [y]) H3) else ∃ m',m' < m∧W (i + 1) m' ys H2)
def vG:TT:=fun _ H Q=>Q true H
theorem zP {σ:St}{H:Hp}{Q:Bool→Hp→Prop} (h:Q true H):vG σ H Q:=h
theorem Zl5 {r r':R2}{ta tb tc:TE}{σ:St}{H:Hp}{Q:VK} (h:ta σ H fun x H1=>tb σ H1 fun y H2=>r x y H2 (kB fun k H3=>if k=true then tc σ H3 (fun w H4=>r' y w H4 Q) else Q (.bl false) H3)):Zz r r' ta tb tc σ H Q:=h
end G
namespace G
open PySem L2
end G
namespace G
open PySem L2
structure EqD (K:aG) (C:Addr):Prop where
 eq:PySem.W.findIn K (.ref C) "__eq__"=some (some (.builtin "object.__eq__"))
 ob:PySem.W.mroIn K C (.type "object")=some true
end G
namespace G
open PySem L2
def FP (C:Addr) (E:XK) (ta:TA):TS:=fun _ σ H=>ta σ H fun vs H1=>vs.length≤100∧E (.ref C) none H1
def ZC (sp:Sp) (tZ:List V) (E:St→XK) (t:TA):TE:=fun σ H Q=>t σ H fun vs H1=>sp (vs ++ tZ) H1 Q (E σ)
section
variable {σ:St}{H:Hp}{Q:VK}{n:St→Hp→Prop}{r:VK}{b c:St→Hp→Prop}{te:TE}{t:TA}
theorem Zky {C:Addr}{E:XK} (h:t σ H fun vs H1=>vs.length≤100∧E (.ref C) none H1):FP C E t ⟨n,r,b,c⟩ σ H:=h
theorem Zl6 {sp:Sp}{tZ:List V}{E:St→XK} (h:t σ H fun vs H1=>sp (vs ++ tZ) H1 Q (E σ)):ZC sp tZ E t σ H Q:=h
end
theorem Zoe {to ti:TE}{ts:Zlw}{x:V}{σ:St}{H:Hp}{Q:St→Hp→Prop} (h:to σ H fun o H1=>ti σ H1 fun i H2=>ts o i x H2 fun H3=>Q σ H3):yl to ti ts x σ H Q:=h
def Zc4 (K:aG):List V→Hp→VK→Prop:=fun xs H Q=>∃ (p:Addr) (ys:List V),xs=[.ref p]∧cF K H p ys∧∀ l,H l=none→Q (.ref l) (upd H l (.lst ys))
theorem Zl2 {K:aG}{H:Hp}{Q:VK}{p:Addr}{ys:List V} (h1:cF K H p ys) (h:∀ l,H l=none→Q (.ref l) (upd H l (.lst ys))):Zc4 K [.ref p] H Q:=⟨p,ys,rfl,h1,h⟩
def OkN (K:aG) (H:Hp) (xs:List V):Prop:=∀ y∈xs,y=.non∨∃ a C dx fs,y=.ref a∧H a=some (.ins C dx fs)∧Bo K C∧EqD K C
def Zmw (K:aG) (neg:Bool):R2:=fun x y H Q=>∃ p xs,x=.non∧y=.ref p∧cF K H p xs∧OkN K H xs∧Q (.bl (if neg then !decide (V.non∈xs) else decide (V.non∈xs))) H
theorem Zhm {K:aG}{H:Hp}{Q:VK}{p:Addr}{xs:List V} (h1:cF K H p xs) (h2:OkN K H xs) (h:Q (.bl (!decide (V.non∈xs))) H):Zmw K true .non (.ref p) H Q:=⟨p,xs,rfl,rfl,h1,h2,h⟩
def Zcf (K:aG):V→List V→Hp→VK→Prop:=fun x vs H Q=>∃ p xs,x=.ref p∧vs=[.non]∧cF K H p xs∧OkN K H xs∧V.non∈xs∧Q (.int (xs.idxOf V.non)) H
theorem Su (ns:List Int):(ns.map V.int).all rK=true:=by
 rw [List.all_eq_true];intro x hx;obtain ⟨i,_,rfl⟩:=List.mem_map.mp hx;rfl
def Fm (S:List Addr) (H H':Hp):Prop:=∀ b o,H b=some o→b∉S→H' b=some o
theorem Fm.same {H H':Hp} (a:Fm [] H H'):bN H H':=fun c o h=>a c o h (fun z=>nomatch z)
theorem Zo5 {x:V}{H:Hp}{Q:VK} (h:Q (.bl (!decide (x=.non))) H):Ms x .non H Q:=⟨rfl,h⟩
def LCg (J:It) (caps:List Nat) (tc:TT) (te:TE) (σ:St) (H:Hp) (Q:VK):Prop:=∃ W:Nat→Nat→List V→Hp→Prop,(∃ m,W 0 m [] H)∧∀ i m ys H,W i m ys H→
 (J.stop i H∧∀ p,H p=none→Q (.ref p) (upd H p (.lst ys)))∨
 (J.go i H∧ys.length < sizeLine∧∀ x H',J.yld i H x H'→tc (some x :: caps.map (pick σ)) H' fun k H2=>if k=true then te (some x :: caps.map (pick σ)) H2 (fun y H3=>∃ m',m' < m∧W (i + 1) m' (ys ++ [y]) H3) else ∃ m',m' < m∧W (i + 1) m' ys H2)
theorem Nu {wi:TI}{caps:List Nat}{tc:TT}{te:TE}{σ:St}{H:Hp}{Q:VK} (h:wi σ H fun J H1=>LCg J caps tc te σ H1 Q):tLC wi caps tc te σ H Q:=h
theorem Zhd {J:It}{caps:List Nat}{tc:TT}{te:TE}{σ:St}{H:Hp}{Q:VK} (k:Nat) (hz:k≤1000000) (g:Nat→Option V)
  (hstop:J.stop k H) (hgo:∀ i,i < k→J.go i H) (hy:∀ i x H',i < k→J.yld i H x H'→H'=H∧(∀ q:Bool→Hp→Prop,q (g i).isSome H→tc (some x :: caps.map (pick σ)) H q)∧∀ (y:V) (q:VK),g i=some y→q y H→te (some x :: caps.map (pick σ)) H q)
  (q:∀ p,H p=none→Q (.ref p) (upd H p (.lst ((List.range k).filterMap g)))):
  LCg J caps tc te σ H Q:=by
 refine ⟨fun i m ys H'=>H'=H∧i≤k∧m=k - i∧ys=(List.range i).filterMap g,⟨k,rfl,Nat.zero_le _,rfl,rfl⟩,?_⟩;rintro i m ys _ ⟨rfl,hi,rfl,rfl⟩
 by_cases hk:i=k
 ·subst hk;exact .inl ⟨hstop,q⟩
 ·have hlt:i < k:=by omega
  refine .inr ⟨hgo i hlt,?_,fun x H' y=>?_⟩
  ·refine Nat.lt_of_le_of_lt (Nat.le_trans (List.length_filterMap_le _ _) ?_) (show 1000000 < sizeLine by decide);rw [List.length_range];omega
  ·obtain ⟨rfl,h1,h2⟩:=hy i x H' hlt y;refine h1 _ ?_;have er:List.filterMap g (List.range (i + 1))=List.filterMap g (List.range i) ++ (match g i with | some y=>[y] | none=>[]):=by
    rw [List.range_succ,List.filterMap_append];cases e:g i with
    | none=>rw [List.filterMap_cons_none e];rfl
    | some y=>rw [List.filterMap_cons_some e];rfl
   cases e:g i with
   | none=>
    rw [e] at er;dsimp only [Option.isSome];refine Znv ⟨k - (i + 1),by omega,rfl,by omega,rfl,?_⟩;rw [er,List.append_nil]
   | some y=>
    rw [e] at er;dsimp only [Option.isSome];refine Zel (h2 y _ e ⟨k - (i + 1),by omega,rfl,by omega,rfl,?_⟩);rw [er]
theorem V1 (l:List Nat) (p:Nat→Bool) (f:Nat→V):l.filterMap (fun i=>if p i=true then some (f i) else none)=(l.filter p).map f:=by
 induction l with
 | nil=>rfl
 | cons a l ih=>
  by_cases h:p a=true
  ·rw [List.filterMap_cons_some (by rw [if_pos h]),List.filter_cons_of_pos h,List.map_cons,ih]
  ·rw [List.filterMap_cons_none (by rw [if_neg h]),List.filter_cons_of_neg h,ih]
theorem Zhe {caps:List Nat}{tc:TT}{te:TE}{σ:St}{H:Hp}{Q:VK}{n:Nat}{z:Int} (ez:z.toNat=n) (p:Nat→Bool) (f:Nat→V) (hz:n≤1000000)
  (htc:∀ i,i < n→∀ q:Bool→Hp→Prop,q (p i) H→tc (some (.int i) :: caps.map (pick σ)) H q)
  (hte:∀ i,i < n→p i=true→∀ q:VK,q (f i) H→te (some (.int i) :: caps.map (pick σ)) H q)
  (q:∀ l,H l=none→Q (.ref l) (upd H l (.lst (((List.range n).filter p).map f)))):
  LCg (Itr 0 z.toNat) caps tc te σ H Q:=by
 subst ez;refine Zhd z.toNat hz (fun i=>if p i=true then some (f i) else none) (Nat.le_refl _) (fun i hi=>hi) (fun i x H' hi y=>?_) ?_
 ·obtain ⟨e1,e2⟩:=y;have ex:x=.int i:=by rw [e2];simp
  refine ⟨e1,fun q hq=>?_,fun y q hy hq=>?_⟩
  ·rw [ex];refine htc i hi q ?_;cases e:p i with
   | true=>rw [e] at hq;exact hq
   | false=>rw [e] at hq;exact hq
  ·rw [ex];cases e:p i with
   | true=>
    rw [e] at hy;have ey:f i=y:=by simpa using hy
    exact hte i hi e q (by rw [ey];exact hq)
   | false=>rw [e] at hy;simp at hy
 ·rw [V1];exact q
theorem Zkr {K:aG}{a:Addr}{xs:List V}{caps:List Nat}{tc:TT}{te:TE}{σ:St}{H:Hp}{Q:VK} (hs:cF K H a xs) (g:Nat→Option V) (hz:xs.length≤1000000)
  (hy:∀ i x,xs[i]? =some x→(∀ q:Bool→Hp→Prop,q (g i).isSome H→tc (some x :: caps.map (pick σ)) H q)∧∀ (y:V) (q:VK),g i=some y→q y H→te (some x :: caps.map (pick σ)) H q)
  (q:∀ p,H p=none→Q (.ref p) (upd H p (.lst ((List.range xs.length).filterMap g)))):
  LCg (Itl K a) caps tc te σ H Q:=by
 refine Zhd xs.length hz g ⟨xs,hs,Nat.le_refl _⟩ (fun i hi=>⟨xs,xs[i],hs,bO hi⟩) (fun i x H' hi y=>?_) q;obtain ⟨e1,e2⟩:=y;exact ⟨e1,hy i x (e2 xs hs)⟩
theorem lu {n i:Nat} (h:i < n):ixN n (i:Int)=some i:=by
 unfold ixN;rw [if_pos (by omega),if_pos (by omega)];simp
theorem z8 {α:Type}{xs:List α}{i:Int}{v:α} (h0:0≤i) (h:xs[i.toNat]? =some v):Y8 xs i=some v:=by
 have e:i=((i.toNat:Nat):Int):=by omega
 have:=aX h;rw [← e] at this;exact this
end G
namespace G
open PySem L2
inductive Al {α β:Type} (P:α→β→Prop):List α→List β→Prop
 | nil:Al P [] []
 | cons {x:α}{y:β}{xs:List α}{ys:List β}:P x y→Al P xs ys→Al P (x :: xs) (y :: ys)
section
variable {α β:Type}{P P':α→β→Prop}{xs:List α}{ys:List β}
theorem Al.length (h:Al P xs ys):xs.length=ys.length:=by
 induction h with
 | nil=>rfl
 | cons _ _ ih=>rw [List.length_cons,List.length_cons,ih]
theorem Al.mono (h:Al P xs ys) (f:∀ x y,P x y→P' x y):Al P' xs ys:=by
 induction h with
 | nil=>exact .nil
 | cons p _ ih=>exact .cons (f _ _ p) ih
theorem Al.get (h:Al P xs ys):∀ {i:Nat}{y:β},ys[i]? =some y→∃ x,xs[i]? =some x∧P x y:=by
 induction h with
 | nil=>intro i y e;simp at e
 | cons p _ ih=>
  intro i y e;cases i with
  | zero=>simp at e;subst e;exact ⟨_,rfl,p⟩
  | succ i=>
   obtain ⟨x,e1,e2⟩:=ih (i:=i) (y:=y) (by simpa using e);exact ⟨x,by simpa using e1,e2⟩
end
end G
namespace G
open PySem L2
abbrev Tg:=Addr→Nat×Nat
def WT (H:Hp) (T:Tg):Prop:=∀ b,H b=none→T b=(0,0)
structure Stp (s:Nat) (H H':Hp) (T T':Tg):Prop where
 kp:∀ b o,H b=some o→(T b).1≠s→H' b=some o
 al:∀ b o,H b=some o→∃ o',H' b=some o'
 tg:∀ b o,H b=some o→T' b=T b
 wt:WT H' T'
def fG (T:Tg) (a:Addr) (v:Nat×Nat):Tg:=fun x=>if x=a then v else T x
theorem fB {T:Tg}{a:Addr}{v:Nat×Nat}:fG T a v a=v:=by unfold fG;rw [if_pos rfl]
theorem fO {T:Tg}{a b:Addr}{v:Nat×Nat} (h:b≠a):fG T a v b=T b:=by unfold fG;rw [if_neg h]
theorem WT.same {H H':Hp}{T:Tg} (w:WT H T) (s:bN H H'):WT H' T:=fun b h=>w b (s.free h)
theorem Stp.refl {s:Nat}{H:Hp}{T:Tg} (w:WT H T):Stp s H H T T:=⟨fun _ _ h _=>h,fun _ o h=>⟨o,h⟩,fun _ _ _=>rfl,w⟩
theorem Stp.same {s:Nat}{H H':Hp}{T:Tg} (w:WT H T) (e:bN H H'):Stp s H H' T T:=⟨fun b o h _=>e b o h,fun b o h=>⟨o,e b o h⟩,fun _ _ _=>rfl,w.same e⟩
theorem Stp.trans {s:Nat}{H H1 H2:Hp}{T T1 T2:Tg} (a:Stp s H H1 T T1) (b:Stp s H1 H2 T1 T2):Stp s H H2 T T2 where
 kp:=fun x o h n=>b.kp x o (a.kp x o h n) (by rw [a.tg x o h];exact n)
 al:=fun x o h=>by
  obtain ⟨o1,h1⟩:=a.al x o h;exact b.al x o1 h1
 tg:=fun x o h=>by
  obtain ⟨o1,h1⟩:=a.al x o h;rw [b.tg x o1 h1,a.tg x o h]
 wt:=b.wt
theorem Stp.upd {s:Nat}{H:Hp}{T:Tg}{a:Addr}{o o':HO} (w:WT H T) (ha:H a=some o) (ht:(T a).1=s):Stp s H (L2.upd H a o') T T where
 kp:=fun x u h n=>by
  have:x≠a:=fun e=>n (by rw [e];exact ht);rw [aA this];exact h
 al:=fun x u h=>by
  by_cases e:x=a
  ·exact ⟨o',by rw [e,aq]⟩
  ·exact ⟨u,by rw [aA e];exact h⟩
 tg:=fun _ _ _=>rfl
 wt:=fun b h=>w b (by
  by_cases e:b=a
  ·rw [e,aq] at h;cases h
  ·rw [aA e] at h;exact h)
theorem tQ {T:Tg}{a b:Addr}{x y:Nat×Nat} (ha:T a=x) (hb:T b=y) (h:x≠y):a≠b:=fun e=>h (by rw [← ha,← hb,e])
end G
namespace G
open PySem L2
theorem Zno {J:It}{caps:List Nat}{tc:TT}{te:TE}{σ:St}{H:Hp}{Q:VK} (k:Nat) (hz:k≤1000000) (R:Nat→V→Hp→Prop) (mono:∀ i y H1 H2,R i y H1→bN H1 H2→R i y H2)
  (hstop:∀ H',bN H H'→J.stop k H') (hgo:∀ i H',i < k→bN H H'→J.go i H')
  (hy:∀ i x H1 H',i < k→bN H H1→J.yld i H1 x H'→H'=H1∧(∀ q:Bool→Hp→Prop,q true H1→tc (some x :: caps.map (pick σ)) H1 q)∧∀ q:VK,(∀ y H2,bN H1 H2→R i y H2→q y H2)→te (some x :: caps.map (pick σ)) H1 q)
  (q:∀ ys H',bN H H'→ys.length=k→(∀ (i:Nat) y,ys[i]? =some y→R i y H')→∀ p,H' p=none→Q (.ref p) (upd H' p (.lst ys))):
  LCg J caps tc te σ H Q:=by
 refine ⟨fun i m ys H'=>bN H H'∧i≤k∧m=k - i∧ys.length=i∧∀ (j:Nat) y,ys[j]? =some y→R j y H',⟨k,bN.refl _,Nat.zero_le _,rfl,rfl,fun j y e=>by simp at e⟩,?_⟩;rintro i m ys H1 ⟨s1,hi,rfl,hl,hr⟩
 by_cases hk:i=k
 ·subst hk;exact .inl ⟨hstop H1 s1,q ys H1 s1 hl hr⟩
 ·have hlt:i < k:=by omega
  refine .inr ⟨hgo i H1 hlt s1,Nat.lt_of_le_of_lt (show ys.length≤1000000 by omega) (show 1000000 < sizeLine by decide),fun x H' y=>?_⟩;obtain ⟨rfl,h1,h2⟩:=hy i x H1 H' hlt s1 y;refine h1 _ (Zel (h2 _ fun y H2 s2 r=>⟨k - (i + 1),by omega,s1.trans s2,by omega,rfl,by rw [List.length_append,hl];rfl,fun j z e=>?_⟩))
  by_cases hj:j < ys.length
  ·rw [List.getElem?_append_left hj] at e;exact mono j z _ _ (hr j z e) s2
  ·have hj':=(cI e).1;rw [List.length_append,List.length_singleton] at hj';have ej:j=ys.length:=by omega
   subst ej;rw [List.getElem?_append_right (Nat.le_refl _),Nat.sub_self] at e;cases e;rw [hl];exact r
theorem Zkq {caps:List Nat}{tc:TT}{te:TE}{σ:St}{H:Hp}{Q:VK}{n:Nat}{z:Int} (ez:z.toNat=n) (hz:n≤1000000) (R:Nat→V→Hp→Prop) (mono:∀ i y H1 H2,R i y H1→bN H1 H2→R i y H2)
  (htc:∀ i H1,∀ q:Bool→Hp→Prop,q true H1→tc (some (.int i) :: caps.map (pick σ)) H1 q)
  (hte:∀ (i:Nat) H1,i < n→bN H H1→∀ q:VK,(∀ y H2,bN H1 H2→R i y H2→q y H2)→te (some (.int i) :: caps.map (pick σ)) H1 q)
  (q:∀ ys H',bN H H'→ys.length=n→(∀ (i:Nat) y,ys[i]? =some y→R i y H')→∀ p,H' p=none→Q (.ref p) (upd H' p (.lst ys))):LCg (Itr 0 z.toNat) caps tc te σ H Q:=by
 subst ez;refine Zno z.toNat hz R mono (fun _ _=>Nat.le_refl _) (fun i _ hi _=>hi) (fun i x H1 H' hi s1 y=>?_) q;obtain ⟨e1,e2⟩:=y;have ex:x=.int i:=by rw [e2];simp
 subst ex;exact ⟨e1,htc i H1,fun q hq=>hte i H1 hi s1 q hq⟩
theorem Zcq {J:It}{caps:List Nat}{tc:TT}{te:TE}{σ:St}{H:Hp}{Q:VK} (k:Nat) (hz:k≤1000000) (R:Nat→Addr→Hp→Prop) (mono:∀ i y H1 H2,R i y H1→bN H1 H2→R i y H2) (al:∀ i y H1,R i y H1→∃ o,H1 y=some o)
  (hstop:∀ H',bN H H'→J.stop k H') (hgo:∀ i H',i < k→bN H H'→J.go i H')
  (hy:∀ i x H1 H',i < k→bN H H1→J.yld i H1 x H'→H'=H1∧(∀ q:Bool→Hp→Prop,q true H1→tc (some x :: caps.map (pick σ)) H1 q)∧∀ q:VK,(∀ r H2,bN H1 H2→H1 r=none→R i r H2→q (.ref r) H2)→te (some x :: caps.map (pick σ)) H1 q)
  (q:∀ (rs:List Addr) H',bN H H'→rs.length=k→rs.Nodup→(∀ r∈rs,H r=none)→(∀ (i:Nat) r,rs[i]? =some r→R i r H')→∀ p,H' p=none→Q (.ref p) (upd H' p (.lst (rs.map V.ref)))):
  LCg J caps tc te σ H Q:=by
 refine ⟨fun i m ys H'=>∃ rs:List Addr,ys=rs.map V.ref∧bN H H'∧i≤k∧m=k - i∧rs.length=i∧rs.Nodup∧(∀ r∈rs,H r=none)∧∀ (j:Nat) r,rs[j]? =some r→R j r H',⟨k,[],rfl,bN.refl _,Nat.zero_le _,rfl,rfl,List.nodup_nil,fun r hr=>(nomatch hr),fun j y e=>by simp at e⟩,?_⟩;rintro i m _ H1 ⟨rs,rfl,s1,hi,rfl,hl,nd,nn,hr⟩
 by_cases hk:i=k
 ·subst hk;exact .inl ⟨hstop H1 s1,q rs H1 s1 hl nd nn hr⟩
 ·have hlt:i < k:=by omega
  refine .inr ⟨hgo i H1 hlt s1,Nat.lt_of_le_of_lt (show (rs.map V.ref).length≤1000000 by rw [bh];omega) (show 1000000 < sizeLine by decide),fun x H' y=>?_⟩;obtain ⟨rfl,h1,h2⟩:=hy i x H1 H' hlt s1 y;refine h1 _ (Zel (h2 _ fun r H2 s2 nr rr=>⟨k - (i + 1),by omega,rs ++ [r],by rw [List.map_append];rfl,s1.trans s2,by omega,rfl,by rw [List.length_append,hl];rfl,?_,fun z hz=>?_,fun j z e=>?_⟩))
  ·rw [List.nodup_append];refine ⟨nd,by simp,fun a ha b hb e=>?_⟩;rw [List.mem_singleton.mp hb] at e;subst e;obtain ⟨j,hj,ej⟩:=List.getElem_of_mem ha;obtain ⟨o,ho⟩:=al j a _ (hr j a (by rw [bO hj,ej]));rw [nr] at ho;cases ho
  ·rcases List.mem_append.mp hz with hz | hz
   ·exact nn z hz
   ·rw [List.mem_singleton.mp hz];exact s1.free nr
  ·by_cases hj:j < rs.length
   ·rw [List.getElem?_append_left hj] at e;exact mono j z _ _ (hr j z e) s2
   ·have hj':=(cI e).1;rw [List.length_append,List.length_singleton] at hj';have ej:j=rs.length:=by omega
    subst ej;rw [List.getElem?_append_right (Nat.le_refl _),Nat.sub_self] at e;cases e;rw [hl];exact rr
theorem Ng {K:aG}{a:Addr}{xs:List V}{caps:List Nat}{tc:TT}{te:TE}{σ:St}{H:Hp}{Q:VK} (hs:cF K H a xs) (hz:xs.length≤1000000) (R:Nat→Addr→Hp→Prop) (mono:∀ i y H1 H2,R i y H1→bN H1 H2→R i y H2) (al:∀ i y H1,R i y H1→∃ o,H1 y=some o)
  (htc:∀ x H1,∀ q:Bool→Hp→Prop,q true H1→tc (some x :: caps.map (pick σ)) H1 q)
  (hte:∀ (i:Nat) x H1,xs[i]? =some x→bN H H1→∀ q:VK,(∀ r H2,bN H1 H2→H1 r=none→R i r H2→q (.ref r) H2)→te (some x :: caps.map (pick σ)) H1 q)
  (q:∀ (rs:List Addr) H',bN H H'→rs.length=xs.length→rs.Nodup→(∀ r∈rs,H r=none)→(∀ (i:Nat) r,rs[i]? =some r→R i r H')→∀ p,H' p=none→Q (.ref p) (upd H' p (.lst (rs.map V.ref)))):LCg (Itl K a) caps tc te σ H Q:=by
 refine Zcq xs.length hz R mono al (fun H' s=>⟨xs,s.seq hs,Nat.le_refl _⟩) (fun i H' hi s=>⟨xs,xs[i],s.seq hs,bO hi⟩) (fun i x H1 H' hi s1 y=>?_) q;obtain ⟨e1,e2⟩:=y;exact ⟨e1,htc x H1,fun q hq=>hte i x H1 (e2 xs (s1.seq hs)) s1 q hq⟩
theorem Zhf {caps:List Nat}{tc:TT}{te:TE}{σ:St}{H:Hp}{Q:VK}{n:Nat}{z:Int} (ez:z.toNat=n) (hz:n≤1000000) (R:Nat→Addr→Hp→Prop) (mono:∀ i y H1 H2,R i y H1→bN H1 H2→R i y H2) (al:∀ i y H1,R i y H1→∃ o,H1 y=some o)
  (htc:∀ i H1,∀ q:Bool→Hp→Prop,q true H1→tc (some (.int i) :: caps.map (pick σ)) H1 q)
  (hte:∀ (i:Nat) H1,i < n→bN H H1→∀ q:VK,(∀ r H2,bN H1 H2→H1 r=none→R i r H2→q (.ref r) H2)→te (some (.int i) :: caps.map (pick σ)) H1 q)
  (q:∀ (rs:List Addr) H',bN H H'→rs.length=n→rs.Nodup→(∀ r∈rs,H r=none)→(∀ (i:Nat) r,rs[i]? =some r→R i r H')→∀ p,H' p=none→Q (.ref p) (upd H' p (.lst (rs.map V.ref)))):LCg (Itr 0 z.toNat) caps tc te σ H Q:=by
 subst ez;refine Zcq z.toNat hz R mono al (fun _ _=>Nat.le_refl _) (fun i _ hi _=>hi) (fun i x H1 H' hi s1 y=>?_) q;obtain ⟨e1,e2⟩:=y;have ex:x=.int i:=by rw [e2];simp
 subst ex;exact ⟨e1,htc i H1,fun q hq=>hte i H1 hi s1 q hq⟩
end G
namespace G
open PySem L2 PySem.Spec PyProof.Rows
theorem boot_isinstance:bootBuiltins "isinstance"=some (.builtin "isinstance"):=by decide +kernel
theorem boot_len:bootBuiltins "len"=some (.builtin "len"):=by decide +kernel
theorem boot_int:bootBuiltins "int"=some (.type "int"):=by decide +kernel
theorem boot_str:bootBuiltins "str"=some (.type "str"):=by decide +kernel
theorem boot_bool:bootBuiltins "bool"=some (.type "bool"):=by decide +kernel
theorem boot_list:bootBuiltins "list"=some (.type "list"):=by decide +kernel
theorem boot_tuple:bootBuiltins "tuple"=some (.type "tuple"):=by decide +kernel
structure Zpg (K:aG) (x qual:Str) (st:Stmt) (f:Addr) (fd:FuncData):Prop where
 ex:∃ (oc:Value) (od:Option Addr) (dV kV doc pm:Value) (an:Option Addr) (cdv ct:Value) (osl:Array (Option Value)),
  fd=PySem.W.fnOf x qual (lA st) (iI st) (aJ st) dV kV doc pm an cdv ct∧K.lookup f=some ⟨oc,od,.func fd,osl⟩∧PySem.W.codeIn K cdv qual=true
 kp:PySem.W.keepIn K (.ref f)=true
section
variable {P:Program}{w:World}{K:aG}{mg:Str→Option Value}{base:Heap}
theorem Zlh {x qual:Str}{st:Stmt}{f:Addr}{oc dV:Value}{od an:Option Addr}{osl:Array (Option Value)}{kV doc pm cdv ct:Value} (l:K.lookup f=some ⟨oc,od,.func (PySem.W.fnOf x qual (lA st) (iI st) (aJ st) dV kV doc pm an cdv ct),osl⟩)
  (c:PySem.W.codeIn K cdv qual=true) (k:PySem.W.keepIn K (.ref f)=true):Zpg K x qual st f (PySem.W.fnOf x qual (lA st) (iI st) (aJ st) dV kV doc pm an cdv ct):=⟨⟨oc,od,dV,kV,doc,pm,an,cdv,ct,osl,rfl,l,c⟩,k⟩
theorem Zc5 {f td:Addr}{oc tc:Value}{od to_:Option Addr}{osl ts:Array (Option Value)}{fd:FuncData}{items:Array Value}{tn:Nat}{ps:List Str}{ds:List Value} (_:K.lookup f=some ⟨oc,od,.func fd,osl⟩) (t:K.lookup td=some ⟨tc,to_,.seq items tn,ts⟩)
  (h:∀ us:List Value,us.length + ds.length=ps.length→∃ k,bindArgs fd ⟨us,[]⟩=seqItems? (.ref td) >>= k∧k (some items)=pure (ps.zip (us ++ ds))) (hd:fd.defaults=.ref td:=by rfl):Binds K fd ps ds:=by
 intro s us KX hl;obtain ⟨k,h1,h2⟩:=h us (by rw [List.length_append] at hl;exact hl);exact BindsTo.of_defaults hd (KX _ _ t) rfl (by rw [h1,hd]) h2
end
section
variable {X:Cx}
theorem qp:ym X (compareOp .Is) Dj:=Zn5
theorem Mz:ym X (compareOp .IsNot) Ms:=Zk8
theorem cV:Ot X (.builtin "len") (mW X.K):=Wo
def kk (t n:String):Option Bool:=if (Value.type t == Value.type n)=true then some true else if PySem.W.kitMeta n=true then (fastBuiltinMro t).map (·.contains (.type n)) else none
theorem Znq (K:aG) (t n:String):PySem.W.kitOne K (.type t) (.type n)=kk t n:=rfl
theorem Zb1:kk "int" "int"=some true:=by decide +kernel
theorem Yo:kk "int" "bool"=some false:=by decide +kernel
theorem Zb0:kk "int" "str"=some false:=by decide +kernel
theorem Ym:kk "int" "list"=some false:=by decide +kernel
theorem Vp:kk "int" "tuple"=some false:=by decide +kernel
theorem Yn:kk "int" "dict"=some false:=by decide +kernel
theorem Ys:kk "bool" "int"=some true:=by decide +kernel
theorem Vv:kk "bool" "bool"=some true:=by decide +kernel
theorem Yr:kk "bool" "str"=some false:=by decide +kernel
theorem Vt:kk "bool" "list"=some false:=by decide +kernel
theorem Qh:kk "bool" "tuple"=some false:=by decide +kernel
theorem Vu:kk "bool" "dict"=some false:=by decide +kernel
theorem Zaz:kk "str" "int"=some false:=by decide +kernel
theorem Yj:kk "str" "bool"=some false:=by decide +kernel
theorem Zay:kk "str" "str"=some true:=by decide +kernel
theorem Yh:kk "str" "list"=some false:=by decide +kernel
theorem Vl:kk "str" "tuple"=some false:=by decide +kernel
theorem Yi:kk "str" "dict"=some false:=by decide +kernel
theorem Kh:kk "NoneType" "int"=some false:=by decide +kernel
theorem Ih:kk "NoneType" "bool"=some false:=by decide +kernel
theorem Kg:kk "NoneType" "str"=some false:=by decide +kernel
theorem Ie:kk "NoneType" "list"=some false:=by decide +kernel
theorem Eg:kk "NoneType" "tuple"=some false:=by decide +kernel
theorem Ig:kk "NoneType" "dict"=some false:=by decide +kernel
theorem Yl:kk "list" "int"=some false:=by decide +kernel
theorem Vo:kk "list" "bool"=some false:=by decide +kernel
theorem Yk:kk "list" "str"=some false:=by decide +kernel
theorem Vm:kk "list" "list"=some true:=by decide +kernel
theorem Qf:kk "list" "tuple"=some false:=by decide +kernel
theorem Vn:kk "list" "dict"=some false:=by decide +kernel
theorem Vk:kk "tuple" "int"=some false:=by decide +kernel
theorem Qe:kk "tuple" "bool"=some false:=by decide +kernel
theorem Vj:kk "tuple" "str"=some false:=by decide +kernel
theorem Qc:kk "tuple" "list"=some false:=by decide +kernel
theorem Nh:kk "tuple" "tuple"=some true:=by decide +kernel
theorem Qd:kk "tuple" "dict"=some false:=by decide +kernel
theorem Yq:kk "dict" "int"=some false:=by decide +kernel
theorem Vs:kk "dict" "bool"=some false:=by decide +kernel
theorem Yp:kk "dict" "str"=some false:=by decide +kernel
theorem Vq:kk "dict" "list"=some false:=by decide +kernel
theorem Qg:kk "dict" "tuple"=some false:=by decide +kernel
theorem Vr:kk "dict" "dict"=some true:=by decide +kernel
theorem Zmh {H:Hp}{x:V}{t:String} (e:tyN H x=some t):t="int"∨t="bool"∨t="str"∨t="NoneType"∨t="list"∨t="tuple"∨t="dict":=by
 unfold tyN at e;split at e<;>(first | (cases e;simp) | (split at e<;>(first | (cases e;simp) | cases e)) | cases e)
theorem Znw {t n:String}{k:Bool} (e:tY t n=some k):n="int"∨n="bool"∨n="str"∨n="list"∨n="tuple"∨n="dict":=by
 unfold tY at e
 by_cases h:(["int","bool","str","list","tuple","dict"].contains n)=true
 ·simpa using h
 ·rw [if_neg h] at e;cases e
theorem Zq4 {H:Hp}{x:V}{t n:String}{k:Bool} (ht:tyN H x=some t) (e:tY t n=some k):kk t n=some k:=by
 rcases Zmh ht with rfl | rfl | rfl | rfl | rfl | rfl | rfl<;>rcases Znw e with rfl | rfl | rfl | rfl | rfl | rfl
 ·rw [JS] at e;rw [Zb1];exact e
 ·rw [Em] at e;rw [Yo];exact e
 ·rw [Yu] at e;rw [Zb0];exact e
 ·rw [VF] at e;rw [Ym];exact e
 ·rw [Qn] at e;rw [Vp];exact e
 ·rw [VG] at e;rw [Yn];exact e
 ·rw [VM] at e;rw [Ys];exact e
 ·rw [Qu] at e;rw [Vv];exact e
 ·rw [VL] at e;rw [Yr];exact e
 ·rw [Qs] at e;rw [Vt];exact e
 ·rw [Nq] at e;rw [Qh];exact e
 ·rw [Qt] at e;rw [Vu];exact e
 ·rw [JR] at e;rw [Zaz];exact e
 ·rw [VD] at e;rw [Yj];exact e
 ·rw [JQ] at e;rw [Zay];exact e
 ·rw [Vz] at e;rw [Yh];exact e
 ·rw [Qj] at e;rw [Vl];exact e
 ·rw [VB] at e;rw [Yi];exact e
 ·rw [Io] at e;rw [Kh];exact e
 ·rw [Ep] at e;rw [Ih];exact e
 ·rw [Im] at e;rw [Kg];exact e
 ·rw [En] at e;rw [Ie];exact e
 ·rw [Cp] at e;rw [Eg];exact e
 ·rw [Eo] at e;rw [Ig];exact e
 ·rw [El] at e;rw [Yl];exact e
 ·rw [Ql] at e;rw [Vo];exact e
 ·rw [Ek] at e;rw [Yk];exact e
 ·rw [Bk] at e;rw [Vm];exact e
 ·rw [zO] at e;rw [Qf];exact e
 ·rw [Qk] at e;rw [Vn];exact e
 ·rw [Bj] at e;rw [Vk];exact e
 ·rw [Nm] at e;rw [Qe];exact e
 ·rw [Bh] at e;rw [Vj];exact e
 ·rw [zN] at e;rw [Qc];exact e
 ·rw [yc] at e;rw [Nh];exact e
 ·rw [Nj] at e;rw [Qd];exact e
 ·rw [VJ] at e;rw [Yq];exact e
 ·rw [Qq] at e;rw [Vs];exact e
 ·rw [VH] at e;rw [Yp];exact e
 ·rw [Qo] at e;rw [Vq];exact e
 ·rw [Np] at e;rw [Qg];exact e
 ·rw [Qp] at e;rw [Vr];exact e
theorem tyOf {K:aG}{H:Hp}{x:V}{t:String} (e:tyN H x=some t):Jk K H x (.type t):=by
 cases x with
 | non=>cases e;exact .non
 | bl y=>cases e;exact .bl y
 | int y=>cases e;exact .int y
 | str y=>cases e;exact .str y
 | byt y=>cases e
 | flt y=>cases e
 | ty y=>cases e
 | ref a=>
  have e':(match H a with | some (.lst _)=>some "list" | some (.yd _ (.lst _))=>some "list" | some (.tup _)=>some "tuple" | some (.dK _)=>some "dict" | some (.dT _)=>some "dict" | _=>none)=some t:=e;split at e'
  ·rename_i h;cases e';exact .lst h
  ·rename_i h;cases e';exact .yd h
  ·rename_i h;cases e';exact .tup h
  ·rename_i h;cases e';exact .dK h
  ·rename_i h;cases e';exact .dT h
  ·cases e'
theorem gG:Ot X (.builtin "isinstance") t7:=by
 intro pins s σ H xs us Q I r h;obtain ⟨x,n,t,k,rfl,ht,hk,q⟩:=h;obtain ⟨u,w',rfl,rx,rn⟩:=vals2 r;have rn':w'=Value.type n:=rn;subst rn';exact Zem (t:=.type t) (b:=k) I rx (tyOf ht) ((Znq _ _ _).trans (Zq4 ht hk)) fun tk=>⟨.bl k,H,I.tok _,rfl,q⟩
end
end G
namespace G
open PySem L2 PySem.Spec PyProof.Rows
section
variable {X:Cx}
theorem Ez (n:Nat) (o:Option Int) (d:Nat) (v:Int) (h:o=some v):max (0:Int) (min (if v < 0 then v + n else v) n)=((HT.oM n d o:Nat):Int):=by
 subst h;show _=(((if v < 0 then (v + (n:Int)).toNat else min v.toNat n:Nat)):Int);split<;>omega
theorem RD (lo hi:Option Int) (n:Nat):Builtin.Str.strSliceIndices lo hi 1 n=Builtin.Str.strSliceIndices (some ((HT.oM n 0 lo:Nat):Int)) (some ((HT.oM n n hi:Nat):Int)) 1 n:=by
 have a1:=HT.Bx n 0 (Nat.zero_le _) lo;have a2:=HT.Bx n n (Nat.le_refl _) hi;have e1:max (0:Int) (min (if ((HT.oM n 0 lo:Nat):Int) < 0 then ((HT.oM n 0 lo:Nat):Int) + n else ((HT.oM n 0 lo:Nat):Int)) n)=((HT.oM n 0 lo:Nat):Int):=by
  rw [if_neg (by omega)];omega
 have e2:max (0:Int) (min (if ((HT.oM n n hi:Nat):Int) < 0 then ((HT.oM n n hi:Nat):Int) + n else ((HT.oM n n hi:Nat):Int)) n)=((HT.oM n n hi:Nat):Int):=by
  rw [if_neg (by omega)];omega
 simp only [Builtin.Str.strSliceIndices,show ((1:Int) > 0)=True from by simp,if_true];rw [e1,e2];cases lo with
 | none=>
  cases hi with
  | none=>rfl
  | some j=>dsimp only;rw [Ez n (some j) n j rfl];rfl
 | some i=>
  cases hi with
  | none=>dsimp only;rw [Ez n (some i) 0 i rfl];rfl
  | some j=>dsimp only;rw [Ez n (some j) n j rfl,Ez n (some i) 0 i rfl]
theorem Zdl (z:Str) (lo hi:Option Int):(Builtin.Str.strSliceIndices lo hi 1 z.length).filterMap (z.cps[·]?)=(z.cps.toList.drop (HT.oM z.length 0 lo)).take (HT.oM z.length z.length hi - HT.oM z.length 0 lo):=by
 rw [RD]
 by_cases h:HT.oM z.length 0 lo≤HT.oM z.length z.length hi
 ·exact StrLaws.sliced_plain z h (HT.Bx _ _ (Nat.le_refl _) _)
 ·have e:HT.oM z.length z.length hi - HT.oM z.length 0 lo=0:=by omega
  rw [e,List.take_zero];have e2:Builtin.Str.strSliceIndices (some ((HT.oM z.length 0 lo:Nat):Int)) (some ((HT.oM z.length z.length hi:Nat):Int)) 1 z.length=[]:=by
   have a1:=HT.Bx z.length 0 (Nat.zero_le _) lo;have a2:=HT.Bx z.length z.length (Nat.le_refl _) hi;simp only [Builtin.Str.strSliceIndices,sliceRange,show ((1:Int) > 0)=True from by simp,if_true];rw [if_neg (by omega:¬ ((HT.oM z.length 0 lo:Nat):Int) < 0),if_neg (by omega:¬ ((HT.oM z.length z.length hi:Nat):Int) < 0),if_neg (by omega)];rfl
  rw [e2];rfl
theorem part_of {v:Value}{o:Option Int} (p:IsPart v o):∃ q:Option (Int×Tok),v=partValue q∧q.map (·.1)=o:=by
 cases p with
 | none=>exact ⟨none,rfl,rfl⟩
 | int i t=>exact ⟨some (i,t),rfl,rfl⟩
theorem ZX:SlR X Zfx:=by
 intro pins s σ H x v vl vu lo hi sl Q I rx hs pl pu h;obtain ⟨z,rfl,hz,q⟩:=h;obtain ⟨t,rfl⟩:=rx;obtain ⟨ql,rfl,el⟩:=part_of pl;obtain ⟨qu,rfl,eu⟩:=part_of pu;refine ⟨"str",_,F.slot_str_getitem.lookup,typeIs_str _ _ _,?_⟩;refine wpAny_getItem_str_slice (l:=ql) (u:=qu) (st:=none) hs rfl ?_;have ep:(slicePicked z ql qu none).filterMap (z.cps[·]?)=(z.cps.toList.drop (HT.oM z.length 0 lo)).take (HT.oM z.length z.length hi - HT.oM z.length 0 lo):=by
  unfold slicePicked;rw [el,eu];exact Zdl z lo hi
 have em:(⟨((slicePicked z ql qu none).filterMap (z.cps[·]?)).toArray⟩:Str)=Wh z lo hi:=by
  rw [ep];rfl
 unfold sliceMade;split
 ·rename_i hw
  have hl:(slicePicked z ql qu none).length=z.length:=by
   rw [Bool.and_eq_true] at hw;exact beq_iff_eq.mp hw.2
  have hc:Wh z lo hi=z:=by
   have h1:(slicePicked z ql qu none)=Builtin.Str.strSliceIndices (some ((HT.oM z.length 0 lo:Nat):Int)) (some ((HT.oM z.length z.length hi:Nat):Int)) 1 z.length:=by
    unfold slicePicked;rw [el,eu];exact RD lo hi z.length
   have a2:=HT.Bx z.length z.length (Nat.le_refl _) hi;have a1:=HT.Bx z.length 0 (Nat.zero_le _) lo;have hz0:HT.oM z.length 0 lo≤HT.oM z.length z.length hi∨z.length=0:=by
    by_cases hle:HT.oM z.length 0 lo≤HT.oM z.length z.length hi
    ·exact .inl hle
    ·right
     rw [h1] at hl;have e2:Builtin.Str.strSliceIndices (some ((HT.oM z.length 0 lo:Nat):Int)) (some ((HT.oM z.length z.length hi:Nat):Int)) 1 z.length=[]:=by
      simp only [Builtin.Str.strSliceIndices,sliceRange,show ((1:Int) > 0)=True from by simp,if_true];rw [if_neg (by omega:¬ ((HT.oM z.length 0 lo:Nat):Int) < 0),if_neg (by omega:¬ ((HT.oM z.length z.length hi:Nat):Int) < 0),if_neg (by omega)];rfl
     rw [e2] at hl;exact hl.symm
   unfold Wh;rcases hz0 with hle | h0
   ·rw [h1,StrLaws.strSliceIndices_plain hle a2,bh,List.length_range] at hl;have b1:HT.oM z.length 0 lo=0:=by omega
    have b2:HT.oM z.length z.length hi=z.length:=by omega
    rw [b1,b2,List.drop_zero,Nat.sub_zero,← str_len,List.take_length]
    all_goals rfl
   ·have hcz:z.cps=#[]:=Array.eq_empty_of_size_eq_zero h0;obtain ⟨zc⟩:=z;dsimp only at hcz;subst hcz;simp
  rw [hc] at q;exact ⟨.str z,H,I,⟨_,rfl⟩,q⟩
 ·show Str.length _≤sizeLine∧_;rw [em];exact ⟨Nat.le_trans (zU z lo hi) hz,.str (Wh z lo hi),H,I.tok _,⟨_,rfl⟩,q⟩
def GC (mg:Str→Option Value) (x:Str) (v:V):Prop:=∃ u,mg x=some u∧RelV v u
theorem GC.pe {x:Str}{v:V}{pos:Pos} (h:GC X.mg x v) (hg:Gl X x) (hd:(x == ("__debug__":Str))=false:=by decide):PE X (.Name x pos) (tC v):=by
 obtain ⟨u,hm,r⟩:=h;exact Zk4 hg hm r hd
end
end G
namespace G
open PySem L2 PySem.Spec PyProof.Rows
section
variable {X:Cx}
end
end G
namespace G
open PySem L2
end G
namespace G
open PySem L2 PySem.Spec PyProof.Rows
section
variable {X:Cx}{pins:List (Addr×Obj)}{σ:L2.St}{H:Hp}{s:Shared}{acc:Addr}{ys:List V}{its:List Value}{n:Nat}
theorem adopt (I:Inv X pins σ H s) (hf:vX X pins H acc) (ho:s.heap.get? acc=some { cls:=.type "list",data:=.seq its.toArray n }) (hv:Vals ys its) (hz:ys.length≤sizeLine):Inv X pins σ (upd H acc (.lst ys)) s:=by
 obtain ⟨f0,f1,f2,f3,f4,f5⟩:=hf;have ne:∀ b u,H b=some u→b≠acc:=fun b u e=>aD e f0;refine I.step (h':=s.heap) (g':=s.gens) (t':=s.toks) (d':=s.drawn) (ch:=[acc]) (fun b hb=>?_) (fun _ _ _ _ _ e _=>e) (fun b o _ _ _ e _=>⟨o.slots,e⟩) (fun b o hb e h0=>?_) (fun b o _ e=>⟨o,e⟩)
  (fun b xs e=>by rw [aA (ne b _ e)];exact e) (fun b o u e=>by rw [aA (ne b _ e)];exact e) (fun b ps e=>⟨#[],by rw [aA (ne b _ e),e];simp⟩) (fun m hm=>hm) (fun b u e=>?_) I.bare
 ·have e:b=acc:=by simpa using hb
  subst e;exact ⟨f3,f1,f4,f5⟩
 ·have e:b≠acc:=by simpa using hb
  rw [aA e];exact h0
 ·by_cases hb:b=acc
  ·subst hb;rw [aq] at e;cases e;exact ⟨hz,its,n,hv,ho⟩
  ·rw [aA hb] at e;exact (I.hok b u e).stay (fun _ _ _ q=>q) (fun c q=>by rw [aA (ne c _ q)];exact q) fun c xs q=>by rw [aA (ne c _ q)];exact q
theorem disown (I:Inv X pins σ (upd H acc (.lst ys)) s) (hf:vX X pins H acc):Inv X pins σ H s:=by
 obtain ⟨f0,f1,f2,f3,f4,f5⟩:=hf;have back:∀ b u,upd H acc (.lst ys) b=some u→u≠.lst ys→H b=some u:=fun b u e hne=>by
  by_cases hb:b=acc
  ·subst hb;rw [aq] at e;cases e;exact absurd rfl hne
  ·rw [aA hb] at e;exact e
 refine I.step (h':=s.heap) (g':=s.gens) (t':=s.toks) (d':=s.drawn) (ch:=[acc]) (fun b hb=>?_) (fun _ _ _ _ _ e _=>e) (fun b o _ _ _ e _=>⟨o.slots,e⟩) (fun b o hb e h0=>?_) (fun b o _ e=>⟨o,e⟩)
  (fun b xs e=>back b _ e (fun z=>nomatch z)) (fun b o u e=>back b _ e (fun z=>nomatch z)) (fun b ps e=>⟨#[],by rw [back b _ e (fun z=>nomatch z)];simp⟩) (fun m hm=>hm) (fun b u e=>?_) I.bare
 ·have e:b=acc:=by simpa using hb
  subst e;exact ⟨f3,f1,f4,f5⟩
 ·have e:b≠acc:=by simpa using hb
  rw [aA e] at h0;exact h0
 ·have hb:b≠acc:=aD e f0;have e':upd H acc (.lst ys) b=some u:=by rw [aA hb];exact e
  exact (I.hok b u e').stay (fun _ _ _ q=>q) (fun c q=>back c _ q (fun z=>nomatch z)) fun c xs q=>back c _ q (fun z=>nomatch z)
end
def PF (X:Cx) (ifs:List Expr) (t:TT):Prop:=
 ∀ (pins:List (Addr×Obj)) (s:Shared) (σ:L2.St) (H:Hp) (Q:Bool→Hp→Prop),Inv X pins σ H s→t σ H Q→
  wpAny (model X.prog X.w) X.A (forIn ifs true fun c r=>if r=true then do let ok ← isTrue c X.env (eval c X.env);pure (ForInStep.yield ok) else pure (ForInStep.yield r)) (TP X pins σ Q) X.xe s
theorem Cd {X:Cx}:PF X [] vG:=fun _ _ _ H _ I h=>wpAny_tests_nil ⟨H,I,h⟩
theorem Zmz {X:Cx}{c:Expr}{t:TT} (h:PT X c t):PF X [c] t:=fun pins s σ H Q I q=>wpAny_tests_one (h pins s σ H Q I q)
def Zfc (X:Cx) (scope:Scope) (cl:List (Str×Addr)) (N:List Str) (C:Addr) (s:Shared) (H:Hp) (ex:List Addr) (pn:List (Addr×Obj)):Cx:=
 { X with N:=N,s₀:=s,H₀:=H,env:=compEnvC scope cl C X.env,outer:=X.stack,ex:=ex,fn:=fun _=>false,pn:=pn,xe:=fun _ _=>False }
def AllIn (cells:List (Str×Addr)):List (Str×Addr)→Prop
 | []=>True
 | p :: r=>cells.lookup p.1=some p.2∧AllIn cells r
theorem AllIn.get {cells:List (Str×Addr)}:∀ {cl:List (Str×Addr)},AllIn cells cl→∀ {x:Str}{c:Addr},cl.lookup x=some c→cells.lookup x=some c
 | [],_,x,c,h=>by cases h
 | (y,d) :: r,a,x,c,h=>by
  cases e:(x == y) with
  | true=>
   rw [List.lookup_cons,e] at h;have e':x=y:=beq_iff_eq.mp e;subst e';cases h;exact a.1
  | false=>
   rw [List.lookup_cons,e] at h;exact AllIn.get a.2 h
def Fv (X:Cx):List Str→List Nat→Prop
 | [],[]=>True
 | y :: r,j :: js=>X.N[j]? =some y∧X.env.kindOf y=some .cell∧Fv X r js
 | _,_=>False
theorem Fv.len {X:Cx}:∀ {ns:List Str}{js:List Nat},Fv X ns js→ns.length=js.length
 | [],[],_=>rfl
 | [],_ :: _,h=>h.elim
 | _ :: _,[],h=>h.elim
 | _ :: r,_ :: js,h=>by rw [List.length_cons,List.length_cons,Fv.len h.2.2]
theorem Fv.get {X:Cx}{σ:L2.St}:∀ {ns:List Str}{js:List Nat},Fv X ns js→∀ {i:Nat}{x:Str}{v:V},ns[i]? =some x→(js.map (pick σ))[i]? =some (some v)→∃ j:Nat,X.N[j]? =some x∧X.env.kindOf x=some .cell∧σ[j]? =some (some v)
 | [],_,_,i,x,v,h,_=>by simp at h
 | _ :: _,[],h,_,_,_,_,_=>h.elim
 | y :: r,j :: js,h,0,x,v,h1,h2=>by
  simp at h1 h2;subst h1;refine ⟨j,h.1,h.2.1,?_⟩;unfold pick at h2;split at h2
  ·rename_i e;rw [e,h2]
  ·cases h2
 | y :: r,j :: js,h,i + 1,x,v,h1,h2=>Fv.get (i:=i) h.2.2 (by simpa using h1) (by simpa using h2)
theorem Zh9 {x n:Str}{k:NameKind}{r:List (Str×NameKind)} (h:(x == n)=false):List.lookup x ((n,k) :: r)=List.lookup x r:=by rw [List.lookup_cons,h]
theorem Zha {x n:Str}{k:NameKind}{r:List (Str×NameKind)} (h:(x == n)=true):List.lookup x ((n,k) :: r)=some k:=by rw [List.lookup_cons,h]
def yP (env:Env) (x:Str) (k:NameKind):NameKind:=if (k == NameKind.free && env.scope.kind == .function && env.kindOf x == some .cell)=true then .cell else k
theorem mj {env:Env}{x:Str}:∀ {names:List (Str×NameKind)},
  (names.map fun (n,k)=>if (k == NameKind.free && env.scope.kind == .function && env.kindOf n == some .cell) then (n,NameKind.cell) else (n,k)).lookup x=(names.lookup x).map (yP env x)
 | []=>rfl
 | (n,k') :: r=>by
  have ih:=@mj env x r;show List.lookup x ((if (k' == NameKind.free && env.scope.kind == .function && env.kindOf n == some .cell)=true then (n,NameKind.cell) else (n,k')) :: r.map fun (n,k)=>if (k == NameKind.free && env.scope.kind == .function && env.kindOf n == some .cell) then (n,NameKind.cell) else (n,k))=_;cases hx:x == n with
  | true=>
   have e:=beq_iff_eq.mp hx;subst e;rw [Zha (k:=k') hx]
   by_cases hc:(k' == NameKind.free && env.scope.kind == .function && env.kindOf x == some .cell)=true
   ·rw [if_pos hc,Zha hx];show some NameKind.cell=some (yP env x k');unfold yP;rw [if_pos hc]
   ·rw [if_neg hc,Zha hx];show some k'=some (yP env x k');unfold yP;rw [if_neg hc]
  | false=>
   rw [Zh9 (k:=k') (r:=r) hx]
   by_cases hc:(k' == NameKind.free && env.scope.kind == .function && env.kindOf n == some .cell)=true
   ·rw [if_pos hc,Zh9 hx];exact ih
   ·rw [if_neg hc,Zh9 hx];exact ih
theorem lookup_all {names:List (Str×NameKind)}{p:Str×NameKind→Bool}:∀ {x:Str}{k:NameKind},names.all p=true→names.lookup x=some k→p (x,k)=true:=by
 induction names with
 | nil=>intro x k _ h;simp at h
 | cons y r ih=>
  intro x k ha h;obtain ⟨n,k'⟩:=y;rw [List.all_cons,Bool.and_eq_true] at ha;cases hx:x == n with
  | true=>
   rw [List.lookup_cons,hx] at h;have e1:x=n:=beq_iff_eq.mp hx;have e2:k'=k:=Option.some.inj h;rw [e1,← e2];exact ha.1
  | false=>
   rw [List.lookup_cons,hx] at h;exact ih ha.2 h
theorem JW {prog:Program}{w:World}{A:Around}{R:Result→Shared→Prop}{s:Shared}{elt target iter:Expr}{ifs:List Expr}{scope:Scope}{pos:Pos}{it acc:Value}{env:Env} (I:Nat→Shared→Prop)
  (turn:∀ n s,I n s→wpAny (model prog w) A (pyNext it) (fun r s₁=>match r with
   | none=>R (.ok .next) s₁
   | some v=>wpAny (model prog w) A (letOwnedTupleGo target it v) (fun _ s₁'=>wpAny (model prog w) A (assign target env v) (fun _ s₂=>
     wpAny (model prog w) A (forIn ifs true fun c r=>if r=true then do let ok ← isTrue c env (eval c env);pure (ForInStep.yield ok) else pure (ForInStep.yield r)) (fun ok s₃=>
      if ok=true then wpAny (model prog w) A (eval elt env) (fun x s₄=>
       wpAny (model prog w) A (call (.builtin "list.append") [acc,x]) (fun _ s₅=>∃ m,m < n∧I m s₅) (fun _ _=>False) s₄) (fun _ _=>False) s₃
      else ∃ m,m < n∧I m s₃) (fun _ _=>False) s₂) (fun _ _=>False) s₁') (fun _ _=>False) s₁) (fun _ _=>False) s)
  (n:Nat) (h:I n s):
  codeAny (model prog w) A (.compLoop (.ListComp elt [⟨target,iter,ifs,0⟩] scope pos) 0 it acc env) R s:=by
 refine codeAny_loop rfl I (fun n s hI=>?_) n h;show wpAny _ A ((compTurn (.ListComp elt [⟨target,iter,ifs,0⟩] scope pos) 0 it acc env).onRaise (fun x=>do noteFrame x env;theTreesLotGoes x)) _ _ s;refine wpAny_noted ?_;rw [compTurn_list];refine wpAny_bind (wpAny_standAt (wpAny_bind (wpAny_mono (turn n s hI) (fun r s₁ h₁=>?_) fun _ _ h'=>h'.elim)));cases r with
 | none=>exact wpAny_pure h₁
 | some v=>
  refine wpAny_bind (wpAny_mono h₁ (fun _ s₁' h₁'=>?_) fun _ _ h'=>h'.elim);refine wpAny_bind (wpAny_mono h₁' (fun _ s₂ h₂=>wpAny_bind (wpAny_mono h₂ (fun ok s₃ h₃=>?_) fun _ _ h'=>h'.elim)) fun _ _ h'=>h'.elim);cases ok with
  | false=>exact wpAny_pure ⟨rfl,h₃⟩
  | true=>
   exact wpAny_bind (wpAny_bind (wpAny_mono h₃ (fun x s₄ h₄=>wpAny_bind (wpAny_mono h₄ (fun _ s₅ h₅=>wpAny_pure (wpAny_pure ⟨rfl,h₅⟩)) fun _ _ h'=>h'.elim)) fun _ _ h'=>h'.elim))
theorem Mw {X:Cx}{elt iter:Expr}{x:Str}{px pos:Pos}{ifs:List Expr}{scope:Scope}{cl:List (Str×Addr)}{wi:TI}{tc:TT}{te:TE}{cns:List Str} (caps:List Nat)
  (hi:PI X (.Name x px) iter wi)
  (hf:∀ C s H ex pn,PF (Zfc X scope cl (x :: cns) C s H ex pn) ifs tc) (he:∀ C s H ex pn,PE (Zfc X scope cl (x :: cns) C s H ex pn) elt te) (hc:X.calm=true)
  (hclos:closureFor scope X.env=pure cl) (hcl:AllIn X.env.cells cl) (hcap:Fv X cns caps)
  (hkind:scope.kind=.function) (hcell:(scope.names.all fun p=>p.2 != .cell)=true) (hfree:(scope.names.all fun p=>p.2 != .free || (cl.lookup p.1).isSome)=true)
  (hcf:(cns.all fun y=>scope.names.lookup y == some .free)=true) (hnames:∀ y∈scope.names,y.2=.local→scope.names.lookup y.1=some .local) (hx:scope.names.lookup x=some .local) (hnd:(x :: cns).Nodup)
  (hs:∀ v,foldedSetIterable iter X.env v=pure v:=by intro _;rfl):
  PE X (.ListComp elt [⟨.Name x px,iter,ifs,0⟩] scope pos) (tLC wi caps tc te):=by
 intro pins s σ H Q I h;rw [eval_ListComp];refine wpAny_comprehension_free (use:=none) rfl hs hclos hkind hnames (iD (hi pins s σ H _ I h) fun xv s1 h1=>iD h1 fun itv s2 h2=>?_);obtain ⟨it,fp,tn,J,H2,rfl,I2,T,st2,f2,W,⟨m0,w0⟩,turn⟩:=h2;have hne:∀ y∈scope.names,y.2≠.cell:=fun y hy e=>by
  have:=List.all_eq_true.mp hcell y hy;rw [e] at this;simp at this
 refine wpAny_newObj_type (wpAny_newFunctionEnv hne (by intro y hy;simp at hy) (fun h₁ hns₁ hsb₁=>?_) hkind);dsimp only at hns₁ hsb₁ ⊢;generalize hacc:s2.heap.objs.size=acc;generalize hH3:s2.heap.push { cls:=.type "list",dict:=none,data:=.seq ([]:List Value).toArray }=h3 at hns₁ hsb₁ ⊢;have hC:h3.objs.size=acc + 1:=by rw [← hH3,Heap.size_push,hacc]
 have Am:∀ b o,s2.heap.get? b=some o→h3.get? b=some o:=fun b o e=>hH3 ▸ Heap.get?_push_of_some _ e;have Qi:∀ b o,h3.get? b=some o→h₁.get? b=some o:=fun b o e=>hsb₁.extBut b o (Nat.ne_of_lt (Heap.lt_size e)) (Heap.get?_push_of_some _ e);have Znb:h3.get? acc=some { cls:=.type "list",dict:=none,data:=.seq ([]:List Value).toArray }:=by
  rw [← hH3,← hacc];exact Heap.get?_push_size _ rfl
 have I3:Inv X pins σ H2 { s2 with heap:=h3 }:=I2.kept (t':=s2.toks) Am;have Zbp:vX X pins H2 acc:=I2.Zi5 (Nat.le_of_eq hacc) (I2.hok.fresh (Nat.le_of_eq hacc));have fpl:∀ b∈fp,b < acc:=fun b hb=>by
  obtain ⟨o,e,_⟩:=T.obj _ _ st2 b hb;rw [← hacc];exact Heap.lt_size e
 have Je:∀ b∈acc :: fp,vX X pins H2 b:=fun b hb=>(List.mem_cons.mp hb).elim (fun e=>e ▸ Zbp) (f2 b);have exC:∀ b∈acc :: fp,b≠h3.objs.size:=fun b hb=>by
  rcases List.mem_cons.mp hb with e | hb
  ·rw [hC,e];exact Nat.ne_of_lt (Nat.lt_succ_self _)
  ·rw [hC];exact Nat.ne_of_lt (Nat.lt_succ_of_lt (fpl b hb))
 have Bq:∀ b∈acc :: fp,b∉frs X.stack:=fun b hb hm=>by
  obtain ⟨_,g1,g2,_⟩:=Je b hb;exact (List.mem_cons.mp (I2.yu b hm)).elim g1 g2
 let Y:Cx:=Zfc X scope cl (x :: cns) h3.objs.size { s2 with heap:=h3 } H2 (acc :: fp) (X.pn ++ pins)
 have cellsOf:∀ y c,cl.lookup y=some c→X.env.cells.lookup y=some c:=fun y c e=>hcl.get e;have Ei:∀ y k,Y.env.kindOf y=some k→(k=.cell∨k=.free)→∃ c,cl.lookup y=some c:=fun y k e hk=>by
  have e0:(scope.names.lookup y).map (yP X.env y)=some k:=mj.symm.trans e;obtain ⟨k0,e1,e2⟩:=Option.map_eq_some_iff.mp e0;have e3:=lookup_all hfree e1;have e4:=lookup_all hcell e1
  by_cases hf:k0=.free
  ·subst hf;rw [Bool.or_eq_true] at e3;rcases e3 with e3 | e3
   ·exact absurd rfl (bne_iff_ne.mp e3)
   ·exact Option.isSome_iff_exists.mp e3
  ·exfalso
   have e5:yP X.env y k0=k0:=by
    unfold yP;rw [if_neg];intro z;rw [Bool.and_eq_true,Bool.and_eq_true] at z;exact hf (beq_iff_eq.mp z.1.1)
   rw [e5] at e2;subst e2;rcases hk with rfl | rfl
   ·simp at e4
   ·exact hf rfl
 have okY:Y.Ok:={
  mod:=I2.ok.mod
  kind:=hkind
  glob:=I2.ok.glob
  blt:=I2.ok.blt
  above:=Nat.le_refl _
  inj:=fun a b c e1 e2=>I2.ok.inj a b c (cellsOf _ _ e1) (cellsOf _ _ e2)
  has:=fun y hy=>hy.elim (fun e=>Ei y _ e (.inl rfl)) (fun e=>Ei y _ e (.inr rfl))
  cab:=fun y c e=>nomatch e
  hd:=I2.ok.hd
  frames:=I2.ok.frames
  stk:=.inl rfl
  exf:=fun b hb=>⟨exC b hb,fun y c e=>(Je b hb).2.2.2.2.1 y c (cellsOf _ _ e)⟩
  bs:=fun b o e=>⟨Am b o (I2.bs b o e).1,(I2.bs b o e).2⟩
  bsz:=by
   show X.base.objs.size≤h3.objs.size;rw [hC,← hacc];exact Nat.le_succ_of_le (Nat.le_trans I2.ok.bsz I2.sz)
  Qa:=fun b o e hb=>by
   rcases (Je b hb).2.2.2.1 with z | z
   ·exact I2.ok.Qa b o e z
   ·exact absurd (Nat.lt_of_lt_of_le (Heap.lt_size e) (Nat.le_trans I2.ok.bsz z)) (Nat.lt_irrefl _)
  YG:=Bq
  vR:=I3.stack
  frf:=I3.Kz }
 have Znm:(none :: caps.map (pick σ):L2.St).length=(x :: cns).length:=by rw [List.length_cons,List.length_cons,bh,hcap.len]
 have I4:Inv Y [] (none :: caps.map (pick σ)) H2 { s2 with heap:=h₁,toks:=s2.toks + ([]:List (Str×Value)).length }:={
  ok:=okY
  os:=rfl
  bare:=I2.bare
  base:=Un.kept Qi
  loc:=by
   refine ⟨_,hns₁,fun i y v e1 e2 e3=>?_⟩;cases i with
   | zero=>simp at e2
   | succ i=>
    obtain ⟨j,j1,j2,j3⟩:=hcap.get (σ:=σ) (i:=i) (x:=y) (v:=v) (by have e1':(x :: cns)[i + 1]? =some y:=e1;simpa using e1') (by simpa using e2);obtain ⟨m,hn,hl⟩:=I2.loc;obtain ⟨u,r,l⟩:=hl j y v j1 j3 (.inr (.inl j2));rcases l with ⟨l,_⟩ | ⟨_,c,l1,l2⟩
    ·rw [j2] at l;cases l
    ·refine ⟨u,r,.inr ?_⟩;rcases e3 with e3 | e3 | e3
     ·exfalso
      have hm:y∈cns:=List.mem_of_getElem? (show cns[i]? =some y by have e1':(x :: cns)[i + 1]? =some y:=e1;simpa using e1');have hl:scope.names.lookup y=some .free:=beq_iff_eq.mp (List.all_eq_true.mp hcf y hm);have e0:(scope.names.lookup y).map (yP X.env y)=some .local:=mj.symm.trans e3;rw [hl] at e0;have e5:yP X.env y .free=.local:=Option.some.inj e0;unfold yP at e5;split at e5<;>cases e5
     ·obtain ⟨c',hc'⟩:=Ei y _ e3 (.inl rfl);have:=cellsOf _ _ hc';rw [l1] at this;cases this;exact ⟨.inl e3,c,hc',l2.keeps fun b o e=>Qi _ _ (Am _ _ e)⟩
     ·obtain ⟨c',hc'⟩:=Ei y _ e3 (.inr rfl);have:=cellsOf _ _ hc';rw [l1] at this;cases this;exact ⟨.inr e3,c,hc',l2.keeps fun b o e=>Qi _ _ (Am _ _ e)⟩
  cell:=fun y c e=>by
   obtain ⟨v,z⟩:=I2.cell y c (cellsOf _ _ e);exact ⟨v,z.keeps fun b o e=>Qi _ _ (Am _ _ e)⟩
  free:=I2.hok.fresh (by rw [hacc];show acc≤h3.objs.size;rw [hC];exact Nat.le_succ _)
  qL:=fun y c e=>I2.qL y c (cellsOf _ _ e)
  pin:=fun p hp=>by
   have hp2:p∈(X.pn ++ pins) ++ []:=hp;have hp':p∈X.pn ++ pins:=by rw [List.append_nil] at hp2;exact hp2
   obtain ⟨p1,p2,p3,p4,p5⟩:=I2.pin p hp';refine ⟨Qi _ _ (Am _ _ p1),p2,?_,fun hm=>(List.mem_cons.mp (I2.yu _ hm)).elim p3 p4,p5⟩;exact Nat.ne_of_lt (by show p.1 < h3.objs.size;exact Heap.lt_size (Am _ _ p1))
  hok:=I2.hok.kept fun b u e=>Qi _ _ (Am _ _ e)
  len:=Znm }
 have fpY:∀ {H':Hp}{pl:List (Addr×Obj)}{b:Addr},b∈acc :: fp→H' b=none→(∀ p∈pl,p.1≠b)→vX Y pl H' b:=fun {H' pl b} hb hn hp=>
  ⟨hn,exC b hb,Bq b hb,.inl hb,fun y c e=>(Je b hb).2.2.2.2.1 y c (cellsOf _ _ e),fun p hm=>(List.mem_append.mp hm).elim (fun z=>(Je b hb).2.2.2.2.2 p z) (hp p)⟩
 have fin:∀ {σ':L2.St}{H':Hp}{s':Shared}{ys:List V}{its:List Value}{kk:Nat}{pl:List (Addr×Obj)},Inv Y pl σ' H' s'→H' acc=none→Vals ys its→ys.length≤sizeLine→
   s'.heap.get? acc=some { cls:=.type "list",data:=.seq its.toArray kk }→(∀ p,H' p=none→Q (.ref p) (upd H' p (.lst ys)))→
   ∀ h',Heap.SameBut h3.objs.size s'.heap h'→EP X pins σ Q (.ref acc) { s' with heap:=h' }:=fun {σ' H' s' ys its kk pl} J ha hv hz ho hq h' hs'=>by
  have Zop:acc≠h3.objs.size:=exC acc (List.mem_cons_self);have zL:∀ b o,b≠h3.objs.size→s'.heap.get? b=some o→h'.get? b=some o:=fun b o hb e=>hs'.extBut b o hb e;have ltC:∀ b o,s2.heap.get? b=some o→b≠h3.objs.size:=fun b o e=>Nat.ne_of_lt (Heap.lt_size (Am b o e));have NB:H' h3.objs.size=none:=J.free;have un:Un (frs X.stack) (acc :: fp) H2 H' s2.heap h':={
   keep:=fun b o e n hb hx=>zL b o (ltC b o e) (J.base.keep b o (Am b o e) n hb hx)
   slot:=fun b o e n hb hx=>by
    obtain ⟨sl,q⟩:=J.base.slot b o (Am b o e) n hb hx;exact ⟨sl,zL b _ (ltC b o e) q⟩
   free:=fun b o e n hx=>J.base.free b o (Am b o e) n hx
   there:=fun b o e hx=>by
    obtain ⟨o',q⟩:=J.base.there b o (Am b o e) hx;exact ⟨o',zL b o' (ltC b o e) q⟩
   tups:=J.base.tups
   Et:=J.base.Et
   FJ:=J.base.FJ }
  have hok:yp X.prog X.w H' h':=fun b u e=>by
   refine (J.hok b u e).stay (fun c v hc q=>zL c v ?_ q) (fun _ q=>q) fun _ _ q=>q;rintro rfl;rcases hc with rfl | hc
   ·rw [NB] at e;cases e
   ·rw [NB] at hc;cases hc
  have I5:Inv X pins σ H' { s' with heap:=h' }:=I2.call' (ch:=acc :: fp) J.os un hok J.bare fun b hb=>by
   obtain ⟨g0,g1,g2,g3,g4,g5⟩:=Je b hb;exact ⟨g3,g1,g4,g5⟩
  refine ⟨.ref acc,_,adopt (acc:=acc) I5 ?_ (zL _ _ Zop ho) hv hz,rfl,hq acc ha⟩;obtain ⟨g0,g1,g2,g3,g4,g5⟩:=Zbp;exact ⟨ha,g1,g2,g3,g4,g5⟩
 have loop:codeAny (model X.prog X.w) X.A (.compLoop (.ListComp elt [⟨.Name x px,iter,ifs,0⟩] scope pos) 0 (.ref it) (.ref acc) Y.env) (compPost (model X.prog X.w) X.A X.xe none (EP X pins σ Q) (.ref acc) h3.objs.size)
   { s2 with heap:=h₁,toks:=s2.toks + ([]:List (Str×Value)).length }:=by
  refine JW (fun n s'=>∃ (i:Nat) (v:Option V) (ys:List V) (its:List Value) (kk:Nat) (H':Hp),Inv Y [] (v :: caps.map (pick σ)) H' s'∧tn i s'.heap∧(∀ b∈fp,H' b=none)∧H' acc=none∧Vals ys its∧ys.length≤sizeLine∧
   s'.heap.get? acc=some { cls:=.type "list",data:=.seq its.toArray kk }∧W i n ys H') ?_ m0 ⟨0,none,[],[],0,H2,I4,T.keep _ _ _ st2 (fun b _ o e=>Qi _ _ (Am _ _ e)),fun b hb=>(f2 b hb).1,Zbp.1,.nil,Nat.zero_le _,Qi _ _ Znb,w0⟩
  rintro n s5 ⟨i,v,ys,its,kk,H5,I5,Zn,fr5,ha5,hv5,hz5,ho5,w5⟩;have Zg7:Inv Y [(acc,{ cls:=.type "list",data:=.seq its.toArray kk })] (v :: caps.map (pick σ)) H5 s5:=I5.uh fun p hp=>by
   have e:p=(acc,{ cls:=.type "list",data:=.seq its.toArray kk }):=by simpa using hp
   subst e;exact ⟨ho5,ha5,exC acc List.mem_cons_self,Bq acc List.mem_cons_self,fun v=>by intro z;cases z⟩
  have fpA:∀ {H':Hp},(∀ b∈fp,H' b=none)→∀ b∈fp,vX Y [(acc,{ cls:=.type "list",data:=.seq its.toArray kk })] H' b:=fun hn b hb=>fpY (List.mem_cons_of_mem _ hb) (hn b hb) fun p hp=>by
   have e:p=(acc,{ cls:=.type "list",data:=.seq its.toArray kk }):=by simpa using hp
   subst e;exact (Nat.ne_of_lt (fpl b hb)).symm
  rcases turn i n ys H5 w5 with ⟨stop,qn⟩ | ⟨go,hlt,step⟩
  ·refine iD (T.done Y rfl rfl rfl hc i _ s5 _ H5 (fun _ _=>False) Zg7 (fpA fr5) Zn stop) fun r s6 ⟨hr,I6⟩=>?_;subst hr;obtain ⟨m,hm,_⟩:=I6.loc;have ho6:=(I6.pin (acc,{ cls:=.type "list",data:=.seq its.toArray kk }) (List.mem_append_right _ List.mem_cons_self)).1;exact ⟨m,hm,fin I6 ha5 hv5 hz5 ho6 qn⟩
  ·refine iD (T.item Y rfl rfl rfl hc i _ s5 _ H5 (fun _ _=>False) Zg7 (fpA fr5) Zn go) fun r s6 ⟨u,hr,h6⟩=>?_;subst hr;refine iD h6 fun _ s7 ⟨z,H7,I7,r7,y7,J9,fr7⟩=>?_;have I7':=I7.pinned (fpA fr7) (T.obj _ _ J9);have pg:PG Y (.Name x px) (aO 0):=kZ hnd rfl (.inl (lookup_relabel_local hx)) (.inr (lookup_relabel_local hx));refine iD (pg _ s7 _ H7 z u (fun σ2 H2'=>σ2=some z :: caps.map (pick σ)∧H2'=H7) I7' r7 ⟨rfl,rfl⟩) fun _ s8 ⟨σ8,H8,I8,e8,e8'⟩=>?_;subst e8 e8';refine iD (hf _ _ _ _ _ _ s8 _ H8 _ I8 (step z H8 y7)) fun ok s9 ⟨H9,I9,q9⟩=>?_;have stat:∀ {H':Hp}{s':Shared}{σ':L2.St},Inv Y ([(acc,{ cls:=.type "list",data:=.seq its.toArray kk })] ++ u6 fp s7.heap) σ' H' s'→tn (i + 1) s'.heap∧(∀ b∈fp,H' b=none)∧H' acc=none∧s'.heap.get? acc=some { cls:=.type "list",data:=.seq its.toArray kk }:=fun {H' s' σ'} J=>by
    have pa:=J.pin (acc,{ cls:=.type "list",data:=.seq its.toArray kk }) (List.mem_append_right _ (List.mem_append_left _ List.mem_cons_self));refine ⟨T.keep _ _ _ J9 fun b hb o e=>(J.pin (b,o) (List.mem_append_right _ (List.mem_append_right _ (lY hb e)))).1,fun b hb=>?_,pa.2.1,pa.1⟩;obtain ⟨o,e,d⟩:=T.obj _ _ J9 b hb;exact (J.pin (b,o) (List.mem_append_right _ (List.mem_append_right _ (lY hb e)))).2.1
   have XS:∀ {H':Hp}{s':Shared}{σ':L2.St}{pl:List (Addr×Obj)},Inv Y pl σ' H' s'→Inv Y [] σ' H' s':=fun J=>J.uh fun p hp=>nomatch hp;cases ok with
   | false=>
    obtain ⟨m',hm,w9⟩:=q9;obtain ⟨t1,t2,t3,t4⟩:=stat I9;exact ⟨m',hm,i + 1,some z,ys,its,kk,H9,XS I9,t1,t2,t3,hv5,hz5,t4,w9⟩
   | true=>
    show wpAny _ _ (eval elt Y.env) _ _ s9;refine iD (he _ _ _ _ _ _ s9 _ H9 _ I9 q9) fun y Zo ⟨yv,H10,I10,r10,m',hm,w10⟩=>?_;obtain ⟨t1,t2,t3,t4⟩:=stat I10;have Zpc:Inv Y (u6 fp s7.heap) (some z :: caps.map (pick σ)) H10 Zo:=I10.uh fun p hp=>I10.pin p (List.mem_append_right _ (List.mem_append_right _ hp));have fA:vX Y (u6 fp s7.heap) H10 acc:=fpY List.mem_cons_self t3 fun p hp=>Nat.ne_of_lt (fpl _ (HN hp).1);have Ja:=adopt Zpc fA t4 hv5 hz5;refine iD (jg (X:=Y) _ Zo _ _ (.ref acc) [yv] (.ref acc) [y] (fun _ H'=>H'=upd (upd H10 acc (.lst ys)) acc (.lst (ys ++ [yv]))) Ja rfl (.cons r10 .nil) ⟨acc,ys,yv,rfl,rfl,aq,hlt,rfl⟩) fun _ s11 ⟨_,H11,I11,_,e11⟩=>?_;rw [eF] at e11;subst e11;obtain ⟨Zom,its',kk',Zon,Zoo⟩:=I11.hok acc _ aq;have Jd:=disown I11 fA;have Zmp:tn (i + 1) s11.heap:=T.keep _ _ _ J9 fun b hb o e=>(Jd.pin (b,o) (List.mem_append_right _ (lY hb e))).1;exact ⟨m',hm,i + 1,some z,ys ++ [yv],its',kk',H10,XS Jd,Zmp,t2,t3,Zon,Zom,Zoo,w10⟩
 exact codeAny_compStart_list loop (T.self X.A 0 _ _ _ (T.keep _ _ _ st2 (fun b _ o e=>Qi _ _ (Am _ _ e))) loop)
end G
namespace G
open PySem L2 PySem.Spec PyProof.Rows
theorem HQ {P:Program}{w:World}{H:Hp}{h:Heap}{a:Addr}{o:HO} (x:jQ P w H h a o):∃ ob,h.get? a=some ob:=by
 induction o with
 | lst xs=>obtain ⟨_,_,_,_,e⟩:=x;exact ⟨_,e⟩
 | tup xs=>obtain ⟨_,_,_,ob,e,_⟩:=x;exact ⟨ob,e⟩
 | dK kvs=>obtain ⟨_,_,_,_,ob,_,_,e,_⟩:=x;exact ⟨ob,e⟩
 | dT kvs=>obtain ⟨_,_,_,_,ob,_,_,e,_⟩:=x;exact ⟨ob,e⟩
 | set S n=>obtain ⟨ob,_,_,_,e,_⟩:=x;exact ⟨ob,e⟩
 | ins C dx fs=>obtain ⟨_,_,_,e,_⟩:=x;exact ⟨_,e⟩
 | own y=>exact x
 | xd fs=>obtain ⟨_,⟨ob,_,_,e,_⟩,_⟩:=x;exact ⟨ob,e⟩
 | rng lo hi=>obtain ⟨_,_,_,e⟩:=x;exact ⟨_,e⟩
 | yd ob u ih=>exact ⟨_,x.1⟩
 | Ls ps=>exact ⟨_,x⟩
 | met f y=>exact ⟨_,x⟩
 | ext φ=>obtain ⟨_,e,_⟩:=x;exact e
theorem S6 {P:Program}{w:World}{fs:List Addr}{H0 H1:Hp}{h0 h1 h2:Heap} (u:Un fs [] H0 H1 h0 h1) (ok:yp P w H1 h1) (fr:∀ b∈fs,H1 b=none)
  (kp:∀ b o,h1.get? b=some o→((∃ v,h0.get? b=some v)∨∃ v,H1 b=some v)→b∉fs→h2.get? b=some o) (sl:∀ b o,h1.get? b=some o→b∈fs→∃ z,h2.get? b=some { o with slots:=z }):
  Un fs [] H0 H1 h0 h2∧yp P w H1 h2:=by
 refine ⟨⟨fun b o e n hb hx=>kp b o (u.keep b o e n hb hx) (.inl ⟨o,e⟩) hb,fun b o e n hb hx=>?_,u.free,fun b o e hx=>?_,u.tups,u.Et,u.FJ⟩,fun a o e=>?_⟩
 ·obtain ⟨z,e1⟩:=u.slot b o e n hb hx;obtain ⟨z2,e2⟩:=sl b _ e1 hb;exact ⟨z2,e2⟩
 ·obtain ⟨o',e1⟩:=u.there b o e hx
  by_cases hb:b∈fs
  ·obtain ⟨z,e2⟩:=sl b _ e1 hb;exact ⟨_,e2⟩
  ·exact ⟨o',kp b o' e1 (.inl ⟨o,e⟩) hb⟩
 ·refine (ok a o e).stay (fun b v hb q=>?_) (fun _ q=>q) fun _ _ q=>q;have hs:∃ v,H1 b=some v:=by
   rcases hb with z | z
   ·exact ⟨o,by rw [z];exact e⟩
   ·exact ⟨_,z⟩
  refine kp b v q (.inr hs) fun z=>?_;obtain ⟨v',e'⟩:=hs;rw [fr b z] at e';cases e'
def Kv (P:Program) (w:World):Xa:=fun outer H s E e s'=>
 ∃ (ea:Addr) (cls a0:Value) (B:Heap) (H':Hp),e=.ref ea∧s'.os=s.os∧AllBare s'.gens∧Un (frs outer) [] H H' s.heap s'.heap∧yp P w H' s'.heap∧Heap.FlyingW B outer ea cls a0 s'.heap∧
  (∀ b o,s'.heap.get? b=some o→((∃ v,s.heap.get? b=some v)∨∃ v,H' b=some v)→b∉frs outer→B.get? b=some o)∧E cls none H'
theorem jD {P:Program}{w:World}{X:Cx}:Passes (Kv P w) X E0:=fun _ _ _ _ _ _ _ h=>by
 obtain ⟨_,_,_,_,_,_,_,_,_,_,_,_,z⟩:=h;exact z.elim
section
variable {P:Program}{w:World}{K:aG}{mg:Str→Option Value}{base:Heap}{N:List Str}{qual:Str}{scope:Scope}{f:Addr}{cd:Value}{A:Around}{outer:List Env}{s:Shared}{H:Hp}{E:XK}
theorem Dp:Passes (Kv P w) (Jf (Kv P w) P w K mg base N qual scope f cd A outer s H E) E:=by
 intro pins σ H1 s1 e s2 I h;obtain ⟨ea,cls,a0,B,H2,rfl,os,bare,un,ok,fl,hB,hE⟩:=h;have J:Inv (Jf (Kv P w) P w K mg base N qual scope f cd A outer s H E) pins σ H2 s2:=I.call' os un ok bare (fun b z=>nomatch z);have L0:∀ b o,s.heap.get? b=some o→b≠(envOfC qual scope s.heap.objs.size f cd).locals:=fun b o e=>Nat.ne_of_lt (Nat.lt_of_lt_of_le (Heap.lt_size e) I.ok.above);have nin:∀ b,((∃ v,s.heap.get? b=some v)∨∃ v,H2 b=some v)→b∉frs outer→b∉frs (envOfC qual scope s.heap.objs.size f cd :: outer):=fun b hb hn hm=>by
  rcases List.mem_cons.mp (J.yu b hm) with z | z
  ·rcases hb with ⟨v,e⟩ | ⟨v,e⟩
   ·exact L0 b v e z
   ·rw [z] at e;have:=J.free;rw [e] at this;cases this
  ·exact hn z
 have was:∀ b,((∃ v,s.heap.get? b=some v)∨∃ v,H2 b=some v)→(∃ v,s1.heap.get? b=some v)∨∃ v,H2 b=some v:=fun b hb=>by
  rcases hb with ⟨v,e⟩ | hb
  ·exact .inl (I.base.there b v e (fun z=>nomatch z))
  ·exact .inr hb
 refine wpAny_leaves_onW I.ok.frames rfl fl fun h' fl' sm=>?_;have dat:∀ b o,s2.heap.get? b=some o→b∈frs outer→∀ vs,o.data≠.fields vs:=fun b o e hb=>by
  obtain ⟨_,o',ho',hd⟩:=J.vR.mem hb;rw [e] at ho';cases ho';exact hd
 have inB:∀ b o,s2.heap.get? b=some o→((∃ v,s.heap.get? b=some v)∨∃ v,H2 b=some v)→b∉frs outer→B.get? b=some o:=fun b o e hb hn=>hB b o e (was b hb) (nin b hb hn);have U:=S6 (P:=P) (w:=w) (h2:=h') J.base J.hok (fun b hb=>by
   obtain ⟨_,o,ho,_⟩:=J.ok.vR.mem hb;exact J.base.free b o ho (J.ok.frf b hb) (fun z=>nomatch z)) (fun b o e hb hn=>fl'.1 _ _ (inB b o e hb hn)) fun b o e hb=>sm b o e (dat b o e hb)
 refine ⟨ea,cls,a0,B,H2,rfl,J.os,J.bare,U.1,U.2,fl',fun b o e hb hn=>?_,hE⟩;have there:∃ v,s2.heap.get? b=some v:=by
  rcases hb with ⟨v,z⟩ | ⟨v,z⟩
  ·exact J.base.there b v z (fun z=>nomatch z)
  ·exact HQ (J.hok b v z)
 obtain ⟨v,z⟩:=there;have q:=inB b v z hb hn;have:=fl'.1 _ _ q;rw [e] at this;cases this;exact q
theorem Ul {pins:List (Addr×Obj)}{σ:L2.St}{H1:Hp}{s1:Shared}{C e:Addr}{vs:List Value}{h1:Heap} (I:Inv (Jf (Kv P w) P w K mg base N qual scope f cd A outer s H E) pins σ H1 s1)
  (hx:Heap.MadeExcOf s1.heap h1 e (.ref C) vs) (hE:E (.ref C) none H1):(Jf (Kv P w) P w K mg base N qual scope f cd A outer s H E).xe (.ref e) { s1 with heap:=h1 }:=by
 have L0:∀ b o,s.heap.get? b=some o→b≠(envOfC qual scope s.heap.objs.size f cd).locals:=fun b o e=>Nat.ne_of_lt (Nat.lt_of_lt_of_le (Heap.lt_size e) I.ok.above);have nin:∀ b,((∃ v,s.heap.get? b=some v)∨∃ v,H1 b=some v)→b∉frs outer→b∉frs (envOfC qual scope s.heap.objs.size f cd :: outer):=fun b hb hn hm=>by
  rcases List.mem_cons.mp (I.yu b hm) with z | z
  ·rcases hb with ⟨v,e⟩ | ⟨v,e⟩
   ·exact L0 b v e z
   ·rw [z] at e;have:=I.free;rw [e] at this;cases this
  ·exact hn z
 have fh:s1.heap.FunFrames (PySem.W.hideAll s1.heap (frs (envOfC qual scope s.heap.objs.size f cd :: outer))) (envOfC qual scope s.heap.objs.size f cd :: outer):=
  PySem.W.funFrames_hide I.stack fun env he b hb=>List.mem_filterMap.mpr ⟨env,he,hb⟩
 refine wpAny_leaves_madeW (s:={ s1 with heap:=h1 }) I.ok.frames rfl (fun b o q=>PySem.W.of_hideAll _ q) fh hx fun h' t fl _ _ sm=>?_;have inB:∀ b o,s1.heap.get? b=some o→((∃ v,s.heap.get? b=some v)∨∃ v,H1 b=some v)→b∉frs outer→(PySem.W.hideAll s1.heap (frs (envOfC qual scope s.heap.objs.size f cd :: outer))).get? b=some o:=
  fun b o e hb hn=>PySem.W.hideAll_get _ e (nin b hb hn)
 have dat:∀ b o,s1.heap.get? b=some o→b∈frs outer→∀ vs,o.data≠.fields vs:=fun b o e hb=>by
  obtain ⟨_,o',ho',hd⟩:=I.vR.mem hb;rw [e] at ho';cases ho';exact hd
 have U:=S6 (P:=P) (w:=w) (h2:=h') I.base I.hok (fun b hb=>by
   obtain ⟨_,o,ho,_⟩:=I.ok.vR.mem hb;exact I.base.free b o ho (I.ok.frf b hb) (fun z=>nomatch z)) (fun b o e hb hn=>fl.1 _ _ (inB b o e hb hn)) fun b o e hb=>sm b o (hx.keeps b o e) (dat b o e hb)
 refine ⟨e,.ref C,.ref t,_,H1,rfl,I.os,I.bare,U.1,U.2,fl,fun b o q hb hn=>?_,hE⟩;have there:∃ v,s1.heap.get? b=some v:=by
  rcases hb with ⟨v,z⟩ | ⟨v,z⟩
  ·exact I.base.there b v z (fun z=>nomatch z)
  ·exact HQ (I.hok b v z)
 obtain ⟨v,z⟩:=there;have q2:=inB b v z hb hn;have:=fl.1 _ _ q2;rw [q] at this;cases this;exact q2
end
abbrev Ziw (K:aG) (C:Addr):Prop:=PySem.W.excIn K C [.type "ValueError",.type "Exception",.type "BaseException",.type "object"] "ValueError.__new__"=true
theorem Zlm {K:aG}{h:Heap}{C:Addr}{ms:List Value}{ni:String} (X:K.In h) (q:PySem.W.excIn K C ms ni=true):
  ∃ tl N nm ql bs hd sn sub ab col dd j0 j1 j2 j3 j5 mN,h.get? C=some (excClassObj nm ql C N bs tl hd sn sub ab col dd j0 j1 j2 j3 j5 ni)∧h.Ns N mN∧mN "__init__"=none∧OwnTail h ms tl:=by
 unfold PySem.W.excIn at q;split at q
 ·rename_i dd Zzf slots hob
  split at q
  ·rename_i C2 tl j0 j1 j2 j3 n2 j5 em es
   simp only [Bool.and_eq_true,beq_iff_eq,Bool.not_eq_true'] at q;obtain ⟨⟨⟨⟨⟨e1,e2⟩,e3⟩,e4⟩,e5⟩,e6⟩:=q;subst e1 e2;obtain ⟨c1,c2,c3,c4,c5,c6,c7,c8,c9,c10,c11⟩:=Zzf;dsimp only at em e3 e5 e6;subst em e3;have Zox:slots=#[j0,j1,j2,j3,some (.builtin n2),j5]:=by
    obtain ⟨ls⟩:=slots;simp only at es;rw [es]
   subst Zox;refine ⟨tl,c4,c1,c5,c2,c6,c7,c8,c9,c10,dd,j0,j1,j2,j3,j5,h.nsMap c4,X _ _ hob,?_,PySem.W.nsMap_none_of_in X e5 e6,PySem.W.tail_of_in X e4⟩;exact .of_isNs (PySem.W.isNs_of_in X e5)
  ·cases q
 ·cases q
section
variable {X:Cx}{x:Str}{C:Addr}{np cpos pos:Pos}{e:Expr}{es:List Expr}{ta:TA}{E:XK}
theorem Dl (hc:X.calm=true) (hg:Gl X x) (hm:X.mg x=some (.ref C)) (hx:Ziw X.K C) (ha:PA X (e :: es) ta)
  (hE:∀ (pins:List (Addr×Obj)) (σ:L2.St) (H:Hp) (s:Shared) (ea:Addr) (vs:List Value) (h1:Heap),Inv X pins σ H s→Heap.MadeExcOf s.heap h1 ea (.ref C) vs→E (.ref C) none H→X.xe (.ref ea) { s with heap:=h1 })
  (hs:starEach (e :: es) X.env=(false,eval e X.env) :: starEach es X.env:=by rfl) (hpl:(backTo cpos (starEach es X.env)).any (·.1)=false:=by rfl) (hd:(x == ("__debug__":Str))=false:=by decide):
  PS X (.Raise (some (.Call (.Name x np) (e :: es) [] cpos)) none pos) (FP C E ta):=by
 intro pins s σ H D I h;obtain ⟨tl,N,nm,ql,bs,hdd,sn,sub,ab,col,dd,j0,j1,j2,j3,j5,mN,hC,hN,hni,T⟩:=Zlm I.ok.mod.kin hx;refine wpAny_Raise_call_subT (C:=C) (nm:=nm) (q:=ql) (N:=N) (bs:=bs) (bm:=tl) (hdct:=hdd) (sn:=sn) (sub:=sub) (ab:=ab) (col:=col) (dd:=dd) (k0:=j0) (k1:=j1) (k2:=j2) (k3:=j3) (k5:=j5) PySem.F.excBase_ValueError (mN:=mN)
  (T.hasType PySem.F.excBase_ValueError.hasBase) (I.ok.hd hc) ?_ hni (jA I hg hm ⟨rfl,?_⟩ hd)
 ·rw [hs];show (false || (backTo cpos (starEach es X.env)).any (·.1))=false;rw [hpl];rfl
 ·have q:=ha cpos pins s σ H _ I h;rw [hs] at q ⊢;refine Calls.evalArgs_plain (iD q fun us s1 ⟨vs,H1,I1,r,l1,hE1⟩=>⟨rfl,?_,I1.bk _ _ hC,hN.keeps I1.bk,T.keeps I1.bk,fun h1 ea hmade=>hE pins σ H1 s1 ea _ h1 I1 hmade hE1⟩);rw [← r.length];exact Nat.le_trans l1 (by decide)
end
end G
namespace G
open PySem L2 PySem.Spec PyProof.Rows
def Zd8 (CX:Xa) (X:Cx) (E:L2.St→XK):Prop:=∀ (pins:List (Addr×Obj)) (σ:L2.St) (H:Hp) (s:Shared) (e:Value) (s':Shared),Inv X pins σ H s→CX X.stack H s (E σ) e s'→X.xe e s'
section
variable {X:Cx}{CX:Xa}{k:Nat}{f C:Addr}{fd:FuncData}{ps:List Str}{sp:Sp}{tZ:List V}{ds:List Value}{E:L2.St→XK}{x m:Str}{p pos apos:Pos}{e o:Expr}{es:List Expr}{ta:TE}{t:TA}
theorem Zjk {pins:List (Addr×Obj)}{σ:L2.St}{H:Hp}{s:Shared}{Q:VK}{us:List Value}{vs:List V} (F:qP X.prog X.w X.K X.mg X.base CX k f fd ps sp) (hr:Room k X.A) (hb:Binds X.K fd ps ds) (hd:Vals tZ ds) (hx:Zd8 CX X E)
  (I:Inv X pins σ H s) (r:Vals vs us) (h:sp (vs ++ tZ) H Q (E σ)):wpAny (model X.prog X.w) X.A (call (.ref f) us) (EP X pins σ Q) X.xe s:=by
 have r2:Vals (vs ++ tZ) (us ++ ds):=r.append hd;have hl:(us ++ ds).length=ps.length:=by rw [← r2.length];exact F.len _ _ _ _ h
 refine wpAny_call (codeAny_mono (F.run X.A X.stack s H ⟨us,[]⟩ (us ++ ds) (vs ++ tZ) Q (E σ) hr I.env0 (hb s us I.ux hl) r2 h) fun r s' hq=>?_);cases r with
 | error e=>exact hx pins σ H s e s' I hq
 | ok fl=>
  cases fl with
  | ret u=>exact I.after hq
  | next=>exact False.elim hq
  | brk=>exact False.elim hq
  | cont=>exact False.elim hq
theorem Zge (F:qP X.prog X.w X.K X.mg X.base CX k f fd ps sp) (hr:Room k X.A) (hg:Gl X x) (hm:X.mg x=some (.ref f)) (hk:PySem.W.keepIn X.K (.ref f)=true) (hb:Binds X.K fd ps ds) (hd:Vals tZ ds) (hx:Zd8 CX X E)
  (ha:PA X (e :: es) t) (hdb:(x == ("__debug__":Str))=false:=by decide) (he:starEach (e :: es) X.env=(false,eval e X.env) :: starEach es X.env:=by rfl) (hpl:(backTo pos (starEach es X.env)).any (·.1)=false:=by rfl):
  PE X (.Call (.Name x p) (e :: es) [] pos) (ZC sp tZ E t):=by
 intro pins s σ H Q I h;refine wpAny_Call_Name_kw (jA I hg hm ?_ hdb);refine PySem.W.callWith_K (h₀:=X.base) I.ok.mod.kin hk (iD (ha pos pins s σ H _ I h) fun us s1 ⟨vs,H1,I1,r,q⟩=>⟨I1.ux,?_⟩) he hpl;exact Zjk F hr hb hd hx I1 r q
end
abbrev cxB (X:Cx) (pn:List (Addr×Obj)) (xe:Value→Shared→Prop):Cx:={ X with pn:=pn,xe:=xe }
abbrev Xd (X:Cx) (ea:Value) (pn:List (Addr×Obj)):Cx:={ X with A:=X.A.mark (some ea),calm:=false,pn:=pn,xe:=fun _ _=>False }
section
variable {X:Cx}{pins:List (Addr×Obj)}{σ:L2.St}{H:Hp}{s:Shared}
theorem Zna (ok:X.Ok) (pn:List (Addr×Obj)) (xe:Value→Shared→Prop):(cxB X pn xe).Ok:=
 ⟨ok.mod,ok.kind,ok.glob,ok.blt,ok.above,ok.inj,ok.has,ok.cab,ok.hd,ok.frames,ok.stk,ok.exf,ok.bs,ok.bsz,ok.Qa,ok.YG,ok.vR,ok.frf⟩
theorem Zn9 (ok:X.Ok) (ea:Value) (pn:List (Addr×Obj)):(Xd X ea pn).Ok:=
 ⟨ok.mod,ok.kind,ok.glob,ok.blt,ok.above,ok.inj,ok.has,ok.cab,fun z=>(nomatch z),ok.frames,ok.stk,ok.exf,ok.bs,ok.bsz,ok.Qa,ok.YG,ok.vR,ok.frf⟩
theorem Zmj (I:Inv X pins σ H s) (xe:Value→Shared→Prop):Inv (cxB X (X.pn ++ pins) xe) [] σ H s:=
 ⟨Zna I.ok _ _,I.os,I.bare,I.base,I.loc,I.cell,I.free,I.qL,fun p hp=>I.pin p (by simpa using hp),I.hok,I.len⟩
theorem M5 {xe:Value→Shared→Prop}{pl:List (Addr×Obj)} (ok:X.Ok) (I:Inv (cxB X (X.pn ++ pins) xe) pl σ H s):Inv X pins σ H s:=
 ⟨ok,I.os,I.bare,I.base,I.loc,I.cell,I.free,I.qL,fun p hp=>I.pin p (List.mem_append_left _ hp),I.hok,I.len⟩
theorem oR (I:Inv X pins σ H s) (ea:Value):Inv (Xd X ea (X.pn ++ pins)) [] σ H s:=
 ⟨Zn9 I.ok _ _,I.os,I.bare,I.base,I.loc,I.cell,I.free,I.qL,fun p hp=>I.pin p (by simpa using hp),I.hok,I.len⟩
theorem U9 {ea:Value}{pl:List (Addr×Obj)} (ok:X.Ok) (I:Inv (Xd X ea (X.pn ++ pins)) pl σ H s):Inv X pins σ H s:=
 ⟨ok,I.os,I.bare,I.base,I.loc,I.cell,I.free,I.qL,fun p hp=>I.pin p (List.mem_append_left _ hp),I.hok,I.len⟩
theorem Zmq {xe:Value→Shared→Prop}{D:Ends}{f:Flow} (ok:X.Ok) (h:SP (cxB X (X.pn ++ pins) xe) [] D f s):SP X pins D f s:=by
 cases f with
 | next=>obtain ⟨σ',H',I,q⟩:=h;exact ⟨σ',H',M5 ok I,q⟩
 | brk=>obtain ⟨σ',H',I,q⟩:=h;exact ⟨σ',H',M5 ok I,q⟩
 | cont=>obtain ⟨σ',H',I,q⟩:=h;exact ⟨σ',H',M5 ok I,q⟩
 | ret u=>obtain ⟨v,σ',H',I,r,q⟩:=h;exact ⟨v,σ',H',M5 ok I,r,q⟩
theorem Tc {ea:Value}{D:Ends}{f:Flow} (ok:X.Ok) (h:SP (Xd X ea (X.pn ++ pins)) [] D f s):SP X pins D f s:=by
 cases f with
 | next=>obtain ⟨σ',H',I,q⟩:=h;exact ⟨σ',H',U9 ok I,q⟩
 | brk=>obtain ⟨σ',H',I,q⟩:=h;exact ⟨σ',H',U9 ok I,q⟩
 | cont=>obtain ⟨σ',H',I,q⟩:=h;exact ⟨σ',H',U9 ok I,q⟩
 | ret u=>obtain ⟨v,σ',H',I,r,q⟩:=h;exact ⟨v,σ',H',U9 ok I,r,q⟩
theorem flown {ea:Addr}{cls a0:Value}{B:Heap}{H2:Hp}{s2:Shared}{h3:Heap} (I:Inv X pins σ H s) (os:s2.os=s.os) (bare:AllBare s2.gens) (un:Un (frs X.stack) [] H H2 s.heap s2.heap) (ok:yp X.prog X.w H2 s2.heap)
  (fl:Heap.FlyingW B X.stack ea cls a0 s2.heap) (hB:∀ b o,s2.heap.get? b=some o→((∃ v,s.heap.get? b=some v)∨∃ v,H2 b=some v)→b∉frs X.stack→B.get? b=some o)
  (st:B.StaysIn h3) (sm:s2.heap.UpToSlots h3):Inv X pins σ H2 { s2 with heap:=h3 }:=by
 have fr:∀ b∈frs X.stack,H2 b=none:=fun b hb=>by
  obtain ⟨_,o,ho,_⟩:=I.stack.mem hb;exact un.free b o ho (I.Kz b hb) (fun z=>nomatch z)
 have U:=S6 (P:=X.prog) (w:=X.w) (h2:=h3) un ok fr (fun b o e hb hn=>st _ _ (hB b o e hb hn)) fun b o e hb=>by
  obtain ⟨_,o',ho',hd⟩:=fl.2.2.1.mem hb;rw [e] at ho';cases ho';exact sm b o e hd
 exact I.call' (s':={ s2 with heap:=h3 }) (ch:=[]) os U.1 U.2 bare (fun b z=>nomatch z)
end
section
variable {X:Cx}{x:Str}{C:Addr}{np pos hpos:Pos}{body suite:List Stmt}{b₀:Stmt}{Mt:Value→Prop}{tb:(L2.St→XK)→TS}{th:TS}
end
end G
namespace G
open PySem L2 PySem.Spec PyProof.Rows
section
variable {P:Program}{w:World}{K:aG}{mg:Str→Option Value}{base:Heap}{x qual:Str}{st:Stmt}{f:Addr}{fd:FuncData}{N ps:List Str}{k:Nat}{sp:Sp}
theorem fok (F:jY K x qual st f fd) (S:aU N ps (aJ st)) (len:∀ vs H Q E,sp vs H Q E→vs.length=ps.length)
  (hbody:∀ (cdv:Value) (A:Around) (outer:List Env) (s:Shared) (H:Hp) (vs:List V) (Q:VK) (E:XK),Room k (A.deeper (envOfC qual (aJ st) s.heap.objs.size f cdv))→sp vs H Q E→
   ∃ t,SQ (Jf (Kv P w) P w K mg base N qual (aJ st) f cdv A outer s H E).nox (iI st) t∧t { nx:=fun _ H'=>Q .non H',rt:=Q } (start N vs) H):qP P w K mg base (Kv P w) (k + 1) f fd ps sp:=by
 obtain ⟨oc,od,kV,doc,pm,an,cdv,ct,osl,rfl,lk,hcd⟩:=F.ex;refine Zi7 lk hcd S len fun A outer s H vs Q E hr hsp=>?_;obtain ⟨t,h,q⟩:=hbody cdv A outer s H vs Q E hr hsp;exact ⟨t,h.nox,q⟩
theorem Zze (F:jY K x qual st f fd) (S:aU N ps (aJ st)) (len:∀ vs H Q E,sp vs H Q E→vs.length=ps.length)
  (hbody:∀ (cdv:Value) (A:Around) (outer:List Env) (s:Shared) (H:Hp) (vs:List V) (Q:VK) (E:XK),Room k (A.deeper (envOfC qual (aJ st) s.heap.objs.size f cdv))→sp vs H Q E→
   ∃ t,SQ (Jf (Kv P w) P w K mg base N qual (aJ st) f cdv A outer s H E) (iI st) t∧t { nx:=fun _ H'=>Q .non H',rt:=Q } (start N vs) H):qP P w K mg base (Kv P w) (k + 1) f fd ps sp:=by
 obtain ⟨oc,od,kV,doc,pm,an,cdv,ct,osl,rfl,lk,hcd⟩:=F.ex;exact Zi7 lk hcd S len fun A outer s H vs Q E hr hsp=>hbody cdv A outer s H vs Q E hr hsp
theorem Zr9 (F:Zpg K x qual st f fd) (S:aU N ps (aJ st)) (len:∀ vs H Q E,sp vs H Q E→vs.length=ps.length)
  (hbody:∀ (cdv:Value) (A:Around) (outer:List Env) (s:Shared) (H:Hp) (vs:List V) (Q:VK) (E:XK),Room k (A.deeper (envOfC qual (aJ st) s.heap.objs.size f cdv))→sp vs H Q E→
   ∃ t,SQ (Jf (Kv P w) P w K mg base N qual (aJ st) f cdv A outer s H E) (iI st) t∧t { nx:=fun _ H'=>Q .non H',rt:=Q } (start N vs) H):qP P w K mg base (Kv P w) (k + 1) f fd ps sp:=by
 obtain ⟨oc,od,dV,kV,doc,pm,an,cdv,ct,osl,rfl,lk,hcd⟩:=F.ex;exact Zi7 lk hcd S len fun A outer s H vs Q E hr hsp=>hbody cdv A outer s H vs Q E hr hsp
end
end G
namespace G
open PySem L2 PySem.Spec PyProof.Rows
structure Zzv (K:aG) (C:Addr):Prop where
 ga:PySem.W.findIn K (.ref C) "__getattribute__"=some (some (.builtin "BaseException.__getattribute__"))
 no:PySem.W.findIn K (.ref C) "__getattr__"=some none
 cl:PySem.W.findIn K (.ref C) "__class__"=some (some (.builtin "object.__class__"))
 so:PySem.W.mroIn K C (.type "object")=some true
 sb:PySem.W.mroIn K C (.type "BaseException")=some true
 is:PySem.W.hasDictIn K C=true
section
variable {prog:Program}{w:World}{A:Around}{E:Value→Shared→Prop}{h:Heap}{g:Array GenState}{d:Drawn}{t:Nat}{os:OsState}{a:Addr}{o:Obj}{C:Addr}{K:aG}
end
section
variable {X:Cx}
theorem Zc3:Ot X (.type "list") (Zc4 X.K):=by
 intro pins s σ H xs us Q I r h;obtain ⟨p,ys,rfl,hs,q⟩:=h;exact Wn pins s σ H [.ref p] us Q I r ⟨p,ys,rfl,.inl hs,q⟩
end
end G
namespace G
open PySem L2 PySem.Spec PyProof.Rows
theorem Zgo:fastBuiltinMro "NoneType"=some [.type "NoneType",.type "object"]:=by decide +kernel
section
variable {K:aG}{A:Around}{a C:Addr}{o:Obj}
theorem Zoy {M:Model}{E:Value→Shared→Prop}{s:Shared}{Q:Unit→Shared→Prop} (LI:PySem.W.Looks M s.heap (isInstance (.ref a) (.type "object")) true) (hq:Q () s):wpAny M A (checkBuiltinCall "object.__eq__" ⟨[.ref a,.none],[]⟩) Q E s:=by
 have ha:=PySem.F.cmpArgs_eq (.ref a) .none;simp only [checkBuiltinCall,PySem.F.cmpKind_eq,PySem.F.cmpSplit_eq];refine wpAny_bind (LI.here ?_);simp only [Bool.not_true,Bool.false_eq_true,if_false];cases hsig:Manifest.signature? "object.__eq__" with
 | none=>exact wpAny_pure hq
 | some sig=>
  simp only [argsOk,hsig] at ha;have h2:Bind.checkArgs "object.__eq__" sig ⟨[.ref a,.none],[]⟩=pure ():=ha;show wpAny M A (Bind.checkArgs "object.__eq__" sig ⟨[.ref a,.none],[]⟩) Q E _;rw [h2];exact wpAny_pure hq
theorem Zlo {prog:Program}{w:World}{E:Value→Shared→Prop}{s:Shared}{Q:Value→Shared→Prop} (LI:PySem.W.Looks (model prog w) s.heap (isInstance (.ref a) (.type "object")) true) (hq:Q .notImplemented s):
  wpAny (model prog w) A (call (.builtin "object.__eq__") [.ref a,.none]) Q E s:=by
 refine wpAny_call (codeAny_call_builtin PySem.F.cmp_object.eq.plain PySem.F.cmpEntry_eq (Zoy LI ?_));obtain ⟨h,g,d,t,os⟩:=s;unfold Builtin.«object.__eq__»
 repeat (first | with_reducible refine wpAny_bind (m:=isSame (.ref a) .none) (wpAny_pure ?_) | wp_step)
 exact hq
theorem Zmi {prog:Program}{w:World}{E:Value→Shared→Prop}{s:Shared}{Q:Option Value→Shared→Prop} (X:K.In s.heap) (hx:s.heap.get? a=some o) (hc:o.cls=.ref C) (hE:EqD K C) (hq:Q none s):
  wpAny (model prog w) A (tryCompare (.ref a) "__eq__" .none) Q E s:=by
 have LT:PySem.W.Looks (model prog w) s.heap (typeOf (.ref a)) (.ref C):=hc ▸ (PySem.W.Looks.ld hx).andThen .now;have LI:PySem.W.Looks (model prog w) s.heap (isInstance (.ref a) (.type "object")) true:=LT.andThen (PySem.W.looks_mroIn X hE.ob);have LS:PySem.W.Looks (model prog w) s.heap (specialOf (.ref a) "__eq__") (some (.builtin "object.__eq__")):=LT.andThen (PySem.W.looks_findIn X hE.eq);simp only [tryCompare];refine wpAny_bind ?_;simp only [callSpecialIfBound?,bindSpecialIfBound?];refine wpAny_holding (wpAny_bind (wpAny_bind (LS.here ?_)));simp only [PySem.F.cmp_object.eq.bind];have fin:wpAny (model prog w) A (call (.builtin "object.__eq__") ([.ref a] ++ [.none]) >>= fun v=>pure (some v)) (fun r s'=>wpAny (model prog w) A (match r with | some .notImplemented | none=>pure none | some v=>pure (some v)) Q E s') E s:=
  wpAny_bind (Zlo LI (wpAny_pure (wpAny_pure hq)))
 refine wpAny_bind (wpAny_askSetting (wpAny_ite ?_));split
 ·exact wpAny_bind (wpAny_pure (wpAny_pure fin))
 ·exact wpAny_tryCatch (wpAny_bind (wpAny_pure (wpAny_pure fin)))
theorem Zjl {s:Shared} (X:K.In s.heap) (hx:s.heap.get? a=some o) (hc:o.cls=.ref C) (hE:EqD K C) (hu:A.units < cLine):SeqAt.RcAt A s (.ref a) .none false:=fun prog w E Q h=>by
 have LT:PySem.W.Looks (model prog w) s.heap (typeOf (.ref a)) (.ref C):=hc ▸ (PySem.W.Looks.ld hx).andThen .now;have hi:cmpInfo CmpOp.Eq=("==",("__eq__":Str),("__eq__":Str)):=rfl;have ho:oneThing? .Eq (.ref a) .none=none:=rfl;simp only [richCompare,hi,ho]
 try with_reducible refine wpAny_holding ?_
 refine wpAny_bind (wpAny_cRoomFor_or (.inr hu) ?_);refine wpAny_bind (LT.here (wpAny_bind (m:=typeOf .none) (wpAny_pure ?_)));have hne:(Value.ref C != Value.type "NoneType")=true:=by simp
 simp only [hne,if_true];have hs:isSubtype (.type "NoneType") (.ref C)=pure false:=by
  rw [isSubtype_type,Zgo];rfl
 refine wpAny_bind (wpAny_of_eq hs ?_);simp only [Bool.false_eq_true,if_false,Bool.not_false,if_true];refine wpAny_bind (m:=tryCompare (.ref a) _ .none) (Zmi X hx hc hE ?_);refine wpAny_bind (m:=tryCompare .none _ (.ref a)) (wpAny_tryCompare_declines (T:="NoneType") rfl PySem.F.slot_NoneType_eq_refl (call_gives PySem.F.slot_NoneType_eq_refl rfl PySem.F.entry_NoneType_eq (PySem.F.args_NoneType_eq_2 _ _) (SeqAt.NoneType___eq___none_ref_0 a) ⟨rfl,?_⟩));exact wpAny_bind (wpAny_rule (wpAny_bind (wpAny_of_eq (rfl:isSame (.ref a) .none=pure false) (wpAny_pure h))))
theorem Zln {s:Shared} (X:K.In s.heap) (hx:s.heap.get? a=some o) (hc:o.cls=.ref C) (hE:EqD K C) (hu:A.units < cLine):SeqAt.EqAt A s (.ref a) .none false:=fun prog w E Q h=>by
 unfold eqBool;refine wpAny_holding ?_;refine wpAny_ite_split (fun hab=>absurd (eq_of_beq hab) nofun) (fun _=>?_);exact wpAny_bind (Zjl X hx hc hE hu prog w E _ (wpAny_truthy_bool h))
end
section
variable {X:Cx}
def zz (u:Value):Bool:=match u with
 | .none=>true
 | _=>false
theorem X5 {H:Hp}{y:V}{u:Value} (r:RelV y u) (h:y=.non∨∃ a C dx fs,y=.ref a∧H a=some (.ins C dx fs)∧Bo X.K C∧EqD X.K C):zz u=decide (y=.non):=by
 rcases h with rfl | ⟨a,_,_,_,rfl,_⟩
 ·obtain rfl:u=Value.none:=r;rfl
 ·obtain rfl:u=Value.ref a:=r;rfl
theorem Zgp {pins:List (Addr×Obj)}{σ:L2.St}{H:Hp}{s:Shared}{A:Around}{y:V}{u:Value} (I:Inv X pins σ H s) (hu:A.units < cLine) (r:RelV y u) (h:y=.non∨∃ a C dx fs,y=.ref a∧H a=some (.ins C dx fs)∧Bo X.K C∧EqD X.K C):SeqAt.EqAt A s u .none (zz u):=by
 rcases h with rfl | ⟨a,C,dx,fs,rfl,ha,hc,he⟩
 ·obtain rfl:u=Value.none:=r;exact SeqAt.EqAt.same .none
 ·obtain rfl:u=Value.ref a:=r;obtain ⟨_,_,_,e,_⟩:=(show jQ X.prog X.w H s.heap a (.ins C dx fs) from I.hok a _ ha);exact Zln I.ux e rfl he hu
theorem X4 {H:Hp}:∀ {xs:List V}{us:List Value},Vals xs us→OkN X.K H xs→us.any zz=decide (V.non∈xs)
 | _,_,.nil,_=>rfl
 | y :: xs,u :: us,.cons r t,h=>by
  rw [List.any_cons,X4 t fun z hz=>h z (List.mem_cons_of_mem _ hz),X5 r (h y List.mem_cons_self),Bool.eq_iff_iff];simp only [Bool.or_eq_true,decide_eq_true_eq,List.mem_cons];constructor
  ·rintro (z | z)
   ·exact .inl z.symm
   ·exact .inr z
  ·rintro (z | z)
   ·exact .inl z.symm
   ·exact .inr z
theorem XX {H:Hp}{pins:List (Addr×Obj)}{σ:L2.St}{s:Shared}{A:Around}{xs:List V}{us:List Value} (I:Inv X pins σ H s) (hu:A.units < cLine) (r:Vals xs us) (h:OkN X.K H xs):∀ u∈us,SeqAt.EqAt A s u .none (zz u):=by
 intro u hm;obtain ⟨i,hi,rfl⟩:=List.getElem_of_mem hm;have hl:=r.length;have hx:xs[i]? =some xs[i]:=bO (by omega);obtain ⟨u',e,ru⟩:=r.get hx;rw [bO hi] at e;cases e;exact Zgp I hu ru (h _ (List.getElem_mem (by omega)))
theorem Ze1 (hu:X.A.units + 1 < cLine):ym X (compareOp .NotIn) (Zmw X.K true):=by
 intro pins s σ H x y v u Q I rx ry h;obtain ⟨p,xs,rfl,rfl,hs,hk,q⟩:=h;obtain rfl:v=Value.none:=rx;cases ry;obtain ⟨us,r,pl,_⟩:=I.list hs;refine SeqAt.notIn_listAt zz pl.isList (fun w hw=>XX I (by show X.A.units + 1 < cLine;exact hu) r hk w (by simpa using hw)) ⟨.bl _,H,I,rfl,?_⟩;rw [show us.toArray.any zz=us.any zz by simp,X4 r hk];exact q
theorem X3 {H:Hp}{xs:List V}{us:List Value} (r:Vals xs us) (h:OkN X.K H xs) (j:Nat) (hj:j < us.length) (hj':j < xs.length):zz us[j]=decide (xs[j]=V.non):=by
 obtain ⟨u',e,ru⟩:=r.get (bO hj');rw [bO hj] at e;cases e;exact X5 ru (h _ (List.getElem_mem hj'))
theorem Ze9 (hu:X.A.units + 1 < cLine):MtR X "list.index" (Zcf X.K):=by
 intro pins s σ H x xs v us Q I rx rs h;obtain ⟨p,ys,rfl,rfl,hs,hk,hn,q⟩:=h;obtain rfl:v=Value.ref p:=rx;obtain ⟨u,rfl,ru⟩:=Vals.one rs;obtain rfl:u=Value.none:=ru;obtain ⟨ws,r,pl,hz⟩:=I.list hs;obtain ⟨⟨cls,dd,data,sl⟩,ho,hc,n,hd⟩:=pl.isList;simp only at hc hd;subst hc hd;have hl:=r.length;have hj:ys.idxOf V.non < ys.length:=List.idxOf_lt_length_iff.mpr hn;have hz2:ys.length < 2 ^ 62:=Nat.lt_of_le_of_lt hz (by decide);refine call_meets PySem.F.slot_list_index ⟨_,ho,rfl⟩ PySem.F.entry_list_index (PySem.F.args_list_index_2 _ _)
  (SeqAt.list_indexAt p ws.toArray n dd sl .none zz (ys.idxOf V.non) (by simpa [hl] using hj) (by omega) ?_ ?_) ⟨ho,fun y hy=>XX I (by show X.A.units + 1 < cLine;exact hu) r hk y (by simpa using hy),⟨.int _,H,I.tok _,⟨_,rfl⟩,q⟩⟩
 ·show zz ws[ys.idxOf V.non]=true;rw [X3 r hk _ (by omega) hj,decide_eq_true_eq];exact List.getElem_idxOf hj
 ·intro j hjs hlt;show zz ws[j]=false;rw [X3 r hk j (by simpa using hjs) (by omega),decide_eq_false_iff_not];intro e;have:=List.not_of_lt_findIdx (p:=(· == V.non)) (xs:=ys) hlt;simp [e] at this
end
end G
namespace G
open PySem L2
def Zdu:R2:=fun x y H Q=>∃ b,y=.bl b∧Q (.bl (decide (x=.bl b))) H
theorem Zql {x:V}{b:Bool}{H:Hp}{Q:VK} (h:Q (.bl (decide (x=.bl b))) H):Zdu x (.bl b) H Q:=⟨b,rfl,h⟩
def Ly (C:Addr):TE:=fun _ H Q=>∀ x dx,H x=none→H dx=none→dx≠x→Q (.ref x) (upd (upd H dx (.own x)) x (.ins C dx []))
theorem Zl1 {C:Addr}{σ:St}{H:Hp}{Q:VK} (h:∀ x dx,H x=none→H dx=none→dx≠x→Q (.ref x) (upd (upd H dx (.own x)) x (.ins C dx []))):Ly C σ H Q:=h
def Zy (t u:TE):TE:=fun σ H Q=>t σ H Q∨u σ H Q
theorem Zcu {t u:TE}{σ:St}{H:Hp}{Q:VK} (h:t σ H Q):Zy t u σ H Q:=.inl h
theorem R1 {t u:TE}{σ:St}{H:Hp}{Q:VK} (h:u σ H Q):Zy t u σ H Q:=.inr h
end G
namespace G
open PySem L2 PySem.Spec PyProof.Rows
section
variable {X:Cx}
theorem zx:ym X (compareOp .Is) Zdu:=by
 intro pins s σ H x y v u Q I rx ry h;obtain ⟨b,rfl,q⟩:=h;cases ry;cases x with
 | bl c=>
  cases rx;refine wpAny_is_plain rfl (di I q ?_);cases b<;>cases c<;>rfl
 | non=>cases rx;exact wpAny_is_plain rfl (di I q rfl)
 | ref a=>cases rx;exact wpAny_is_plain rfl (di I q rfl)
 | ty a=>cases rx;exact wpAny_is_plain rfl (di I q rfl)
 | _=>obtain ⟨t,rfl⟩:=rx;exact wpAny_is_plain rfl (di I q rfl)
theorem KC {e:Expr}{t u:TE} (h1:PE X e t) (h2:PE X e u):PE X e (Zy t u):=by
 intro pins s σ H Q I h;rcases h with h | h
 ·exact h1 pins s σ H Q I h
 ·exact h2 pins s σ H Q I h
structure Mk0 (K:aG) (C:Addr):Prop where
 makes:PySem.W.makesIn K C=true
 init:PySem.W.findIn K (.ref C) "__init__"=some (some (.builtin "object.__init__"))
 kp:PySem.W.keepIn K (.ref C)=true
theorem Za4 {C:Addr}{pins:List (Addr×Obj)}{σ:L2.St}{H:Hp}{s:Shared}{Q:VK} (M:Mk0 X.K C) (I:Inv X pins σ H s)
  (h:∀ x dx,H x=none→H dx=none→dx≠x→Q (.ref x) (upd (upd H dx (.own x)) x (.ins C dx []))):wpAny (model X.prog X.w) X.A (call (.ref C) []) (EP X pins σ Q) X.xe s:=by
 have hq:=h (s.heap.objs.size + 1) s.heap.objs.size (I.hok.fresh (Nat.le_succ _)) (I.hok.fresh (Nat.le_refl _)) (Nat.ne_of_lt (Nat.lt_succ_self _));have I2:=Inv.made (C:=C) I;have Y:=PySem.W.makes_of (M:=model X.prog X.w) I.ux M.makes;refine wpAny_call (Zea I.ux M.makes M.init (fun self=>PySem.W.Looks.of_pure (PySem.W.oi_bind self)) ?_);have e2:((s.heap.push PySem.W.emptyDict).push (PySem.W.instObj C s.heap.objs.size)).get? (s.heap.objs.size + 1)=some (PySem.W.instObj C s.heap.objs.size):=by
  have:=Heap.get?_push_size (s.heap.push PySem.W.emptyDict) (o:=PySem.W.instObj C s.heap.objs.size) rfl;rw [Heap.size_push] at this;exact this
 have t1:PySem.W.Looks (model X.prog X.w) ((s.heap.push PySem.W.emptyDict).push (PySem.W.instObj C s.heap.objs.size)) (typeOf (.ref (s.heap.objs.size + 1))) (.ref C):=(PySem.W.Looks.ld e2).andThen .now;have t2:PySem.W.Looks (model X.prog X.w) ((s.heap.push PySem.W.emptyDict).push (PySem.W.instObj C s.heap.objs.size)) (isInstance (.ref (s.heap.objs.size + 1)) (.type "object")) true:=t1.andThen (Y.top.keeps fun b o e=>Heap.get?_push_of_some _ (Heap.get?_push_of_some _ e));refine codeAny_call_builtin PySem.W.oi_plain PySem.W.entry_oi (@PySem.W.check_slot (model X.prog X.w) _ _ _ "object.__init__" "object" "__init__" (.ref (s.heap.objs.size + 1)) [] [] _ PySem.W.oi_kind PySem.W.oi_split t2 (PySem.W.oi_args (.ref (s.heap.objs.size + 1))) ?_);rw [PySem.W.oi_run];exact wpAny_pure (And.intro rfl ⟨V.ref (s.heap.objs.size + 1),_,I2,rfl,hq⟩)
theorem Hg {C:Addr}{x:Str}{p pos:Pos} (M:Mk0 X.K C) (hg:Gl X x) (hm:X.mg x=some (.ref C)) (hdb:(x == ("__debug__":Str))=false:=by decide):PE X (.Call (.Name x p) [] [] pos) (Ly C):=by
 intro pins s σ H Q I h;refine wpAny_Call_Name_kw (jA I hg hm ?_ hdb);exact PySem.W.callWith_K0 I.ux M.kp (Za4 M I h)
structure Zzu (K:aG) (C:Addr):Prop where
 pg:PySem.W.plainGet K C "__class__"=true
 hd:PySem.W.hasDictIn K C=true
 cl:PySem.W.findIn K (.ref C) "__class__"=some (some (.builtin "object.__class__"))
 sp:PySem.W.specialIn K (.builtin "object.__class__") "__get__"=some (some (.builtin "getset_descriptor.__get__"))
 tk:PySem.W.takesIn K (.builtin "object.__class__")=some true
 so:PySem.W.mroIn K C (.type "object")=some true
end
end G
namespace G
open PySem L2
theorem Zi8 {P:Program}{w:World}{K:aG}{mg:Str→Option Value}{base:Heap}{CX:Xa}{k:Nat}{f:Addr}{fd:FuncData}{ps:List Str}{sp:Sp} (h:∀ vs H Q E,sp vs H Q E→False):qP P w K mg base CX k f fd ps sp:=
 ⟨fun vs H Q E z=>(h vs H Q E z).elim,fun _ _ _ H _ _ vs Q E _ _ _ _ z=>(h vs H Q E z).elim⟩
end G
namespace G
open PySem L2 PySem.Spec PyProof.Rows
end G
namespace G
open PySem L2 PySem.Spec PyProof.Rows
def Zb (w:World):List DictEntry→List (Str×Addr)→Prop
 | [],[]=>True
 | e :: es,p :: t=>e.hash=hashStr w p.1∧(∃ tk,e.key=.str p.1 tk)∧e.val=.ref p.2∧Zb w es t
 | _,_=>False
def Tab (K:aG) (w:World) (mg:Str→Option Value) (nm:Str) (Ls:List (Str×Addr)):Prop:=
 ∃ dd o es ep,mg nm=some (.ref dd)∧K.lookup dd=some o∧o.ExactDict∧o.data=.dict es ep∧Zb w es.toList Ls
theorem Zb.keys {prog:Program}{w:World}:∀ {es:List DictEntry}{Ls:List (Str×Addr)},Zb w es Ls→∀ e∈es,∃ k,(strKind prog w).is k e.key=true∧e.hash=(strKind prog w).hash k
 | [],_,_=>fun e he=>absurd he List.not_mem_nil
 | e :: es,[],h=>h.elim
 | e :: es,p :: t,h=>fun x hx=>by
  obtain ⟨h1,⟨tk,h2⟩,_,h4⟩:=h;rcases List.mem_cons.mp hx with rfl | hx
  ·refine ⟨p.1,?_,h1⟩;rw [h2];show Value.isStrOf p.1 (.str p.1 tk)=true;simp [Value.isStrOf]
  ·exact Zb.keys h4 x hx
theorem Zb.find {w:World}:∀ {es:List DictEntry}{Ls:List (Str×Addr)}{k:Str}{f:Addr},Zb w es Ls→Ls.lookup k=some f→(es.find? fun e=>Value.isStrOf k e.key).map (·.val)=some (.ref f)
 | [],[],_,_,_,h=>by cases h
 | [],_ :: _,_,_,h,_=>h.elim
 | _ :: _,[],_,_,h,_=>h.elim
 | e :: es,p :: t,k,f,h,hl=>by
  obtain ⟨_,⟨tk,h2⟩,h3,h4⟩:=h;rw [List.find?_cons,h2]
  by_cases hk:k=p.1
  ·subst hk;have e1:Value.isStrOf p.1 (.str p.1 tk)=true:=by simp [Value.isStrOf]
   rw [e1];have e2:List.lookup p.1 (p :: t)=some p.2:=by
    obtain ⟨a,b⟩:=p;simp [List.lookup]
   rw [e2] at hl;cases hl;show some e.val=_;rw [h3]
  ·have e1:Value.isStrOf k (.str p.1 tk)=false:=by
    simp only [Value.isStrOf,beq_eq_false_iff_ne,ne_eq];exact fun z=>hk z.symm
   rw [e1];have e2:List.lookup k (p :: t)=List.lookup k t:=by
    obtain ⟨a,b⟩:=p;simp only [List.lookup];rw [beq_eq_false_iff_ne.mpr hk]
   rw [e2] at hl;exact Zb.find h4 hl
def Zmm (Ls:List (Str×Addr)) (ti:TE):TE:=fun σ H Q=>ti σ H fun y H1=>∃ k f,y=.str k∧Ls.lookup k=some f∧Q (.ref f) H1
theorem Zqd {Ls:List (Str×Addr)}{ti:TE}{σ:L2.St}{H:Hp}{Q:VK} (h:ti σ H fun y H1=>∃ k f,y=.str k∧Ls.lookup k=some f∧Q (.ref f) H1):Zmm Ls ti σ H Q:=h
theorem Zn0 {X:Cx}{nm:Str}{Ls:List (Str×Addr)}{i:Expr}{ti:TE}{p pos:Pos} (T:Tab X.K X.w X.mg nm Ls) (hg:Gl X nm) (hi:PE X i ti) (hs:Zly i) (hd:(nm == ("__debug__":Str))=false:=by decide):
  PE X (.Subscript (.Name nm p) i pos) (Zmm Ls ti):=by
 intro pins s σ H Q I h;obtain ⟨dd,o,es,ep,hm,hk,ho,hda,te⟩:=T;refine Zcc PySem.F.slot_dict_getitem.lookup hs (jA I hg hm ?_ hd);refine iD (hi pins s σ H _ I h) fun iv s2 ⟨y,H2,I2,ry,k,f,ey,l,q2⟩=>?_;subst ey;have hh:=I2.ux dd o hk;refine ⟨⟨o,hh,ho.1⟩,?_⟩;obtain ⟨tk,rfl⟩:∃ tk,iv=.str k tk:=ry;refine wpAny_getItem_of (knd:=strKind X.prog X.w) (k:=k) (f:=fun k=>findBy Value.isStrOf es k) (by show Value.isStrOf k (.str k tk)=true;simp [Value.isStrOf]) ⟨o,es,ep,hh,ho,hda,fun e he=>te.keys e (by simpa using he),fun _=>rfl⟩ (v:=.ref f) ?_ ⟨.ref f,H2,I2.tok _,rfl,q2⟩;show Option.map (fun x=>x.val) (Array.find? (fun e=>Value.isStrOf k e.key) es)=_;rw [← Array.find?_toList];exact te.find l
def Zk (P:Program) (w:World) (K:aG) (mg:Str→Option Value) (base:Heap) (CX:Xa) (k:Nat) (ps:List Str) (L:List (Addr×Sp)):Prop:=
 ∀ f sp,(f,sp)∈L→∃ k' fd,k'≤k∧qP P w K mg base CX k' f fd ps sp∧PySem.W.keepIn K (.ref f)=true∧L2.Binds K fd ps []
theorem Zk.nil {P:Program}{w:World}{K:aG}{mg:Str→Option Value}{base:Heap}{CX:Xa}{k:Nat}{ps:List Str}:Zk P w K mg base CX k ps []:=fun _ _ h=>absurd h List.not_mem_nil
theorem Zk.cons {P:Program}{w:World}{K:aG}{mg:Str→Option Value}{base:Heap}{CX:Xa}{k k':Nat}{ps:List Str}{L:List (Addr×Sp)}{f:Addr}{fd:FuncData}{sp:Sp} (hk:k'≤k) (F:qP P w K mg base CX k' f fd ps sp) (hb:L2.Binds K fd ps []) (hp:PySem.W.keepIn K (.ref f)=true) (t:Zk P w K mg base CX k ps L):Zk P w K mg base CX k ps ((f,sp) :: L):=fun g sp' h=>by
 rcases List.mem_cons.mp h with e | h
 ·cases e;exact ⟨k',fd,hk,F,hp,hb⟩
 ·exact t g sp' h
def ZD (i:Nat) (L:List (Addr×Sp)) (E:XK) (t:TA):TE:=fun σ H Q=>∃ f sp,σ[i]? =some (some (.ref f))∧(f,sp)∈L∧t σ H fun vs H1=>sp vs H1 Q E
theorem qx {i:Nat}{L:List (Addr×Sp)}{E:XK}{t:TA}{σ:L2.St}{H:Hp}{Q:VK}{f:Addr} (sp:Sp) (hf:σ[i]? =some (some (.ref f))) (hm:(f,sp)∈L) (h:t σ H fun vs H1=>sp vs H1 Q E):ZD i L E t σ H Q:=⟨f,sp,hf,hm,h⟩
theorem Zgf {X:Cx}{CX:Xa}{k i:Nat}{ps:List Str}{L:List (Addr×Sp)}{x:Str}{E:XK}{e:Expr}{es:List Expr}{t:TA}{p pos:Pos} (F:Zk X.prog X.w X.K X.mg X.base CX k ps L) (hr:Room k X.A) (hN:X.N[i]? =some x) (hv:Vis X.env.scope x) (hx:Passes CX X E)
  (ha:PA X (e :: es) t) (hd:(x == ("__debug__":Str))=false:=by decide) (hcd:(x == ("__classdict__":Str))=false:=by decide) (he:starEach (e :: es) X.env=(false,eval e X.env) :: starEach es X.env:=by rfl) (hpl:(backTo pos (starEach es X.env)).any (·.1)=false:=by rfl):
  PE X (.Call (.Name x p) (e :: es) [] pos) (ZD i L E t):=by
 intro pins s σ H Q I h;obtain ⟨f,sp,ef,hm,h⟩:=h;obtain ⟨k',fd,hk,FO,hp,hb⟩:=F f sp hm;refine wpAny_Call_Name_kw (iD (Zga hN hv hd hcd pins s σ H (fun v H'=>v=.ref f∧H'=H) I ⟨_,ef,rfl,rfl⟩) fun u s1 ⟨v,H1,I1,r,e1,e2⟩=>?_);subst e1 e2;obtain rfl:u=Value.ref f:=r;refine PySem.W.callWith_K (h₀:=X.base) I1.ok.mod.kin hp (iD (ha pos pins s1 σ H1 _ I1 h) fun us s2 ⟨vs,H2,I2,r2,q2⟩=>⟨I2.ux,?_⟩) he hpl;refine Ui (tZ:=[]) FO (hr.mono hk) hb .nil hx I2 r2 ?_;rw [List.append_nil];exact q2
section
variable {σ:L2.St}{H:Hp}{Q:VK}{td ty tv:TE}{n bk ct:L2.St→Hp→Prop}{r:VK}
theorem Zoi (h:td σ H fun x H1=>ty σ H1 fun y H2=>∃ a v,x=.ref a∧qg H2 a y (some v)∧Q v H2):fu td ty σ H Q:=h
theorem Zho (h:ty σ H fun y H1=>td σ H1 fun x H2=>∃ a o,x=.ref a∧qg H2 a y o∧Q (.bl (!o.isSome)) H2):Ky ty td σ H Q:=h
theorem Zoh (h:tv σ H fun v H1=>td σ H1 fun x H2=>ty σ H2 fun y H3=>∃ a H4,x=.ref a∧zY H3 a y v H4∧n σ H4):xU td ty tv ⟨n,r,bk,ct⟩ σ H:=h
theorem Zij {a:Addr}{kvs:List (L2.Key×V)}{z:Str} (e:H a=some (.dK kvs)):qg H a (.str z) (oK kvs (Sum.inr z)):=qg.k (k:=Sum.inr z) e
theorem Zre {a:Addr}{kvs:List (L2.Key×V)}{z:Str}{v:V} (e:H a=some (.dK kvs)) (hl:kvs.length < sizeLine):zY H a (.str z) v (upd H a (.dK (putK kvs (Sum.inr z) v))):=zY.k (k:=Sum.inr z) e hl
end
end G
namespace G
open PySem L2 PySem.Spec PyProof.Rows
def Zpb (K:aG) (J:It) (caps:List Nat) (tc:TT) (te:TE) (σ:L2.St) (H1:Hp) (Q:VK):Prop:=∃ W:Nat→Nat→List V→Hp→Prop,(∃ m,W 0 m [] H1)∧∀ i m ys H,W i m ys H→
 (J.stop i H∧∀ p,H p=none→Q (.ref p) (upd H p (.lst ys)))∨
 (J.go i H∧ys.length < sizeLine∧∀ x H',J.yld i H x H'→∃ a u v,x=.ref a∧j4 K H' a [u,v]∧tc (some u :: some v :: caps.map (pick σ)) H' fun k H2=>if k=true then te (some u :: some v :: caps.map (pick σ)) H2 (fun y H3=>∃ m',m' < m∧W (i + 1) m' (ys ++ [y]) H3) else ∃ m',m' < m∧W (i + 1) m' ys H2)
def Zmn (K:aG) (wi:TI) (caps:List Nat) (tc:TT) (te:TE):TE:=fun σ H Q=>wi σ H fun J H1=>Zpb K J caps tc te σ H1 Q
theorem Zo8 {K:aG}{wi:TI}{caps:List Nat}{tc:TT}{te:TE}{σ:L2.St}{H:Hp}{Q:VK} (h:wi σ H fun J H1=>Zpb K J caps tc te σ H1 Q):Zmn K wi caps tc te σ H Q:=h
def Zs3 (K:aG) (te:TE):TE:=fun σ H Q=>∃ a u v r,σ=some (.ref a) :: r∧j4 K H a [u,v]∧te (some u :: some v :: r) H Q
theorem Zkp {K:aG}{J:It}{caps:List Nat}{te:TE}{σ:L2.St}{H:Hp}{Q:VK} (h:LCg J caps vG (Zs3 K te) σ H Q):Zpb K J caps vG te σ H Q:=by
 obtain ⟨W,w0,step⟩:=h;refine ⟨W,w0,fun i m ys H hw=>?_⟩;rcases step i m ys H hw with z | ⟨g,l,st⟩
 ·exact .inl z
 ·refine .inr ⟨g,l,fun x H' y=>?_⟩;have h1:=st x H' y;simp only [vG,↓reduceIte] at h1;obtain ⟨a,u,v,r,e,hs,q⟩:=h1;cases e;refine ⟨a,u,v,rfl,hs,?_⟩;simp only [vG,↓reduceIte];exact q
theorem Zn1 {X:Cx}{elt iter:Expr}{x y:Str}{px py pt pos:Pos}{kt:Nat}{ifs:List Expr}{scope:Scope}{cl:List (Str×Addr)}{wi:TI}{tc:TT}{te:TE}{cns:List Str} (caps:List Nat)
  (hi:PI X (.Tuple [.Name x px,.Name y py] kt pt) iter wi)
  (hf:∀ C s H ex pn,PF (Zfc X scope cl (x :: y :: cns) C s H ex pn) ifs tc) (he:∀ C s H ex pn,PE (Zfc X scope cl (x :: y :: cns) C s H ex pn) elt te) (hc:X.calm=true)
  (hclos:closureFor scope X.env=pure cl) (hcl:AllIn X.env.cells cl) (hcap:Fv X cns caps)
  (hkind:scope.kind=.function) (hcell:(scope.names.all fun p=>p.2 != .cell)=true) (hfree:(scope.names.all fun p=>p.2 != .free || (cl.lookup p.1).isSome)=true)
  (hcf:(cns.all fun y=>scope.names.lookup y == some .free)=true) (hnames:∀ y∈scope.names,y.2=.local→scope.names.lookup y.1=some .local) (hx:scope.names.lookup x=some .local) (hy:scope.names.lookup y=some .local) (hnd:(x :: y :: cns).Nodup)
  (hs:∀ v,foldedSetIterable iter X.env v=pure v:=by intro _;rfl):
  PE X (.ListComp elt [⟨.Tuple [.Name x px,.Name y py] kt pt,iter,ifs,0⟩] scope pos) (Zmn X.K wi caps tc te):=by
 intro pins s σ H Q I h;rw [eval_ListComp];refine wpAny_comprehension_free (use:=none) rfl hs hclos hkind hnames (iD (hi pins s σ H _ I h) fun xv s1 h1=>iD h1 fun itv s2 h2=>?_);obtain ⟨it,fp,tn,J,H2,rfl,I2,T,st2,f2,W,⟨m0,w0⟩,turn⟩:=h2;have hne:∀ y∈scope.names,y.2≠.cell:=fun y hy e=>by
  have:=List.all_eq_true.mp hcell y hy;rw [e] at this;simp at this
 refine wpAny_newObj_type (wpAny_newFunctionEnv hne (by intro y hy;simp at hy) (fun h₁ hns₁ hsb₁=>?_) hkind);dsimp only at hns₁ hsb₁ ⊢;generalize hacc:s2.heap.objs.size=acc;generalize hH3:s2.heap.push { cls:=.type "list",dict:=none,data:=.seq ([]:List Value).toArray }=h3 at hns₁ hsb₁ ⊢;have hC:h3.objs.size=acc + 1:=by rw [← hH3,Heap.size_push,hacc]
 have Am:∀ b o,s2.heap.get? b=some o→h3.get? b=some o:=fun b o e=>hH3 ▸ Heap.get?_push_of_some _ e;have Qi:∀ b o,h3.get? b=some o→h₁.get? b=some o:=fun b o e=>hsb₁.extBut b o (Nat.ne_of_lt (Heap.lt_size e)) (Heap.get?_push_of_some _ e);have Znb:h3.get? acc=some { cls:=.type "list",dict:=none,data:=.seq ([]:List Value).toArray }:=by
  rw [← hH3,← hacc];exact Heap.get?_push_size _ rfl
 have I3:Inv X pins σ H2 { s2 with heap:=h3 }:=I2.kept (t':=s2.toks) Am;have Zbp:vX X pins H2 acc:=I2.Zi5 (Nat.le_of_eq hacc) (I2.hok.fresh (Nat.le_of_eq hacc));have fpl:∀ b∈fp,b < acc:=fun b hb=>by
  obtain ⟨o,e,_⟩:=T.obj _ _ st2 b hb;rw [← hacc];exact Heap.lt_size e
 have Je:∀ b∈acc :: fp,vX X pins H2 b:=fun b hb=>(List.mem_cons.mp hb).elim (fun e=>e ▸ Zbp) (f2 b);have exC:∀ b∈acc :: fp,b≠h3.objs.size:=fun b hb=>by
  rcases List.mem_cons.mp hb with e | hb
  ·rw [hC,e];exact Nat.ne_of_lt (Nat.lt_succ_self _)
  ·rw [hC];exact Nat.ne_of_lt (Nat.lt_succ_of_lt (fpl b hb))
 have Bq:∀ b∈acc :: fp,b∉frs X.stack:=fun b hb hm=>by
  obtain ⟨_,g1,g2,_⟩:=Je b hb;exact (List.mem_cons.mp (I2.yu b hm)).elim g1 g2
 let Y:Cx:=Zfc X scope cl (x :: y :: cns) h3.objs.size { s2 with heap:=h3 } H2 (acc :: fp) (X.pn ++ pins)
 have cellsOf:∀ y c,cl.lookup y=some c→X.env.cells.lookup y=some c:=fun y c e=>hcl.get e;have Ei:∀ y k,Y.env.kindOf y=some k→(k=.cell∨k=.free)→∃ c,cl.lookup y=some c:=fun y k e hk=>by
  have e0:(scope.names.lookup y).map (yP X.env y)=some k:=mj.symm.trans e;obtain ⟨k0,e1,e2⟩:=Option.map_eq_some_iff.mp e0;have e3:=lookup_all hfree e1;have e4:=lookup_all hcell e1
  by_cases hf:k0=.free
  ·subst hf;rw [Bool.or_eq_true] at e3;rcases e3 with e3 | e3
   ·exact absurd rfl (bne_iff_ne.mp e3)
   ·exact Option.isSome_iff_exists.mp e3
  ·exfalso
   have e5:yP X.env y k0=k0:=by
    unfold yP;rw [if_neg];intro z;rw [Bool.and_eq_true,Bool.and_eq_true] at z;exact hf (beq_iff_eq.mp z.1.1)
   rw [e5] at e2;subst e2;rcases hk with rfl | rfl
   ·simp at e4
   ·exact hf rfl
 have okY:Y.Ok:={
  mod:=I2.ok.mod
  kind:=hkind
  glob:=I2.ok.glob
  blt:=I2.ok.blt
  above:=Nat.le_refl _
  inj:=fun a b c e1 e2=>I2.ok.inj a b c (cellsOf _ _ e1) (cellsOf _ _ e2)
  has:=fun y hy=>hy.elim (fun e=>Ei y _ e (.inl rfl)) (fun e=>Ei y _ e (.inr rfl))
  cab:=fun y c e=>nomatch e
  hd:=I2.ok.hd
  frames:=I2.ok.frames
  stk:=.inl rfl
  exf:=fun b hb=>⟨exC b hb,fun y c e=>(Je b hb).2.2.2.2.1 y c (cellsOf _ _ e)⟩
  bs:=fun b o e=>⟨Am b o (I2.bs b o e).1,(I2.bs b o e).2⟩
  bsz:=by
   show X.base.objs.size≤h3.objs.size;rw [hC,← hacc];exact Nat.le_succ_of_le (Nat.le_trans I2.ok.bsz I2.sz)
  Qa:=fun b o e hb=>by
   rcases (Je b hb).2.2.2.1 with z | z
   ·exact I2.ok.Qa b o e z
   ·exact absurd (Nat.lt_of_lt_of_le (Heap.lt_size e) (Nat.le_trans I2.ok.bsz z)) (Nat.lt_irrefl _)
  YG:=Bq
  vR:=I3.stack
  frf:=I3.Kz }
 have Znm:(none :: none :: caps.map (pick σ):L2.St).length=(x :: y :: cns).length:=by rw [List.length_cons,List.length_cons,List.length_cons,List.length_cons,bh,hcap.len]
 have I4:Inv Y [] (none :: none :: caps.map (pick σ)) H2 { s2 with heap:=h₁,toks:=s2.toks + ([]:List (Str×Value)).length }:={
  ok:=okY
  os:=rfl
  bare:=I2.bare
  base:=Un.kept Qi
  loc:=by
   refine ⟨_,hns₁,fun i y₁ v e1 e2 e3=>?_⟩
   match i,e1,e2 with
   | 0,e1,e2=>simp at e2
   | 1,e1,e2=>simp at e2
   | i + 2,e1,e2=>
    obtain ⟨j,j1,j2,j3⟩:=hcap.get (σ:=σ) (i:=i) (x:=y₁) (v:=v) (by have e1':(x :: y :: cns)[i + 2]? =some y₁:=e1;simpa using e1') (by simpa using e2);obtain ⟨m,hn,hl⟩:=I2.loc;obtain ⟨u,r,l⟩:=hl j y₁ v j1 j3 (.inr (.inl j2));rcases l with ⟨l,_⟩ | ⟨_,c,l1,l2⟩
    ·rw [j2] at l;cases l
    ·refine ⟨u,r,.inr ?_⟩;rcases e3 with e3 | e3 | e3
     ·exfalso
      have hm:y₁∈cns:=List.mem_of_getElem? (show cns[i]? =some y₁ by have e1':(x :: y :: cns)[i + 2]? =some y₁:=e1;simpa using e1');have hl:scope.names.lookup y₁=some .free:=beq_iff_eq.mp (List.all_eq_true.mp hcf y₁ hm);have e0:(scope.names.lookup y₁).map (yP X.env y₁)=some .local:=mj.symm.trans e3;rw [hl] at e0;have e5:yP X.env y₁ .free=.local:=Option.some.inj e0;unfold yP at e5;split at e5<;>cases e5
     ·obtain ⟨c',hc'⟩:=Ei y₁ _ e3 (.inl rfl);have:=cellsOf _ _ hc';rw [l1] at this;cases this;exact ⟨.inl e3,c,hc',l2.keeps fun b o e=>Qi _ _ (Am _ _ e)⟩
     ·obtain ⟨c',hc'⟩:=Ei y₁ _ e3 (.inr rfl);have:=cellsOf _ _ hc';rw [l1] at this;cases this;exact ⟨.inr e3,c,hc',l2.keeps fun b o e=>Qi _ _ (Am _ _ e)⟩
  cell:=fun y c e=>by
   obtain ⟨v,z⟩:=I2.cell y c (cellsOf _ _ e);exact ⟨v,z.keeps fun b o e=>Qi _ _ (Am _ _ e)⟩
  free:=I2.hok.fresh (by rw [hacc];show acc≤h3.objs.size;rw [hC];exact Nat.le_succ _)
  qL:=fun y c e=>I2.qL y c (cellsOf _ _ e)
  pin:=fun p hp=>by
   have hp2:p∈(X.pn ++ pins) ++ []:=hp;have hp':p∈X.pn ++ pins:=by rw [List.append_nil] at hp2;exact hp2
   obtain ⟨p1,p2,p3,p4,p5⟩:=I2.pin p hp';refine ⟨Qi _ _ (Am _ _ p1),p2,?_,fun hm=>(List.mem_cons.mp (I2.yu _ hm)).elim p3 p4,p5⟩;exact Nat.ne_of_lt (by show p.1 < h3.objs.size;exact Heap.lt_size (Am _ _ p1))
  hok:=I2.hok.kept fun b u e=>Qi _ _ (Am _ _ e)
  len:=Znm }
 have fpY:∀ {H':Hp}{pl:List (Addr×Obj)}{b:Addr},b∈acc :: fp→H' b=none→(∀ p∈pl,p.1≠b)→vX Y pl H' b:=fun {H' pl b} hb hn hp=>
  ⟨hn,exC b hb,Bq b hb,.inl hb,fun y c e=>(Je b hb).2.2.2.2.1 y c (cellsOf _ _ e),fun p hm=>(List.mem_append.mp hm).elim (fun z=>(Je b hb).2.2.2.2.2 p z) (hp p)⟩
 have fin:∀ {σ':L2.St}{H':Hp}{s':Shared}{ys:List V}{its:List Value}{kk:Nat}{pl:List (Addr×Obj)},Inv Y pl σ' H' s'→H' acc=none→Vals ys its→ys.length≤sizeLine→
   s'.heap.get? acc=some { cls:=.type "list",data:=.seq its.toArray kk }→(∀ p,H' p=none→Q (.ref p) (upd H' p (.lst ys)))→
   ∀ h',Heap.SameBut h3.objs.size s'.heap h'→EP X pins σ Q (.ref acc) { s' with heap:=h' }:=fun {σ' H' s' ys its kk pl} J ha hv hz ho hq h' hs'=>by
  have Zop:acc≠h3.objs.size:=exC acc (List.mem_cons_self);have zL:∀ b o,b≠h3.objs.size→s'.heap.get? b=some o→h'.get? b=some o:=fun b o hb e=>hs'.extBut b o hb e;have ltC:∀ b o,s2.heap.get? b=some o→b≠h3.objs.size:=fun b o e=>Nat.ne_of_lt (Heap.lt_size (Am b o e));have NB:H' h3.objs.size=none:=J.free;have un:Un (frs X.stack) (acc :: fp) H2 H' s2.heap h':={
   keep:=fun b o e n hb hx=>zL b o (ltC b o e) (J.base.keep b o (Am b o e) n hb hx)
   slot:=fun b o e n hb hx=>by
    obtain ⟨sl,q⟩:=J.base.slot b o (Am b o e) n hb hx;exact ⟨sl,zL b _ (ltC b o e) q⟩
   free:=fun b o e n hx=>J.base.free b o (Am b o e) n hx
   there:=fun b o e hx=>by
    obtain ⟨o',q⟩:=J.base.there b o (Am b o e) hx;exact ⟨o',zL b o' (ltC b o e) q⟩
   tups:=J.base.tups
   Et:=J.base.Et
   FJ:=J.base.FJ }
  have hok:yp X.prog X.w H' h':=fun b u e=>by
   refine (J.hok b u e).stay (fun c v hc q=>zL c v ?_ q) (fun _ q=>q) fun _ _ q=>q;rintro rfl;rcases hc with rfl | hc
   ·rw [NB] at e;cases e
   ·rw [NB] at hc;cases hc
  have I5:Inv X pins σ H' { s' with heap:=h' }:=I2.call' (ch:=acc :: fp) J.os un hok J.bare fun b hb=>by
   obtain ⟨g0,g1,g2,g3,g4,g5⟩:=Je b hb;exact ⟨g3,g1,g4,g5⟩
  refine ⟨.ref acc,_,adopt (acc:=acc) I5 ?_ (zL _ _ Zop ho) hv hz,rfl,hq acc ha⟩;obtain ⟨g0,g1,g2,g3,g4,g5⟩:=Zbp;exact ⟨ha,g1,g2,g3,g4,g5⟩
 have loop:codeAny (model X.prog X.w) X.A (.compLoop (.ListComp elt [⟨.Tuple [.Name x px,.Name y py] kt pt,iter,ifs,0⟩] scope pos) 0 (.ref it) (.ref acc) Y.env) (compPost (model X.prog X.w) X.A X.xe none (EP X pins σ Q) (.ref acc) h3.objs.size)
   { s2 with heap:=h₁,toks:=s2.toks + ([]:List (Str×Value)).length }:=by
  refine JW (fun n s'=>∃ (i:Nat) (v v':Option V) (ys:List V) (its:List Value) (kk:Nat) (H':Hp),Inv Y [] (v :: v' :: caps.map (pick σ)) H' s'∧tn i s'.heap∧(∀ b∈fp,H' b=none)∧H' acc=none∧Vals ys its∧ys.length≤sizeLine∧
   s'.heap.get? acc=some { cls:=.type "list",data:=.seq its.toArray kk }∧W i n ys H') ?_ m0 ⟨0,none,none,[],[],0,H2,I4,T.keep _ _ _ st2 (fun b _ o e=>Qi _ _ (Am _ _ e)),fun b hb=>(f2 b hb).1,Zbp.1,.nil,Nat.zero_le _,Qi _ _ Znb,w0⟩
  rintro n s5 ⟨i,v,v',ys,its,kk,H5,I5,Zn,fr5,ha5,hv5,hz5,ho5,w5⟩;have Zg7:Inv Y [(acc,{ cls:=.type "list",data:=.seq its.toArray kk })] (v :: v' :: caps.map (pick σ)) H5 s5:=I5.uh fun p hp=>by
   have e:p=(acc,{ cls:=.type "list",data:=.seq its.toArray kk }):=by simpa using hp
   subst e;exact ⟨ho5,ha5,exC acc List.mem_cons_self,Bq acc List.mem_cons_self,fun v=>by intro z;cases z⟩
  have fpA:∀ {H':Hp},(∀ b∈fp,H' b=none)→∀ b∈fp,vX Y [(acc,{ cls:=.type "list",data:=.seq its.toArray kk })] H' b:=fun hn b hb=>fpY (List.mem_cons_of_mem _ hb) (hn b hb) fun p hp=>by
   have e:p=(acc,{ cls:=.type "list",data:=.seq its.toArray kk }):=by simpa using hp
   subst e;exact (Nat.ne_of_lt (fpl b hb)).symm
  rcases turn i n ys H5 w5 with ⟨stop,qn⟩ | ⟨go,hlt,step⟩
  ·refine iD (T.done Y rfl rfl rfl hc i _ s5 _ H5 (fun _ _=>False) Zg7 (fpA fr5) Zn stop) fun r s6 ⟨hr,I6⟩=>?_;subst hr;obtain ⟨m,hm,_⟩:=I6.loc;have ho6:=(I6.pin (acc,{ cls:=.type "list",data:=.seq its.toArray kk }) (List.mem_append_right _ List.mem_cons_self)).1;exact ⟨m,hm,fin I6 ha5 hv5 hz5 ho6 qn⟩
  ·refine iD (T.item Y rfl rfl rfl hc i _ s5 _ H5 (fun _ _=>False) Zg7 (fpA fr5) Zn go) fun r s6 ⟨u,hr,h6⟩=>?_;subst hr;refine iD h6 fun _ s7 ⟨z,H7,I7,r7,y7,J9,fr7⟩=>?_;have I7':=I7.pinned (fpA fr7) (T.obj _ _ J9);obtain ⟨ta,u1,u2,ez,hst,step⟩:=step z H7 y7;have pg:PG Y (.Tuple [.Name x px,.Name y py] kt pt) (Zr7 X.K 2 (Zi2 (aO 0) (Zi2 (aO 1) Zr8))):=Zmy (X:=Y) hc (Xy (kZ hnd rfl (.inl (lookup_relabel_local hx)) (.inr (lookup_relabel_local hx))) (Xy (kZ hnd rfl (.inl (lookup_relabel_local hy)) (.inr (lookup_relabel_local hy))) Zjx));refine iD (pg _ s7 _ H7 z u (fun σ2 H2'=>σ2=some u1 :: some u2 :: caps.map (pick σ)∧H2'=H7) I7' r7 ⟨ta,_,ez,hst,rfl,_,_,rfl,_,_,rfl,rfl,rfl,rfl⟩) fun _ s8 ⟨σ8,H8,I8,e8,e8'⟩=>?_;subst e8 e8';refine iD (hf _ _ _ _ _ _ s8 _ H8 _ I8 step) fun ok s9 ⟨H9,I9,q9⟩=>?_;have stat:∀ {H':Hp}{s':Shared}{σ':L2.St},Inv Y ([(acc,{ cls:=.type "list",data:=.seq its.toArray kk })] ++ u6 fp s7.heap) σ' H' s'→tn (i + 1) s'.heap∧(∀ b∈fp,H' b=none)∧H' acc=none∧s'.heap.get? acc=some { cls:=.type "list",data:=.seq its.toArray kk }:=fun {H' s' σ'} J=>by
    have pa:=J.pin (acc,{ cls:=.type "list",data:=.seq its.toArray kk }) (List.mem_append_right _ (List.mem_append_left _ List.mem_cons_self));refine ⟨T.keep _ _ _ J9 fun b hb o e=>(J.pin (b,o) (List.mem_append_right _ (List.mem_append_right _ (lY hb e)))).1,fun b hb=>?_,pa.2.1,pa.1⟩;obtain ⟨o,e,d⟩:=T.obj _ _ J9 b hb;exact (J.pin (b,o) (List.mem_append_right _ (List.mem_append_right _ (lY hb e)))).2.1
   have XS:∀ {H':Hp}{s':Shared}{σ':L2.St}{pl:List (Addr×Obj)},Inv Y pl σ' H' s'→Inv Y [] σ' H' s':=fun J=>J.uh fun p hp=>nomatch hp;cases ok with
   | false=>
    obtain ⟨m',hm,w9⟩:=q9;obtain ⟨t1,t2,t3,t4⟩:=stat I9;exact ⟨m',hm,i + 1,some u1,some u2,ys,its,kk,H9,XS I9,t1,t2,t3,hv5,hz5,t4,w9⟩
   | true=>
    show wpAny _ _ (eval elt Y.env) _ _ s9;refine iD (he _ _ _ _ _ _ s9 _ H9 _ I9 q9) fun y Zo ⟨yv,H10,I10,r10,m',hm,w10⟩=>?_;obtain ⟨t1,t2,t3,t4⟩:=stat I10;have Zpc:Inv Y (u6 fp s7.heap) (some u1 :: some u2 :: caps.map (pick σ)) H10 Zo:=I10.uh fun p hp=>I10.pin p (List.mem_append_right _ (List.mem_append_right _ hp));have fA:vX Y (u6 fp s7.heap) H10 acc:=fpY List.mem_cons_self t3 fun p hp=>Nat.ne_of_lt (fpl _ (HN hp).1);have Ja:=adopt Zpc fA t4 hv5 hz5;refine iD (jg (X:=Y) _ Zo _ _ (.ref acc) [yv] (.ref acc) [y] (fun _ H'=>H'=upd (upd H10 acc (.lst ys)) acc (.lst (ys ++ [yv]))) Ja rfl (.cons r10 .nil) ⟨acc,ys,yv,rfl,rfl,aq,hlt,rfl⟩) fun _ s11 ⟨_,H11,I11,_,e11⟩=>?_;rw [eF] at e11;subst e11;obtain ⟨Zom,its',kk',Zon,Zoo⟩:=I11.hok acc _ aq;have Jd:=disown I11 fA;have Zmp:tn (i + 1) s11.heap:=T.keep _ _ _ J9 fun b hb o e=>(Jd.pin (b,o) (List.mem_append_right _ (lY hb e))).1;exact ⟨m',hm,i + 1,some u1,some u2,ys ++ [yv],its',kk',H10,XS Jd,Zmp,t2,t3,Zon,Zom,Zoo,w10⟩
 exact codeAny_compStart_list loop (T.self X.A 0 _ _ _ (T.keep _ _ _ st2 (fun b _ o e=>Qi _ _ (Am _ _ e))) loop)
end G
namespace G
open PySem L2 PySem.Spec PyProof.Rows
end G
namespace G
open PySem L2 PySem.Spec PyProof.Rows
def Xc (ns:List Int):Prop:=∀ i∈ns,Builtin.Int.intBits i≤2 ^ 20
theorem Ziq {i:Int} (h:(PySem.W.WData.int i).layable=true):Builtin.Int.intBits i≤2 ^ 20:=by
 unfold PySem.W.WData.layable at h;simp only [Bool.and_eq_true,decide_eq_true_eq] at h;have:=h.2;simp [PySem.W.WData.weight] at this;unfold Builtin.Int.intBits;simpa using this
theorem Zfj {l:PySem.W.OpenLaw}{n k:Nat}{q:Program}{loose:List Str}{XP:(Str→Option Value)→Heap→Prop}{YP:World→Heap→Prop}{d:DefRec}{K:Params→aG}{CX:World→Xa}{sp:World→Sp}{x:Str}
  (hn:l.most=some n) (hn2:n≤sizeLine) (hdf:d.params.defaults=[]) (hr:Room k callerA)
  (hY:∀ (w:World) (h:Heap),YP w h→(K w.params).In h)
  (F:∀ (w:World) (mg:Str→Option Value) (fa:Addr) (h:Heap),(K w.params).In h→h.Ns mainGlobals mg→mg d.name=some (.ref fa)→
   ∃ fd:FuncData,(∀ (s:Shared) (u:Value),BindsTo s fd ⟨[u],[]⟩ [(x,u)])∧
    ∀ base:Heap,(K w.params).In base→base.Ns mainGlobals mg→qP l.prog w (K w.params) mg base (CX w) k fa fd [x] (sp w))
  (hsp:∀ (w:World) (H:Hp) (a:Addr) (ns:List Int),ns.length≤n→Only H→cF (K w.params) H a (ns.map V.int)→Xc ns→sp w [.ref a] H (fun v _=>v=.bl true) fun _ _ _=>False)
  (hCX:∀ (w:World) (H:Hp) (s:Shared) (e:Value) (s':Shared),CX w [] H s (fun _ _ _=>False) e s'→False):
  PySem.W.WalkO q loose XP YP l.row.toRowW d [] (fun f vs=>PySem.call f vs):=by
 intro w s₀ s₁ mg mb G Y fa o pm cd doc dV kV ho hd hcd hD hmg hg args vals as hpre hlay hrd hwl hlo;obtain rfl:dV=.none:=PySem.W.Dflts.none hD hdf;obtain rfl:kV=.none:=PySem.W.Dflts.noKw hD;obtain ⟨a,vs,ns,rfl,rfl,hobj,hints,hlen⟩:=Att.Zdo hn hpre hwl;have hb:Xc ns:=fun i hi=>by
  unfold PySem.W.WData.layableAll at hlay;rw [List.all_cons,Bool.and_eq_true] at hlay;exact Ziq (PySem.W.layableW_item hlay.1 _ (List.mem_map.mpr ⟨i,hi,rfl⟩))
 have KX:=hY w _ Y;obtain ⟨fd,hbd,hF⟩:=F w mg fa _ KX G.T.g hmg;refine PySem.W.enter_call (codeAny_mono (Zhg KX G.T.g G.T.b G.T.builtins G.T.nolimit hg hobj hints (Nat.le_trans hlen hn2) hr hF hbd (fun H hO hS=>hsp w H a ns hlen hO hS hb) fun H e s'=>hCX w H s₁ e s') fun r s' hq=>?_);obtain ⟨rfl,h2,h3,h4⟩:=hq;exact ⟨.inl ⟨.bool true,.bool true,[],rfl,fun _=>rfl,.bool true,Att.Zdz l _,fun _=>⟨List.Pairwise.nil,fun _ hm=>(nomatch hm)⟩⟩,h2,h3,h4⟩
theorem Zcj {X:Cx}:ym X (binaryOp .Mult) (rI IntMulOk fun i j=>.int (i * j)):=opI fun _ _ _ _ _ _ _ hc q=>mul_int q hc
theorem Zq1 {c:Int} (k:Int) (h:Builtin.Int.intBits c≤2 ^ 20) (hk:Builtin.Int.intBits k≤2 ^ 20):IntMulOk c k:=IntMulOk.of_bits h hk
end G
namespace G
open PySem L2
def Itd (a:Addr) (o:Obj) (kvs:List (Key×V)):It:=
 ⟨fun i H=>H a=some (.yd o (.dK kvs))∧i < kvs.length,fun i H x H'=>H'=H∧∃ kv,kvs[i]? =some kv∧x=kV kv.1,fun i H=>H a=some (.yd o (.dK kvs))∧kvs.length≤i⟩
def Zhp (td:TE):TI:=fun σ H R=>td σ H fun x H1=>∃ a kvs,x=.ref a∧H1 a=some (.dK kvs)∧∀ o,R (Itd a o kvs) (upd H1 a (.yd o (.dK kvs)))
theorem Zt8 {td:TE}{σ:L2.St}{H:Hp}{R:It→Hp→Prop} (h:td σ H fun x H1=>∃ a kvs,x=.ref a∧H1 a=some (.dK kvs)∧∀ o,R (Itd a o kvs) (upd H1 a (.yd o (.dK kvs)))):Zhp td σ H R:=h
section
variable {K:aG}{a:Addr}{g:TG}{tb:TS}{σ:L2.St}{H:Hp}{n:L2.St→Hp→Prop}{r:VK}
theorem Zzc {o:Obj} (kvs:List (Key×V)) (Pv:Nat→L2.St→Hp→Prop) (h0:Pv 0 σ H) (hl:∀ i σ H,i≤kvs.length→Pv i σ H→H a=some (.yd o (.dK kvs)))
  (hs:∀ i kv σ H,kvs[i]? =some kv→Pv i σ H→g (kV kv.1) σ H fun σ2 H2=>tb ⟨Pv (i + 1),r,n,Pv (i + 1)⟩ σ2 H2) (hd:∀ σ H,Pv kvs.length σ H→n σ H):
  ∃ W:Nat→Nat→L2.St→Hp→Prop,(∃ m,W 0 m σ H)∧∀ i m σ H,W i m σ H→
   ((Itd a o kvs).stop i H∧n σ H)∨((Itd a o kvs).go i H∧∃ N:L2.St→Hp→Prop,(∀ σ' H',N σ' H'→∃ m',m' < m∧W (i + 1) m' σ' H')∧∀ x H',(Itd a o kvs).yld i H x H'→g x σ H' fun σ2 H2=>tb ⟨N,r,n,N⟩ σ2 H2):=by
 refine ⟨fun i m σ H=>i≤kvs.length∧m=kvs.length - i∧Pv i σ H,⟨kvs.length,Nat.zero_le _,rfl,h0⟩,?_⟩;rintro i m σ H ⟨hi,rfl,p⟩;have hq:=hl i σ H hi p
 by_cases hk:i=kvs.length
 ·subst hk;exact .inl ⟨⟨hq,Nat.le_refl _⟩,hd σ H p⟩
 ·have hlt:i < kvs.length:=by omega
  refine .inr ⟨⟨hq,hlt⟩,Pv (i + 1),fun σ' H' p'=>⟨kvs.length - (i + 1),by omega,by omega,rfl,p'⟩,?_⟩;rintro x H' ⟨rfl,kv,hv,rfl⟩;exact hs i kv σ H' hv p
end
end G
namespace G
open PySem L2 PySem.Spec PyProof.Rows
end G
namespace G
open PySem L2 PySem.Spec PyProof.Rows
theorem Zov {X:Cx}{pins:List (Addr×Obj)}{H:Hp}{a b:Addr}{o:HO} (f:vX X pins H b) (h:b≠a):vX X pins (upd H a o) b:=⟨(aA h).trans f.1,f.2⟩
theorem Zq5 {P:Program}{w:World}{k:Key}{u:Value} (h:(iH P w).is k u=true):RelV (kV k) u:=by
 rcases iQ h with ⟨i,t,rfl,rfl⟩ | ⟨x,t,rfl,rfl⟩
 ·exact ⟨t,rfl⟩
 ·exact ⟨t,rfl⟩
theorem Zi4 {X:Cx}{pins:List (Addr×Obj)}{σ:L2.St}{H:Hp}{s:Shared}{a:Addr}{o:Obj}{kvs:List (Key×V)} (I:Inv X pins σ H s) (h:H a=some (.dK kvs)) (ho:s.heap.get? a=some o):Inv X pins σ (upd H a (.yd o (.dK kvs))) s:=by
 have ne:∀ b u,H b=some u→u≠.dK kvs→b≠a:=fun b u q n z=>n (by rw [z,h] at q;exact (Option.some.inj q).symm);have r:Inv X pins σ (upd H a (.yd o (.dK kvs))) { s with heap:=s.heap,gens:=s.gens,drawn:=s.drawn,toks:=s.toks }:=by
  refine I.step (g':=s.gens) (t':=s.toks) (d':=s.drawn) (ch:=[]) (fun b hb=>nomatch hb) (fun b u _ _ _ q _=>q) (fun b u _ _ _ q _=>⟨u.slots,q⟩) (fun b u hc q n=>(aA (fun z=>by rw [z,h] at n;cases n)).trans n) (fun b u _ q=>⟨u,q⟩)
   (fun b xs q=>(aA (ne b _ q (fun z=>by cases z))).trans q) (fun b u xs q=>(aA (ne b _ q (fun z=>by cases z))).trans q) (fun b ps q=>⟨#[],by rw [aA (ne b _ q (fun z=>by cases z)),q];simp⟩) (fun m hm=>hm) (fun b u q=>?_) I.bare
  have hs:∀ c u,H c=some u→u≠.dK kvs→upd H a (.yd o (.dK kvs)) c=some u:=fun c u z n=>by rw [aA (ne c u z n)];exact z
  by_cases hb:b=a
  ·subst hb;rw [aq] at q;cases q;exact ⟨ho,(I.hok b _ h).stay (fun c v _ z=>z) (fun c z=>hs c _ z (fun y=>by cases y)) fun c xs z=>hs c _ z (fun y=>by cases y)⟩
  ·rw [aA hb] at q;exact (I.hok b u q).stay (fun c v _ z=>z) (fun c z=>hs c _ z (fun y=>by cases y)) fun c xs z=>hs c _ z (fun y=>by cases y)
 exact r
theorem Zdd {P:Program}{w:World}{K:aG}{tg:Expr} (a it:Addr) (o:Obj) (kvs:List (Key×V)) (ep:Nat) (hep:∃ es,o.data=.dict es ep):Turn P w K tg (Itd a o kvs) [it] it (fun i h=>h.IsKeyIter it a i kvs.length ep) where
  mem:=by simp
  obj:=fun i h st b hb=>by
    have e:b=it:=by simpa using hb
    subst e;obtain ⟨o,e,c,d⟩:=st;exact ⟨o,e,fun v z=>by rw [d] at z;cases z⟩
  keep:=fun i h h' st k=>st.at fun o e=>k it (by simp) o e
  item:=by
    intro X hP hw hK hc i pins s σ H E I hf st hg;subst hP hw hK;obtain ⟨hz,hi⟩:=hg;obtain ⟨ho,z,hd,vs,rel,dd⟩:s.heap.get? a=some o∧kvs.length≤sizeLine∧(a == sysModules)=false∧∃ vs,KV kvs vs∧s.heap.DictOf (iH X.prog X.w) a vs:=I.hok a _ hz;obtain ⟨ep',hm⟩:=dd.dictAt;obtain ⟨es,hes⟩:=hep;have he:ep'=ep:=by
      obtain ⟨o',es',ho',_,hd',_⟩:=id hm;rw [ho] at ho';cases ho';rw [hes] at hd';injection hd' with _ e;exact e.symm
    subst he;have hl:=rel.length;have hv:vs[i]? =some vs[i]:=bO (by omega);have hv2:kvs[i]? =some kvs[i]:=bO hi;have hk:kvs[i].1=vs[i].1:=by
      have e:=rel.keys;have e1:(kvs.map (·.1))[i]? =some kvs[i].1:=by rw [bx,hv2];rfl
      have e2:(vs.map (·.1))[i]? =some vs[i].1:=by rw [bx,hv];rfl
      rw [e,e2] at e1;exact (Option.some.inj e1).symm
    obtain ⟨f0,f1,f2,f3,f4,f5⟩:=hf it (by simp);rw [hl] at st;refine wpAny_pyNext_dict_item st hm (k:=vs[i].1) (v:=vs[i].2) (by rw [hv]) fun key h' hkey st' sb=>?_;have I1:Inv X pins σ H { s with heap:=h' }:=I.turned (t':=s.toks) (fun b o hb e=>(sb.2 b hb).trans e) f0 f1 f3 f4 f5;obtain ⟨oi,e,c,d⟩:=id st';exact ⟨key,rfl,Zhy (s:={ s with heap:=h' }) e c d (by decide) ⟨kV kvs[i].1,H,I1,by rw [hk];exact Zq5 hkey,⟨rfl,_,hv2,rfl⟩,by rw [hl];exact st',fun b hb=>(hf b hb).1⟩⟩
  done:=by
    intro X hP hw hK hc i pins s σ H E I hf st hg;subst hP hw hK;obtain ⟨hz,hi⟩:=hg;obtain ⟨ho,z,hd,vs,rel,dd⟩:s.heap.get? a=some o∧kvs.length≤sizeLine∧(a == sysModules)=false∧∃ vs,KV kvs vs∧s.heap.DictOf (iH X.prog X.w) a vs:=I.hok a _ hz;obtain ⟨ep',hm⟩:=dd.dictAt;obtain ⟨es,hes⟩:=hep;have he:ep'=ep:=by
      obtain ⟨o',es',ho',_,hd',_⟩:=id hm;rw [ho] at ho';cases ho';rw [hes] at hd';injection hd' with _ e;exact e.symm
    subst he;have hl:=rel.length;obtain ⟨f0,f1,f2,f3,f4,f5⟩:=hf it (by simp);rw [hl] at st;exact wpAny_pyNext_dict_end (I.ok.hd hc) st hm (by rw [List.getElem?_eq_none];omega) fun h' eb=>⟨rfl,I.turned (t':=s.toks) (fun b o hb e=>eb b o hb e) f0 f1 f3 f4 f5⟩
  self:=fun _ _ _ _ _ st h=>wpAny_pyIter_keyiter st h
theorem Zjw {X:Cx}{tg:Expr}{d:Expr}{td:TE} (hd:PE X d td):PI X tg d (Zhp td):=by
 intro pins s σ H R I h;refine iD (hd pins s σ H _ I h) fun v s1 ⟨x,H1,I1,r1,q1⟩=>?_;obtain ⟨a,kvs,e,hq,q⟩:=q1;subst e;obtain rfl:v=Value.ref a:=r1;obtain ⟨z,hs,vs,rel,dd⟩:=YS I1.hok hq;obtain ⟨ep,hm⟩:=dd.dictAt;obtain ⟨o,es,ho,_,hes,_⟩:=id hm;refine wpAny_pyIter_dict hs hm ?_;have I2:=Zi4 I1 hq ho;have hne:s1.heap.objs.size≠a:=Nat.ne_of_gt (Heap.lt_size ho);refine ⟨s1.heap.objs.size,[s1.heap.objs.size],_,_,_,rfl,I2.kept (t':=s1.toks) fun b o e=>Heap.get?_push_of_some _ e,Zdd a _ o kvs ep ⟨es,hes⟩,?_,fun b hb=>?_,q o⟩
 ·rw [rel.length];exact ⟨_,Heap.get?_push_size _ rfl,rfl,rfl⟩
 ·have e:b=s1.heap.objs.size:=by simpa using hb
  subst e;exact Zov (I1.Zi5 (Nat.le_refl _) (I1.hok.fresh (Nat.le_refl _))) hne
section
variable {X:Cx}{i o:Expr}{ty td:TE}
end
end G
namespace G
open PySem L2 PySem.Spec PyProof.Rows
section
variable {X:Cx}
end
end G
namespace G
open PySem L2 PySem.Spec PyProof.Rows
end G
namespace G
open PySem L2 PySem.Spec PyProof.Rows
def Zfm (M1 M2 M3 M4:Value→Prop) (tb:(L2.St→XK)→TS) (t1 t2 t3 t4:TS):TS:=fun D σ H=>tb (fun σ' cls _ H'=>(M1 cls∧t1 D σ' H')∨(M2 cls∧t2 D σ' H')∨(M3 cls∧t3 D σ' H')∨(M4 cls∧t4 D σ' H')) D σ H
theorem Zo0 {M1 M2 M3 M4:Value→Prop}{tb:(L2.St→XK)→TS}{t1 t2 t3 t4:TS}{σ:L2.St}{H:Hp}{n:L2.St→Hp→Prop}{r:VK}{b c:L2.St→Hp→Prop} (h:tb (fun σ' cls _ H'=>(M1 cls∧t1 ⟨n,r,b,c⟩ σ' H')∨(M2 cls∧t2 ⟨n,r,b,c⟩ σ' H')∨(M3 cls∧t3 ⟨n,r,b,c⟩ σ' H')∨(M4 cls∧t4 ⟨n,r,b,c⟩ σ' H')) ⟨n,r,b,c⟩ σ H):Zfm M1 M2 M3 M4 tb t1 t2 t3 t4 ⟨n,r,b,c⟩ σ H:=h
section
variable {X:Cx}{x1 x2 x3 x4:Str}{C1 C2 C3 C4:Addr}{pos np1 np2 np3 np4 hp1 hp2 hp3 hp4:Pos}{body su1 su2 su3 su4:List Stmt}{b1 b2 b3 b4:Stmt}{M1 M2 M3 M4:Value→Prop}{tb:(L2.St→XK)→TS}{t1 t2 t3 t4:TS}
theorem Zjo (hst:X.stack=X.env :: X.outer∧X.env.frame=some X.env.locals) (hg1:Gl X x1) (hm1:X.mg x1=some (.ref C1)) (hg2:Gl X x2) (hm2:X.mg x2=some (.ref C2)) (hg3:Gl X x3) (hm3:X.mg x3=some (.ref C3)) (hg4:Gl X x4) (hm4:X.mg x4=some (.ref C4)) (hM1:∀ c,M1 c→PySem.W.exmOne X.K c (.ref C1)=some true) (hM2:∀ c,M2 c→PySem.W.exmOne X.K c (.ref C1)=some false∧PySem.W.exmOne X.K c (.ref C2)=some true) (hM3:∀ c,M3 c→PySem.W.exmOne X.K c (.ref C1)=some false∧PySem.W.exmOne X.K c (.ref C2)=some false∧PySem.W.exmOne X.K c (.ref C3)=some true) (hM4:∀ c,M4 c→PySem.W.exmOne X.K c (.ref C1)=some false∧PySem.W.exmOne X.K c (.ref C2)=some false∧PySem.W.exmOne X.K c (.ref C3)=some false∧PySem.W.exmOne X.K c (.ref C4)=some true)
  (hb:∀ (E:L2.St→XK) (pn:List (Addr×Obj)) (xe:Value→Shared→Prop),Zd8 (Kv X.prog X.w) (cxB X pn xe) E→SQ (cxB X pn xe) body (tb E))
  (hs1:∀ (ea:Value) (pn:List (Addr×Obj)),SQ (Xd X ea pn) (b1 :: su1) t1) (hs2:∀ (ea:Value) (pn:List (Addr×Obj)),SQ (Xd X ea pn) (b2 :: su2) t2) (hs3:∀ (ea:Value) (pn:List (Addr×Obj)),SQ (Xd X ea pn) (b3 :: su3) t3) (hs4:∀ (ea:Value) (pn:List (Addr×Obj)),SQ (Xd X ea pn) (b4 :: su4) t4) (hd1:(x1 == ("__debug__":Str))=false:=by decide) (hd2:(x2 == ("__debug__":Str))=false:=by decide) (hd3:(x3 == ("__debug__":Str))=false:=by decide) (hd4:(x4 == ("__debug__":Str))=false:=by decide):
  PS X (.Try body [.ExceptHandler (some (.Name x1 np1)) none (b1 :: su1) hp1,.ExceptHandler (some (.Name x2 np2)) none (b2 :: su2) hp2,.ExceptHandler (some (.Name x3 np3)) none (b3 :: su3) hp3,.ExceptHandler (some (.Name x4 np4)) none (b4 :: su4) hp4] [] [] pos) (Zfm M1 M2 M3 M4 tb t1 t2 t3 t4):=by
 intro pins s σ H D I h;refine wpAny_Try_except ?_;have hx:Zd8 (Kv X.prog X.w) (cxB X (X.pn ++ pins) fun e s'=>∃ σ H s,Inv X pins σ H s∧Kv X.prog X.w X.stack H s (fun cls _ H'=>(M1 cls∧t1 D σ H')∨(M2 cls∧t2 D σ H')∨(M3 cls∧t3 D σ H')∨(M4 cls∧t4 D σ H')) e s') (fun σ' cls _ H'=>(M1 cls∧t1 D σ' H')∨(M2 cls∧t2 D σ' H')∨(M3 cls∧t3 D σ' H')∨(M4 cls∧t4 D σ' H')):=
  fun pl σ H s e s' J z=>⟨σ,H,s,M5 I.ok J,z⟩
 refine wpAny_mono (hb _ _ _ hx [] s σ H D (Zmj I _) h) (fun f s1 q=>?_) fun e s1 q=>?_
 ·have q:=Zmq I.ok q;cases f with
  | next=>exact wpAny_execs_nil q
  | ret v=>exact q
  | brk=>exact q
  | cont=>exact q
 ·obtain ⟨σ1,H1,s0,J,ea,cls,a0,B,H2,rfl,os,bare,un,ok,fl,hB,hM⟩:=q;have fl0:=fl;rw [hst.1] at fl0;refine wpAny_looks_onW (hst.1 ▸ J.ok.frames) hst.2 fl0 fun h4 Zr1 sm4=>?_;refine wpAny_landsW Zr1 fun h5 fl5 sm5=>?_;have Zfq:s1.heap.UpToSlots h5:=sm4.trans sm5;have J5:=flown J os bare un ok fl hB fl5.1 Zfq;obtain ⟨ob,hob,hoc⟩:=id fl5.there;have LT:PySem.W.Looks (model X.prog X.w) h5 (typeOf (.ref ea)) cls:=hoc ▸ (PySem.W.Looks.ld hob).andThen .now;rcases hM with ⟨hM,hth⟩ | ⟨hM,hth⟩ | ⟨hM,hth⟩ | ⟨hM,hth⟩
  ·have m1:=hM1 cls hM;refine wpAny_handleBy_cons (codeAny_handlers_test (jA (X:=Xd X (.ref ea) (X.pn ++ pins)) (oR J5 (.ref ea)) hg1 hm1 ?_ hd1)) (by intro z;cases z);refine (PySem.W.exm_one J5.ux LT m1).here ?_;refine codeAny_handlers_suite ?_;refine lands_againW fl5 fun h6 fl6 sm6=>?_;have J6:=flown J os bare un ok fl hB fl6.1 (Zfq.trans sm6);refine wpAny_mono (hs1 (.ref ea) (X.pn ++ pins) [] _ σ1 H2 D (oR J6 (.ref ea)) hth) (fun f s2 q=>Tc I.ok q) fun _ _ z=>z.elim
  ·obtain ⟨m1,m2⟩:=hM2 cls hM;refine wpAny_handleBy_cons (codeAny_handlers_test (jA (X:=Xd X (.ref ea) (X.pn ++ pins)) (oR J5 (.ref ea)) hg1 hm1 ?_ hd1)) (by intro z;cases z);refine (PySem.W.exm_one J5.ux LT m1).here ?_;refine wpAny_handleBy_cons (codeAny_handlers_test (jA (X:=Xd X (.ref ea) (X.pn ++ pins)) (oR J5 (.ref ea)) hg2 hm2 ?_ hd2)) (by intro z;cases z);refine (PySem.W.exm_one J5.ux LT m2).here ?_;refine codeAny_handlers_suite ?_;refine lands_againW fl5 fun h6 fl6 sm6=>?_;have J6:=flown J os bare un ok fl hB fl6.1 (Zfq.trans sm6);refine wpAny_mono (hs2 (.ref ea) (X.pn ++ pins) [] _ σ1 H2 D (oR J6 (.ref ea)) hth) (fun f s2 q=>Tc I.ok q) fun _ _ z=>z.elim
  ·obtain ⟨m1,m2,m3⟩:=hM3 cls hM;refine wpAny_handleBy_cons (codeAny_handlers_test (jA (X:=Xd X (.ref ea) (X.pn ++ pins)) (oR J5 (.ref ea)) hg1 hm1 ?_ hd1)) (by intro z;cases z);refine (PySem.W.exm_one J5.ux LT m1).here ?_;refine wpAny_handleBy_cons (codeAny_handlers_test (jA (X:=Xd X (.ref ea) (X.pn ++ pins)) (oR J5 (.ref ea)) hg2 hm2 ?_ hd2)) (by intro z;cases z);refine (PySem.W.exm_one J5.ux LT m2).here ?_;refine wpAny_handleBy_cons (codeAny_handlers_test (jA (X:=Xd X (.ref ea) (X.pn ++ pins)) (oR J5 (.ref ea)) hg3 hm3 ?_ hd3)) (by intro z;cases z);refine (PySem.W.exm_one J5.ux LT m3).here ?_;refine codeAny_handlers_suite ?_;refine lands_againW fl5 fun h6 fl6 sm6=>?_;have J6:=flown J os bare un ok fl hB fl6.1 (Zfq.trans sm6);refine wpAny_mono (hs3 (.ref ea) (X.pn ++ pins) [] _ σ1 H2 D (oR J6 (.ref ea)) hth) (fun f s2 q=>Tc I.ok q) fun _ _ z=>z.elim
  ·obtain ⟨m1,m2,m3,m4⟩:=hM4 cls hM;refine wpAny_handleBy_cons (codeAny_handlers_test (jA (X:=Xd X (.ref ea) (X.pn ++ pins)) (oR J5 (.ref ea)) hg1 hm1 ?_ hd1)) (by intro z;cases z);refine (PySem.W.exm_one J5.ux LT m1).here ?_;refine wpAny_handleBy_cons (codeAny_handlers_test (jA (X:=Xd X (.ref ea) (X.pn ++ pins)) (oR J5 (.ref ea)) hg2 hm2 ?_ hd2)) (by intro z;cases z);refine (PySem.W.exm_one J5.ux LT m2).here ?_;refine wpAny_handleBy_cons (codeAny_handlers_test (jA (X:=Xd X (.ref ea) (X.pn ++ pins)) (oR J5 (.ref ea)) hg3 hm3 ?_ hd3)) (by intro z;cases z);refine (PySem.W.exm_one J5.ux LT m3).here ?_;refine wpAny_handleBy_cons (codeAny_handlers_test (jA (X:=Xd X (.ref ea) (X.pn ++ pins)) (oR J5 (.ref ea)) hg4 hm4 ?_ hd4)) (by intro z;cases z);refine (PySem.W.exm_one J5.ux LT m4).here ?_;refine codeAny_handlers_suite ?_;refine lands_againW fl5 fun h6 fl6 sm6=>?_;have J6:=flown J os bare un ok fl hB fl6.1 (Zfq.trans sm6);refine wpAny_mono (hs4 (.ref ea) (X.pn ++ pins) [] _ σ1 H2 D (oR J6 (.ref ea)) hth) (fun f s2 q=>Tc I.ok q) fun _ _ z=>z.elim
end
end G
namespace G
open PySem L2 PySem.Spec PyProof.Rows
def Zfn (td ty:TE):TE:=fun σ H Q=>td σ H fun x H1=>∃ a,x=.ref a∧IsD H1 a∧ty σ H1 fun y H2=>∃ b kvs more,y=.ref b∧a≠b∧H2 a=some (.dK kvs)∧H2 b=some (.dK more)∧kvs.length + more.length≤1000∧Q .non (upd H2 a (.dK (p8 kvs more)))
theorem Zof {td ty:TE}{σ:L2.St}{H:Hp}{Q:VK} (h:td σ H fun x H1=>∃ a,x=.ref a∧IsD H1 a∧ty σ H1 fun y H2=>∃ b kvs more,y=.ref b∧a≠b∧H2 a=some (.dK kvs)∧H2 b=some (.dK more)∧kvs.length + more.length≤1000∧Q .non (upd H2 a (.dK (p8 kvs more)))):Zfn td ty σ H Q:=h
theorem Zk5 {X:Cx}{o e:Expr}{apos cpos:Pos}{td ty:TE} (ho:PE X o td) (he:PE X e ty) (m:M1 X o "update" apos e cpos):PE X (.Call (.Attribute o "update" apos) [e] [] cpos) (Zfn td ty):=by
 intro pins s σ H Q I h;refine wpAny_Call_method m.base m.few m.line PySem.F.plainAttrs_dict PySem.F.slot_dict_update PySem.F.type_dict_update (iD (ho pins s σ H _ I h) fun u s1 ⟨x,H1,I1,rx,a,ex,d,q1⟩=>?_);subst ex;obtain rfl:u=Value.ref a:=rx;obtain ⟨t1,t2,_⟩:=Znx I1 d;refine ⟨t1,t2,?_⟩;rw [m.trees];refine Calls.callWith_builtin rfl (Calls.evalArgs_plain (Calls.spliced_cons (iD (he pins s1 σ H1 _ I1 q1) fun iv s2 ⟨y,H2,I2,ry,b,kvs,more,ey,ne,ea,eb,hz,q2⟩=>Calls.spliced_nil ?_)));subst ey;obtain rfl:iv=Value.ref b:=ry;obtain ⟨z1,hd1,vs1,r1,dd1⟩:=YS I2.hok ea;obtain ⟨z2,hd2,vs2,r2,dd2⟩:=YS I2.hok eb;refine call_meetsIn PySem.F.slot_dict_update dd1.typeIs PySem.F.entry_dict_update (PySem.F.args_dict_update_2 _ _) (meets_dict_update (iH X.prog X.w) a b ne hd2) ⟨vs1,vs2,dd1,dd2,?_,fun h' d1' d2' hs=>?_⟩
 ·have e1:=r1.length;have e2:=r2.length;rw [sizeLine_eq];omega
 have hz':(p8 kvs more).length≤sizeLine:=by
  have h1:=vo more kvs;rw [sizeLine_eq];omega
 have hn:∃ q,h'.get? a=some q:=let ⟨q,_,_,hq,_⟩:=d1';⟨q,hq⟩
 exact ⟨.non,_,KZ I2 (by rw [ea];exact True.intro) hs hn (Zc0 hz' hd1 (r2.merge r1) d1'),rfl,q2⟩
end G
namespace G
open PySem L2
def Zfy:R2:=fun x y H Q=>∃ i j,x=.str i∧y=.str j∧Q (.bl (!(Builtin.Str.occurrences j i 0 j.length 1).isEmpty)) H
theorem Zqm {i j:Str}{H:Hp}{Q:VK} (h:Q (.bl (!(Builtin.Str.occurrences j i 0 j.length 1).isEmpty)) H):Zfy (.str i) (.str j) H Q:=⟨i,j,rfl,rfl,h⟩
theorem Zae {X:Cx}:ym X (compareOp .In) Zfy:=Ze2
end G
local macro_rules | `(tactic| walk_at "g2")=>`(tactic| with_reducible first | refine G.Nr ?_ | refine G.Zog ?_ | refine G.Zqe ?_ | refine G.Zt5 ?_ | refine G.Zmb ?_ | refine G.i_C ?_ | refine G.Zt3 ?_ | refine G.Zsz ?_ | refine G.i_B ?_ | refine G.Zo1 ?_ | refine G.Zt0 ?_ | refine G.Zqw ?_ | refine G.Zt2 ?_ | refine G.Zqf ?_ | refine G.Zol ?_ | refine G.Zo4 ?_ | refine G.Zqn ?_ | refine G.Zti ?_ | refine G.i_U ?_ | refine G.Zqv ?_ | refine G.Zqu ?_ | refine G.Zqi ?_ | refine G.Zqh ?_ | refine G.Zod ?_ | refine G.Zoc ?_ | refine G.Zob ?_ | refine G.Zoa ?_ | refine G.Zo9 ?_ | refine G.Zl0 ?_ | refine G.Zkz ?_ | refine G.Zb6 ?_ | refine G.zQ ?_ | refine G.Zl3 ?_ | refine G.Zl4 ?_ | refine G.Zqg ?_ | refine G.Zoj ?_ | refine G.Zqj ?_ | refine G.Zqc ?_ | refine G.Zok ?_ | refine G.Ztj ?_ | refine G.Zo7 ?_ | refine G.Zqt ?_ | refine G.Zo2 ?_ | refine G.Zo6 ?_ | refine G.Zhn ?_ | refine G.Zo3 ?_ | refine G.Zt4 ?_ | refine G.Zt1 ?_ | refine G.Zth ?_ | refine G.Zqs ?_ | refine G.Zt7 ?_ | refine G.Zt6 ?_ | refine G.Zsy ?_ | refine G.Zsx ?_ | refine G.Zsw ?_ | refine G.Zsv ?_ | refine G.Zsu ?_ | refine G.Zst ?_ | refine G.Zss ?_ | refine G.Zsr ?_ | refine G.Zsq ?_ | refine G.Zsp ?_ | refine G.Zqb ?_ | refine G.Zqa ?_ | refine G.Zq9 ?_ | refine G.Ztg ?_ | refine G.Ztf ?_ | refine G.Zte ?_ | refine G.Ztd ?_ | refine G.Ztc ?_ | refine G.Ztb ?_ | refine G.Zta ?_ | refine G.Zt9 ?_ | refine G.Zqo ?_ | refine G.Zqr ?_ | refine G.Zqq ?_ | refine G.Zqp ?_ | refine G.zP ?_ | refine G.Zl5 ?_ | refine G.Zky ?_ | refine G.Zl6 ?_ | refine G.Zoe ?_ | refine G.Zql ?_ | refine G.Zl1 ?_ | refine G.Zqd ?_ | refine G.Zoi ?_ | refine G.Zho ?_ | refine G.Zoh ?_ | refine G.Zo8 ?_ | refine G.Zbd ?_ | refine G.Yx ?_ | refine G.Zba ?_ | refine G.Zb9 ?_ | refine G.Zo0 ?_ | refine G.Zof ?_ | refine G.Zqm ?_ | refine G.Zt8 ?_)
local macro_rules | `(tactic| walk_at "g1")=>`(tactic| first | (with_reducible refine G.Zct ?_) | walk_at "g2")
local macro_rules | `(tactic| walk_at "ne")=>`(tactic| first | assumption | (exact Ne.symm (by assumption)) | exact L2.aD (by assumption) (by assumption) | exact Ne.symm (L2.aD (by assumption) (by assumption)) | exact Nat.ne_of_lt (by assumption))
local macro_rules | `(tactic| walk_at "hp")=>`(tactic| first | assumption | exact L2.aq | (refine Eq.trans (L2.aA ?hne) ?_;(case hne=>walk_at "ne");walk_at "hp"))
local macro_rules | `(tactic| walk_at "side")=>`(tactic| first | omega | decide | (show (_:Int) < _;decide) | exact ⟨by decide,by decide⟩ | exact ⟨by decide,by decide,by decide⟩ | (unfold L2.Xb;omega) | exact .inl (by unfold L2.Xb;omega))
local macro_rules | `(tactic| walk_at "ev")=>`(tactic| repeat (first | walk_at "g1" | ((with_reducible refine G.i_I ?hc ?_);(case hc=>walk_at "side"))))
local macro_rules | `(tactic| walk_at "es")=>`(tactic| repeat (first | walk_at "g2" | ((with_reducible refine G.i_I ?hc ?_);(case hc=>walk_at "side"))))
local macro_rules | `(tactic| walk_at "caps")=>`(tactic| simp only [List.map_cons,List.map_nil,G.pick,List.getElem?_cons_zero,List.getElem?_cons_succ])
namespace rM
open PySem L2 G
def mV (birth:Int) (bulk:Int) (tone:Int) (load:Int) (fa:Addr):List (Str×V):=[("birth",.int birth),("bulk",.int bulk),("tone",.int tone),("load",.int load),("fields",.ref fa)]
theorem jX {birth:Int}{bulk:Int}{tone:Int}{load:Int}{fa:Addr}:List.lookup ("birth":Str) (mV birth bulk tone load fa)=some (.int birth:V):=rfl
theorem Bm {birth:Int}{bulk:Int}{tone:Int}{load:Int}{fa:Addr}:List.lookup ("bulk":Str) (mV birth bulk tone load fa)=some (.int bulk:V):=rfl
theorem QW {birth:Int}{bulk:Int}{tone:Int}{load:Int}{fa:Addr}:List.lookup ("tone":Str) (mV birth bulk tone load fa)=some (.int tone:V):=rfl
theorem vz {birth:Int}{bulk:Int}{tone:Int}{load:Int}{fa:Addr}:List.lookup ("load":Str) (mV birth bulk tone load fa)=some (.int load:V):=rfl
theorem nR {birth:Int}{bulk:Int}{tone:Int}{load:Int}{fa:Addr}:List.lookup ("fields":Str) (mV birth bulk tone load fa)=some (.ref fa:V):=rfl
theorem Oc {birth:Int}{bulk:Int}{tone:Int}{load:Int}{fa:Addr} (y:Int):cj "tone" (.int y) (mV birth bulk tone load fa)=mV birth bulk y load fa:=rfl
theorem Od {birth:Int}{bulk:Int}{tone:Int}{load:Int}{fa:Addr} (y:Int):cj "load" (.int y) (mV birth bulk tone load fa)=mV birth bulk tone y fa:=rfl
theorem Zil {birth:Int}{bulk:Int}{tone:Int}{load:Int}{fa:Addr}:(cj "fields" (.ref fa) (cj "load" (.int load) (cj "tone" (.int tone) (cj "bulk" (.int bulk) (cj "birth" (.int birth) [])))))=mV birth bulk tone load fa:=rfl
theorem zV {birth:Int}{bulk:Int}{tone:Int}{load:Int}{fa:Addr}:List.lookup ("units":Str) (mV birth bulk tone load fa)=none:=rfl
theorem Cq {birth:Int}{bulk:Int}{tone:Int}{load:Int}{fa:Addr}:List.lookup ("has_field":Str) (mV birth bulk tone load fa)=none:=rfl
def mU (room:Int) (ca:Addr) (used:Int) (born:Int):List (Str×V):=[("room",.int room),("cells",.ref ca),("used",.int used),("born",.int born)]
theorem Qz {room:Int}{ca:Addr}{used:Int}{born:Int}:List.lookup ("room":Str) (mU room ca used born)=some (.int room:V):=rfl
theorem dM {room:Int}{ca:Addr}{used:Int}{born:Int}:List.lookup ("cells":Str) (mU room ca used born)=some (.ref ca:V):=rfl
theorem Bl {room:Int}{ca:Addr}{used:Int}{born:Int}:List.lookup ("used":Str) (mU room ca used born)=some (.int used:V):=rfl
theorem QB {room:Int}{ca:Addr}{used:Int}{born:Int}:List.lookup ("born":Str) (mU room ca used born)=some (.int born:V):=rfl
theorem Nx {room:Int}{ca:Addr}{used:Int}{born:Int} (y:Int):cj "used" (.int y) (mU room ca used born)=mU room ca y born:=rfl
theorem Ny {room:Int}{ca:Addr}{used:Int}{born:Int} (y:Int):cj "born" (.int y) (mU room ca used born)=mU room ca used y:=rfl
theorem Zhs {room:Int}{ca:Addr}{used:Int}{born:Int}:(cj "born" (.int born) (cj "used" (.int used) (cj "cells" (.ref ca) (cj "room" (.int room) []))))=mU room ca used born:=rfl
theorem Qw {room:Int}{ca:Addr}{used:Int}{born:Int}:List.lookup ("make":Str) (mU room ca used born)=none:=rfl
theorem VR {room:Int}{ca:Addr}{used:Int}{born:Int}:List.lookup ("lay":Str) (mU room ca used born)=none:=rfl
theorem Qy {room:Int}{ca:Addr}{used:Int}{born:Int}:List.lookup ("free":Str) (mU room ca used born)=none:=rfl
theorem Nz {room:Int}{ca:Addr}{used:Int}{born:Int}:List.lookup ("there":Str) (mU room ca used born)=none:=rfl
def Ej (lk:Addr) (tl:Int):List (Str×V):=[("looking",.ref lk),("tells",.int tl)]
theorem jj {lk:Addr}{tl:Int}:List.lookup ("looking":Str) (Ej lk tl)=some (.ref lk:V):=rfl
theorem jt {lk:Addr}{tl:Int}:List.lookup ("tells":Str) (Ej lk tl)=some (.int tl:V):=rfl
theorem Zhh {lk:Addr}{tl:Int}:(cj "tells" (.int tl) (cj "looking" (.ref lk) []))=Ej lk tl:=rfl
theorem Ni {lk:Addr}{tl:Int}:List.lookup ("words":Str) (Ej lk tl)=none:=rfl
def Yz (nm:Str) (sa:Addr):List (Str×V):=[("name",.str nm),("slots",.ref sa)]
theorem zR {nm:Str}{sa:Addr}:List.lookup ("slots":Str) (Yz nm sa)=some (.ref sa:V):=rfl
theorem Zhw {nm:Str}{sa:Addr}:(cj "slots" (.ref sa) (cj "name" (.str nm) []))=Yz nm sa:=rfl
def yr (hp:Addr) (ki:Addr) (hl:Addr) (nm:Addr) (sw:Addr):List (Str×V):=[("heap",.ref hp),("kind",.ref ki),("hands",.ref hl),("names",.ref nm),("sweeper",.ref sw)]
theorem cB {hp:Addr}{ki:Addr}{hl:Addr}{nm:Addr}{sw:Addr}:List.lookup ("heap":Str) (yr hp ki hl nm sw)=some (.ref hp:V):=rfl
theorem lR {hp:Addr}{ki:Addr}{hl:Addr}{nm:Addr}{sw:Addr}:List.lookup ("kind":Str) (yr hp ki hl nm sw)=some (.ref ki:V):=rfl
theorem lC {hp:Addr}{ki:Addr}{hl:Addr}{nm:Addr}{sw:Addr}:List.lookup ("hands":Str) (yr hp ki hl nm sw)=some (.ref hl:V):=rfl
theorem nj {hp:Addr}{ki:Addr}{hl:Addr}{nm:Addr}{sw:Addr}:List.lookup ("names":Str) (yr hp ki hl nm sw)=some (.ref nm:V):=rfl
theorem eE {hp:Addr}{ki:Addr}{hl:Addr}{nm:Addr}{sw:Addr}:List.lookup ("sweeper":Str) (yr hp ki hl nm sw)=some (.ref sw:V):=rfl
theorem Zd9 {hp:Addr}{ki:Addr}{hl:Addr}{nm:Addr}{sw:Addr}:(cj "sweeper" (.ref sw) (cj "names" (.ref nm) (cj "hands" (.ref hl) (cj "kind" (.ref ki) (cj "heap" (.ref hp) [])))))=yr hp ki hl nm sw:=rfl
def dY (se:Int) (ph:Str) (gr:Addr) (lo:Int) (tu:Int) (at_:Int) (st:Int) (wa:Int) (ls:Int) (pa:Int) (lx:V):List (Str×V):=[("sense",.int se),("phase",.str ph),("grey",.ref gr),("looked",.int lo),("turn",.int tu),("at",.int at_),("stop",.int st),("walks",.int wa),("looks",.int ls),("passes",.int pa),("loss",lx)]
theorem nu {se:Int}{ph:Str}{gr:Addr}{lo:Int}{tu:Int}{at_:Int}{st:Int}{wa:Int}{ls:Int}{pa:Int}{lx:V}:List.lookup ("sense":Str) (dY se ph gr lo tu at_ st wa ls pa lx)=some (.int se:V):=rfl
theorem nA {se:Int}{ph:Str}{gr:Addr}{lo:Int}{tu:Int}{at_:Int}{st:Int}{wa:Int}{ls:Int}{pa:Int}{lx:V}:List.lookup ("phase":Str) (dY se ph gr lo tu at_ st wa ls pa lx)=some (.str ph:V):=rfl
theorem sW {se:Int}{ph:Str}{gr:Addr}{lo:Int}{tu:Int}{at_:Int}{st:Int}{wa:Int}{ls:Int}{pa:Int}{lx:V}:List.lookup ("grey":Str) (dY se ph gr lo tu at_ st wa ls pa lx)=some (.ref gr:V):=rfl
theorem Gd {se:Int}{ph:Str}{gr:Addr}{lo:Int}{tu:Int}{at_:Int}{st:Int}{wa:Int}{ls:Int}{pa:Int}{lx:V}:List.lookup ("looked":Str) (dY se ph gr lo tu at_ st wa ls pa lx)=some (.int lo:V):=rfl
theorem LC {se:Int}{ph:Str}{gr:Addr}{lo:Int}{tu:Int}{at_:Int}{st:Int}{wa:Int}{ls:Int}{pa:Int}{lx:V}:List.lookup ("turn":Str) (dY se ph gr lo tu at_ st wa ls pa lx)=some (.int tu:V):=rfl
theorem FZ {se:Int}{ph:Str}{gr:Addr}{lo:Int}{tu:Int}{at_:Int}{st:Int}{wa:Int}{ls:Int}{pa:Int}{lx:V} (y:Int):cj "sense" (.int y) (dY se ph gr lo tu at_ st wa ls pa lx)=dY y ph gr lo tu at_ st wa ls pa lx:=rfl
theorem Ga {se:Int}{ph:Str}{gr:Addr}{lo:Int}{tu:Int}{at_:Int}{st:Int}{wa:Int}{ls:Int}{pa:Int}{lx:V} (y:Str):cj "phase" (.str y) (dY se ph gr lo tu at_ st wa ls pa lx)=dY se y gr lo tu at_ st wa ls pa lx:=rfl
theorem J8 {se:Int}{ph:Str}{gr:Addr}{lo:Int}{tu:Int}{at_:Int}{st:Int}{wa:Int}{ls:Int}{pa:Int}{lx:V} (y:Addr):cj "grey" (.ref y) (dY se ph gr lo tu at_ st wa ls pa lx)=dY se ph y lo tu at_ st wa ls pa lx:=rfl
theorem CT {se:Int}{ph:Str}{gr:Addr}{lo:Int}{tu:Int}{at_:Int}{st:Int}{wa:Int}{ls:Int}{pa:Int}{lx:V} (y:Int):cj "looked" (.int y) (dY se ph gr lo tu at_ st wa ls pa lx)=dY se ph gr y tu at_ st wa ls pa lx:=rfl
theorem J7 {se:Int}{ph:Str}{gr:Addr}{lo:Int}{tu:Int}{at_:Int}{st:Int}{wa:Int}{ls:Int}{pa:Int}{lx:V} (y:Int):cj "turn" (.int y) (dY se ph gr lo tu at_ st wa ls pa lx)=dY se ph gr lo y at_ st wa ls pa lx:=rfl
theorem FW {se:Int}{ph:Str}{gr:Addr}{lo:Int}{tu:Int}{at_:Int}{st:Int}{wa:Int}{ls:Int}{pa:Int}{lx:V} (y:Int):cj "walks" (.int y) (dY se ph gr lo tu at_ st wa ls pa lx)=dY se ph gr lo tu at_ st y ls pa lx:=rfl
theorem Gb {se:Int}{ph:Str}{gr:Addr}{lo:Int}{tu:Int}{at_:Int}{st:Int}{wa:Int}{ls:Int}{pa:Int}{lx:V} (y:Int):cj "looks" (.int y) (dY se ph gr lo tu at_ st wa ls pa lx)=dY se ph gr lo tu at_ st wa y pa lx:=rfl
theorem CQ {se:Int}{ph:Str}{gr:Addr}{lo:Int}{tu:Int}{at_:Int}{st:Int}{wa:Int}{ls:Int}{pa:Int}{lx:V} (y:Int):cj "passes" (.int y) (dY se ph gr lo tu at_ st wa ls pa lx)=dY se ph gr lo tu at_ st wa ls y lx:=rfl
theorem Zdf {se:Int}{ph:Str}{gr:Addr}{lo:Int}{tu:Int}{at_:Int}{st:Int}{wa:Int}{ls:Int}{pa:Int}{lx:V}:(cj "loss" (lx) (cj "passes" (.int pa) (cj "looks" (.int ls) (cj "walks" (.int wa) (cj "stop" (.int st) (cj "at" (.int at_) (cj "turn" (.int tu) (cj "looked" (.int lo) (cj "grey" (.ref gr) (cj "phase" (.str ph) (cj "sense" (.int se) [])))))))))))=dY se ph gr lo tu at_ st wa ls pa lx:=rfl
def pX (K:aG):TS:=
 (aK (jC K (aj 0) (aj 1) "birth")
   (aK (jC K (aj 0) (aj 3) "bulk")
   (aK (jC K (aj 0) (aj 4) "tone")
   (aK (jC K (aj 0) (tC (.int 0)) "load")
   (jC K (aj 0) (aY (Zdt) (jR (ak (tC .non) aL)) (aj 2)) "fields")))))
def uY (K:aG):TS:=
 (bI (aY (pJ fun i j=>.int (i + j)) (aY (pJ fun i j=>.int (i + j)) (tC (.int 1)) (Ad (G.mW K) (ak (cA K (aj 0) "fields") aL))) (cA K (aj 0) "bulk")))
def oY (K:aG):TS:=
 (bI (Zz (pJ fun i j=>.bl (decide (i≤j))) (pJ fun i j=>.bl (decide (i < j))) (tC (.int 0)) (aj 1) (Ad (G.mW K) (ak (cA K (aj 0) "fields") aL))))
def pU (K:aG):TS:=
 (aK (jC K (aj 0) (aj 1) "room")
   (aK (jC K (aj 0) (jR aL) "cells")
   (aK (jC K (aj 0) (tC (.int 0)) "used")
   (jC K (aj 0) (tC (.int 0)) "born"))))
def wY (K:aG) (bF bH bC:Addr) (Gj Ay Tq Xk:Sp) (E:XK):TS:=
 (aK (bB (CP bF Gj [] E0 (ak (aY (pJ fun i j=>.int (i + j)) (cA K (aj 0) "born") (tC (.int 1))) (ak (aj 1) (ak (aj 2) (ak (aj 3) aL))))) (aO 4))
   (aK (cZ (bR (aY (pJ fun i j=>.bl (decide (j < i))) (qF bF "units" Ay [] E0 (aj 4) aL) (qF bC "free" Tq [] E0 (aj 0) aL))) (G.FP bH E (ak (tC (.str "the room does not suffice")) aL)) bT)
   (aK (jC K (aj 0) (cA K (aj 4) "birth") "born")
   (aK (jC K (aj 0) (aY (pJ fun i j=>.int (i + j)) (cA K (aj 0) "used") (qF bF "units" Ay [] E0 (aj 4) aL)) "used")
   (bI (qF bC "lay" Xk [] E0 (aj 0) (ak (aj 4) aL)))))))
def yW (K:aG):TS:=
 (aK (cZ (bR (aY (G.Zmw K true) (tC .non) (cA K (aj 0) "cells"))) (aK (rH (ZF K "list" mJ (cA K (aj 0) "cells") (ak (aj 1) aL)))
   (bI (aY (pJ fun i j=>.int (i - j)) (Ad (G.mW K) (ak (cA K (aj 0) "cells") aL)) (tC (.int 1))))) bT)
   (aK (bB (ZF K "list" (G.Zcf K) (cA K (aj 0) "cells") (ak (tC .non) aL)) (aO 2))
   (aK (bB (aj 1) (yl (cA K (aj 0) "cells") (aj 2) qH))
   (bI (aj 2)))))
def wZ (K:aG):TS:=
 (bI (aY (pJ fun i j=>.int (i - j)) (cA K (aj 0) "room") (cA K (aj 0) "used")))
def uW (K:aG):TS:=
 (bI (G.tLC (Es (ak (Ad (G.mW K) (ak (cA K (aj 0) "cells") aL)) aL)) [0] (bR (aY (G.Ms) (aY (d7 K) (cA K (aj 1) "cells") (aj 0)) (tC .non))) (aj 0)))
def Ca (K:aG):TS:=
 (aK (cZ ((tOr (bR (aY (G.Dj) (aj 1) (tC .non))) (tOr (bR (aY (pJ fun i j=>.bl (decide (i < j))) (aj 1) (tC (.int 0)))) (bR (aY (pJ fun i j=>.bl (decide (j≤i))) (aj 1) (Ad (G.mW K) (ak (cA K (aj 0) "cells") aL))))))) (bI (tC .non)) bT)
   (bI (aY (d7 K) (cA K (aj 0) "cells") (aj 1))))
def yU (K:aG) (nU:Sp):TS:=
 (aK (bB (bz nU [] E0 (ak (aj 0) (ak (aj 1) aL))) (aO 2))
   (aK (cZ (bR (aY (G.Dj) (aj 2) (tC .non))) (bI (tC .non)) bT)
   (bI (cA K (aj 2) "birth"))))
def Hf:TS:=
 (bI (aY (pJ fun i j=>.int (i - j)) (aY (rI Rj fun i j=>.int (i * 2 ^ j.toNat)) (tC (.int 1)) (aj 0)) (tC (.int 1))))
def mY:TS:=
 (bI (tC (.int 0)))
def uX:TS:=
 (bI (tC (.str "first")))
def oX (Zdj:Sp):TS:=
 (bI (bz Zdj [] E0 (ak (aj 1) aL)))
def w6:TS:=
 (bI (tC (.str "each")))
def wX:TS:=
 (bI (tC (.str "last")))
def pR (K:aG):TS:=
 (aK (jC K (aj 0) (aj 1) "looking")
   (jC K (aj 0) (aj 2) "tells"))
def uV (K:aG) (ir fC iJ:Addr) (Tr O5 Tj:Sp):TS:=
 (aK (bB (G.Zy (qF fC "word" O5 [] E0 (cA K (aj 0) "looking") aL) (G.Zy (qF ir "word" Tr [] E0 (cA K (aj 0) "looking") aL) (qF iJ "word" Tj [] E0 (cA K (aj 0) "looking") aL))) (aO 1))
   (aK (cZ (bR (aY (rNe) (aY (pJ fun i j=>.int (Builtin.bitAnd i j)) (cA K (aj 0) "tells") (tC (.int 1))) (tC (.int 0)))) (bB (aY (G.Dk) (aj 1) (tC (.str " old"))) (aO 1)) bT)
   (aK (cZ (bR (aY (rNe) (aY (pJ fun i j=>.int (Builtin.bitAnd i j)) (cA K (aj 0) "tells") (tC (.int 2))) (tC (.int 0)))) (bB (aY (G.Dk) (aj 1) (tC (.str " new"))) (aO 1)) bT)
   (bI (aj 1)))))
def BJ (K:aG) (ir fC iK iJ:Addr) (Gg O3:Sp):TS:=
 (aK (FT (vP K (jR (ak (G.Ly fC) (ak (G.Ly ir) (ak (G.Ly iJ) aL))))) (aO 1)
   (FT (Es (ak (tC (.int 4)) aL)) (aO 2)
   (aK (bB (CP iK Gg [] E0 (ak (aj 1) (ak (aj 2) aL))) (aO 3))
   (cZ (bR (aY (uZ) (qF iK "words" O3 [] E0 (aj 3) aL) (aj 0))) (bI (aj 3)) bT))))
   (bI (tC .non)))
def pW (K:aG):TS:=
 (aK (jC K (aj 0) (aj 1) "name")
   (jC K (aj 0) (aY (Zdt) (jR (ak (tC .non) aL)) (aj 2)) "slots"))
def mX (K:aG):TS:=
 (aK (jC K (aj 0) (tC (.int 0)) "sense")
   (aK (jC K (aj 0) (tC (.str "rest")) "phase")
   (aK (jC K (aj 0) (jR aL) "grey")
   (aK (jC K (aj 0) (tC (.int 0)) "looked")
   (aK (jC K (aj 0) (tC (.int 0)) "turn")
   (aK (jC K (aj 0) (tC (.int 0)) "at")
   (aK (jC K (aj 0) (tC (.int 0)) "stop")
   (aK (jC K (aj 0) (tC (.int 0)) "walks")
   (aK (jC K (aj 0) (tC (.int 0)) "looks")
   (aK (jC K (aj 0) (tC (.int 0)) "passes")
   (jC K (aj 0) (tC .non) "loss")))))))))))
def oW (K:aG) (jP bC bD:Addr) (Gi Gh Ae:Sp):TS:=
 (aK (jC K (aj 0) (CP bC Gh [] E0 (ak (aj 1) aL)) "heap")
   (aK (jC K (aj 0) (aj 2) "kind")
   (aK (jC K (aj 0) (G.Zmn K (vP K (aj 3)) [] G.vG (CP jP Gi [] E0 (ak (aj 0) (ak (aj 1) aL)))) "hands")
   (aK (jC K (aj 0) (Lz) "names")
   (jC K (aj 0) (CP bD Ae [] E0 aL) "sweeper")))))
def tH (K:aG) (v8:Sp):TS:=
 (bI (G.tLC (vP K (cA K (aj 0) "hands")) [0] G.vG (bz v8 [] E0 (ak (cA K (aj 1) "heap") (ak (cA K (aj 0) "slots") aL)))))
def wN (K:aG) (dI:Sp):TS:=
 (bI (G.tLC (vP K (aj 1)) [0] G.vG (bz dI [] E0 (ak (aj 1) (ak (aj 0) aL)))))
def wK (K:aG):TS:=
 (bI (aY (uZ) (aY (pJ fun i j=>.int (Builtin.bitAnd i j)) (aY (rI (fun _ j=>0≤j) fun i j=>.int (i / 2 ^ j.toNat)) (cA K (cA K (aj 0) "sweeper") "looked") (aj 1)) (tC (.int 1))) (tC (.int 1))))
def wL (K:aG):TS:=
 (bI (aY (uZ) (cA K (aj 1) "tone") (cA K (cA K (aj 0) "sweeper") "sense")))
def By (K:aG) (oU:Sp):TS:=
 (aK (bB (cA K (aj 0) "sweeper") (aO 2))
   (aK (bB (bz oU [] E0 (ak (aj 0) (ak (aY (d7 K) (cA K (cA K (aj 0) "heap") "cells") (aj 1)) aL))) (aO 3))
   (aK (cZ (bR (aY (uZ) (cA K (aj 2) "phase") (tC (.str "rest")))) (bI (tC (.str "kept"))) bT)
   (aK (cZ (bR (aY (uZ) (cA K (aj 2) "phase") (tC (.str "give")))) (bI (tIf (tB (aj 3)) (tC (.str "kept")) (tC (.str "doomed")))) bT)
   (aK (cZ (Lw (tB (aj 3))) (bI (tC (.str "pale"))) bT)
   (bI (tIf (bR (aY (rIn K false) (aj 1) (cA K (aj 2) "grey"))) (tC (.str "grey")) (tC (.str "dark")))))))))
def uN (K:aG) (bC:Addr) (O4 S8:Sp):TS:=
 (bI (G.tLC (vP K (qF bC "there" O4 [] E0 (cA K (aj 0) "heap") aL)) [0] G.vG (bz S8 [] E0 (ak (aj 1) (ak (aj 0) aL)))))
def wJ (K:aG) (v8 ZK:Sp):TS:=
 (aK (bB (aY (d7 K) (cA K (cA K (aj 0) "heap") "cells") (aj 1)) (aO 2))
   (aK (bB (bz v8 [] E0 (ak (cA K (aj 0) "heap") (ak (cA K (aj 2) "fields") aL))) (aO 3))
   (bI (lG (ak (aj 1) (ak (cA K (aj 2) "birth") (ak (cA K (aj 2) "bulk") (ak (cA K (aj 2) "load") (ak (aj 3) (ak (bz ZK [] E0 (ak (aj 0) (ak (aj 1) aL))) aL))))))))))
def Mr (K:aG) (ir fC iJ:Addr) (CZ rJ:Sp):TS:=
 (aK (bB (cA K (aj 0) "sweeper") (aO 1))
   (aK (jC K (aj 1) (aY (pJ fun i j=>.int (i - j)) (tC (.int 1)) (cA K (aj 1) "sense")) "sense")
   (aK (jC K (aj 1) (aY (pJ fun i j=>.int (i + j)) (cA K (aj 1) "turn") (tC (.int 1))) "turn")
   (aK (jC K (aj 1) (tC (.str "walk")) "phase")
   (aK (jC K (aj 1) (jR aL) "grey")
   (aK (jC K (aj 1) (G.Zy (qF fC "at_begin" CZ [] E0 (cA K (cA K (aj 0) "kind") "looking") (ak (Ad (G.mW K) (ak (cA K (aj 0) "hands") aL)) aL)) (G.Zy (qF ir "at_begin" rJ [] E0 (cA K (cA K (aj 0) "kind") "looking") (ak (Ad (G.mW K) (ak (cA K (aj 0) "hands") aL)) aL)) (qF iJ "at_begin" rJ [] E0 (cA K (cA K (aj 0) "kind") "looking") (ak (Ad (G.mW K) (ak (cA K (aj 0) "hands") aL)) aL)))) "looked")
   (aK (jC K (aj 1) (tC (.int 0)) "walks")
   (aK (jC K (aj 1) (tC (.int 0)) "looks")
   (jC K (aj 1) (tC (.int 0)) "passes")))))))))
def Uj (K:aG) (nU oU:Sp):TS:=
 (aK (bB (cA K (aj 0) "sweeper") (aO 2))
   (aK (bB (bz nU [] E0 (ak (cA K (aj 0) "heap") (ak (aj 1) aL))) (aO 3))
   (aK (cZ ((tOr (bR (aY (rNe) (cA K (aj 2) "phase") (tC (.str "walk")))) (tOr (bR (aY (G.Dj) (aj 3) (tC .non))) (tB (bz oU [] E0 (ak (aj 0) (ak (aj 3) aL))))))) (bI (tC .non)) bT)
   (aK (jC K (aj 3) (cA K (aj 2) "sense") "tone")
   (aK (rH (ZF K "list" mJ (cA K (aj 2) "grey") (ak (aj 1) aL)))
   (bI (cA K (aj 3) "birth")))))))
def yR (K:aG) (Zj4:Sp):TS:=
 (aK (bB (jR aL) (aO 2))
   (aK (FT (vP K (aj 1)) (aO 3)
   (aK (bB (bz Zj4 [] E0 (ak (aj 0) (ak (aj 3) aL))) (aO 4))
   (cZ (bR (aY (G.Ms) (aj 4) (tC .non))) (rH (ZF K "list" mJ (aj 2) (ak (aj 4) aL))) bT)))
   (bI (aj 2))))
def Uk (K:aG) (nU oU:Sp):TS:=
 (aK (bB (bz nU [] E0 (ak (cA K (aj 0) "heap") (ak (aj 1) aL))) (aO 3))
   (aK (cZ ((tOr (bR (aY (G.Dj) (aj 3) (tC .non))) (bR (aY (rNe) (cA K (aj 3) "birth") (aj 2))))) (bI (tC (.bl true))) bT)
   (bI ((Aw (aY (uZ) (cA K (cA K (aj 0) "sweeper") "phase") (tC (.str "give"))) (Zcb (bz oU [] E0 (ak (aj 0) (ak (aj 3) aL)))))))))
def yQ (K:aG):TS:=
 (bI (cA K (aY (d7 K) (cA K (aj 0) "hands") (aj 1)) "slots"))
def BZ (K:aG) (aF:Addr) (nU cJ:Sp) (E:XK):TS:=
 (aK (bB (bz nU [] E0 (ak (cA K (aj 0) "heap") (ak (aY (d7 K) (bz cJ [] E0 (ak (aj 0) (ak (aj 1) aL))) (aj 2)) aL))) (aO 3))
   (aK (cZ (bR (aY (G.Dj) (aj 3) (tC .non))) (G.FP aF E (ak (tC (.str "the slot holds no cell")) aL)) bT)
   (bI (aj 3))))
def wM (K:aG) (bF aP:Addr) (Dc nT:Sp) (E:XK):TS:=
 (aK (bB (bz nT [] E (ak (aj 0) (ak (aj 1) (ak (aj 2) aL)))) (aO 4))
   (aK (cZ (Lw (tB (qF bF "has_field" Dc [] E0 (aj 4) (ak (aj 3) aL)))) (G.FP aP E (ak (tC (.str "the cell does not have the field")) aL)) bT)
   (bI (cA K (aj 4) "fields"))))
def tD (K:aG):TS:=
 (aK (cZ (bR (aY (uZ) (aY (pJ fun i j=>.int (Builtin.bitAnd i j)) (cA K (cA K (aj 0) "kind") "tells") (tC (.int 1))) (tC (.int 0)))) (bI (jR aL)) bT)
   (bI (jR (ak (aj 1) aL))))
def tE (K:aG) (S9:Sp):TS:=
 (aK (cZ ((tOr (bR (aY (uZ) (aY (pJ fun i j=>.int (Builtin.bitAnd i j)) (cA K (cA K (aj 0) "kind") "tells") (tC (.int 2))) (tC (.int 0)))) (tB (bz S9 [] E0 (ak (aj 0) (ak (aj 1) aL)))))) (bI (jR aL)) bT)
   (bI (jR (ak (aj 2) aL))))
def BR (K:aG) (bC:Addr) (Tp dI cJ:Sp) (E:XK):TS:=
 (aK (bB (bz cJ [] E0 (ak (aj 0) (ak (aY (cC K) (aj 1) (tC (.int 1))) aL))) (aO 2))
   (aK (bB (aY (cC K) (aj 1) (tC (.int 3))) (aO 3))
   (aK (bB (aY (cC K) (aj 1) (tC (.int 4))) (aO 4))
   (aK (bB (qF bC "make" Tp [] E (cA K (aj 0) "heap") (ak (aj 3) (ak (aj 4) (ak (cA K (cA K (aj 0) "sweeper") "sense") aL)))) (aO 5))
   (aK (bB (aj 5) (yl (aj 2) (aY (cC K) (aj 1) (tC (.int 2))) qH))
   (bI (lG (ak (tC (.str "made")) (ak (bz dI [] E0 (ak (cA K (aj 0) "heap") (ak (aj 5) aL))) (ak (jR aL) aL))))))))))
def GZ (K:aG) (dI v7 cJ:Sp) (E:XK):TS:=
 (aK (bB (aY (cC K) (aj 1) (tC (.int 1))) (aO 2))
   (aK (bB (aY (cC K) (aj 1) (tC (.int 3))) (aO 3))
   (aK (bB (aY (cC K) (aj 1) (tC (.int 4))) (aO 4))
   (aK (bB (aY (d7 K) (bz v7 [] E (ak (aj 0) (ak (aj 2) (ak (aj 3) (ak (aj 4) aL))))) (aj 4)) (aO 5))
   (aK (bB (aj 5) (yl (bz cJ [] E0 (ak (aj 0) (ak (aj 2) aL))) (aY (cC K) (aj 1) (tC (.int 2))) qH))
   (bI (lG (ak (tC (.str "got")) (ak (bz dI [] E0 (ak (cA K (aj 0) "heap") (ak (aj 5) aL))) (ak (jR aL) aL))))))))))
def GX (K:aG) (dI v7 qG cJ sX LK:Sp) (E:XK):TS:=
 (aK (bB (aY (cC K) (aj 1) (tC (.int 1))) (aO 2))
   (aK (bB (aY (cC K) (aj 1) (tC (.int 3))) (aO 3))
   (aK (bB (bz v7 [] E (ak (aj 0) (ak (aj 2) (ak (aY (cC K) (aj 1) (tC (.int 2))) (ak (aj 3) aL))))) (aO 4))
   (aK (bB (aY (d7 K) (aj 4) (aj 3)) (aO 5))
   (aK (bB (aY (d7 K) (bz cJ [] E0 (ak (aj 0) (ak (aj 2) aL))) (aY (cC K) (aj 1) (tC (.int 4)))) (aO 6))
   (aK (bB (aj 6) (yl (aj 4) (aj 3) qH))
   (aK (bB (bz qG [] E0 (ak (aj 0) (ak (aY (Zpu) (bz LK [] E0 (ak (aj 0) (ak (aj 5) aL))) (bz sX [] E0 (ak (aj 0) (ak (aj 2) (ak (aj 6) aL))))) aL))) (aO 7))
   (bI (lG (ak (tC (.str "put")) (ak (bz dI [] E0 (ak (cA K (aj 0) "heap") (ak (aj 5) aL))) (ak (aj 7) aL))))))))))))
def BX (K:aG) (dI cJ:Sp):TS:=
 (aK (bB (bz cJ [] E0 (ak (aj 0) (ak (aY (cC K) (aj 1) (tC (.int 1))) aL))) (aO 2))
   (aK (bB (aY (d7 K) (aj 2) (aY (cC K) (aj 1) (tC (.int 3)))) (aO 3))
   (aK (bB (aj 3) (yl (aj 2) (aY (cC K) (aj 1) (tC (.int 2))) qH))
   (bI (lG (ak (tC (.str "copied")) (ak (bz dI [] E0 (ak (cA K (aj 0) "heap") (ak (aj 3) aL))) (ak (jR aL) aL))))))))
def BW (K:aG) (dI cJ:Sp):TS:=
 (aK (bB (bz cJ [] E0 (ak (aj 0) (ak (aY (cC K) (aj 1) (tC (.int 1))) aL))) (aO 2))
   (aK (bB (aY (d7 K) (aj 2) (aY (cC K) (aj 1) (tC (.int 2)))) (aO 3))
   (aK (bB (tC .non) (yl (aj 2) (aY (cC K) (aj 1) (tC (.int 2))) qH))
   (bI (lG (ak (tC (.str "dropped")) (ak (bz dI [] E0 (ak (cA K (aj 0) "heap") (ak (aj 3) aL))) (ak (jR aL) aL))))))))
def BV (K:aG) (dI qG cJ sX:Sp):TS:=
 (aK (bB (aY (cC K) (aj 1) (tC (.int 1))) (aO 2))
   (aK (bB (aY (cC K) (aj 1) (tC (.int 3))) (aO 3))
   (aK (bB (aY (d7 K) (bz cJ [] E0 (ak (aj 0) (ak (aj 2) aL))) (aY (cC K) (aj 1) (tC (.int 2)))) (aO 4))
   (aK (bB (aj 4) (yl (bz cJ [] E0 (ak (aj 0) (ak (aj 3) aL))) (aY (cC K) (aj 1) (tC (.int 4))) qH))
   (aK (bB (bz qG [] E0 (ak (aj 0) (ak (bz sX [] E0 (ak (aj 0) (ak (aj 2) (ak (aj 4) aL)))) aL))) (aO 5))
   (bI (lG (ak (tC (.str "given")) (ak (bz dI [] E0 (ak (cA K (aj 0) "heap") (ak (aj 4) aL))) (ak (aj 5) aL))))))))))
def yS (K:aG) (nT:Sp) (E:XK):TS:=
 (aK (bB (bz nT [] E (ak (aj 0) (ak (aY (cC K) (aj 1) (tC (.int 1))) (ak (aY (cC K) (aj 1) (tC (.int 2))) aL)))) (aO 2))
   (aK (bB (cA K (aj 2) "load") (aO 3))
   (aK (jC K (aj 2) (aY (cC K) (aj 1) (tC (.int 3))) "load")
   (bI (lG (ak (tC (.str "wrote")) (ak (aj 3) (ak (jR aL) aL))))))))
def BL (K:aG) (nT:Sp) (E:XK):TS:=
 (aK (bB (bz nT [] E (ak (aj 0) (ak (aY (cC K) (aj 1) (tC (.int 1))) (ak (aY (cC K) (aj 1) (tC (.int 2))) aL)))) (aO 2))
   (bI (lG (ak (tC (.str "read")) (ak (cA K (aj 2) "load") (ak (jR aL) aL))))))
def BP (K:aG) (nT cJ:Sp) (E:XK):TS:=
 (aK (bB (aY (cC K) (aj 1) (tC (.int 1))) (aO 2))
   (aK (bB (aY (cC K) (aj 1) (tC (.int 2))) (aO 3))
   (aK (bB (cA K (bz nT [] E (ak (aj 0) (ak (aj 2) (ak (aj 3) aL)))) "birth") (aO 4))
   (aK (xU (cA K (aj 0) "names") (aY (cC K) (aj 1) (tC (.int 3))) (lG (ak (aY (d7 K) (bz cJ [] E0 (ak (aj 0) (ak (aj 2) aL))) (aj 3)) (ak (aj 4) aL))))
   (bI (lG (ak (tC (.str "named")) (ak (aj 4) (ak (jR aL) aL)))))))))
def BK (K:aG) (dI qG LQ cJ:Sp) (E:XK):TS:=
 (aK (bB (bz LQ [] E (ak (aj 0) (ak (aY (cC K) (aj 1) (tC (.int 3))) aL))) (aO 2))
   (aK (bB (aj 2) (yl (bz cJ [] E0 (ak (aj 0) (ak (aY (cC K) (aj 1) (tC (.int 1))) aL))) (aY (cC K) (aj 1) (tC (.int 2))) qH))
   (aK (bB (bz qG [] E0 (ak (aj 0) (ak (jR (ak (aj 2) aL)) aL))) (aO 3))
   (bI (lG (ak (tC (.str "sought")) (ak (bz dI [] E0 (ak (cA K (aj 0) "heap") (ak (aj 2) aL))) (ak (aj 3) aL))))))))
def tG (K:aG) (aV:Addr) (Zj5:Sp) (E:XK):TS:=
 (aK (cZ (tB (Ky (aj 1) (cA K (aj 0) "names"))) (G.FP aV E (ak (tC (.str "the weak name was never given")) aL)) bT)
   (aK (bB (aY (cC K) (fu (cA K (aj 0) "names") (aj 1)) (tC (.int 0))) (aO 2))
   (aK (bB (aY (cC K) (fu (cA K (aj 0) "names") (aj 1)) (tC (.int 1))) (aO 3))
   (aK (cZ (tB (bz Zj5 [] E0 (ak (aj 0) (ak (aj 2) (ak (aj 3) aL))))) (bI (tC .non)) bT)
   (bI (aj 2))))))
def Zfv (K:aG) (gq gn iB gj gh gf iz fZ fY d9:Addr) (ZW ZV Zdi ZS ZR ZQ Zdh ZP ZM Xj:Sp) (E:XK):TS:=
 (aK (bB (G.Zmm [("make",gh),("get",iB),("put",iz),("copy",gq),("drop",gn),("give",gj),("write",d9),("read",fZ),("name",gf),("seek",fY)] (aY (cC K) (aj 1) (tC (.int 0)))) (aO 2))
   (bI (G.ZD 2 [(gh,ZR),(iB,Zdi),(iz,Zdh),(gq,ZW),(gn,ZV),(gj,ZS),(d9,Xj),(fZ,ZP),(gf,ZQ),(fY,ZM)] E (ak (aj 0) (ak (aj 1) aL)))))
def yV:TS:=
 (aK (bB (aY (rI (fun _ j=>0 < j) fun i j=>.int (i % j)) (aY (pJ fun i j=>.int (i + j)) (aY (rI Xb fun i j=>.int (i * j)) (aj 0) (aj 1)) (tC (.int 12345))) (tC (.int 2147483647))) (aO 2))
   (bI (aY (rI Kw fun i j=>.int (i / j)) (aY (rI (fun _ j=>0 < j) fun i j=>.int (i % j)) (aY (rI Xb fun i j=>.int (i * j)) (aj 2) (aj 2)) (tC (.int 2147483629))) (tC (.int 3)))))
def qZ (K:aG):TS:=
 (aK (cZ (bR (aY (pJ fun i j=>.bl (decide (i < j))) (aj 1) (Ad (G.mW K) (ak (aj 0) aL)))) (bI (aY (d7 K) (aj 0) (aj 1))) bT)
   (bI (tC (.int 0))))
def wV (K:aG) (cL:Sp):TS:=
 (aK (bB (aY (d7 K) (jR (ak (tC (.str "first")) (ak (tC (.str "each")) (ak (tC (.str "last")) aL)))) (aY (rI (fun _ j=>0 < j) fun i j=>.int (i % j)) (bz cL [] E0 (ak (aj 0) (ak (tC (.int 48271)) aL))) (tC (.int 3)))) (aO 1))
   (bI (aY (G.Dk) (aj 1) (aY (d7 K) (jR (ak (tC (.str "")) (ak (tC (.str " old")) (ak (tC (.str " new")) (ak (tC (.str " old new")) aL))))) (aY (rI (fun _ j=>0 < j) fun i j=>.int (i % j)) (bz cL [] E0 (ak (aj 0) (ak (tC (.int 69621)) aL))) (tC (.int 4)))))))
def uT (K:aG) (cL:Sp):TS:=
 (aK (bB (tC (.str "abcdefghijklmnopqrstuvwxyz")) (aO 2))
   (aK (bB (aY (pJ fun i j=>.int (i + j)) (tC (.int 1)) (aY (rI (fun _ j=>0 < j) fun i j=>.int (i % j)) (bz cL [] E0 (ak (aj 0) (ak (tC (.int 48271)) aL))) (tC (.int 12)))) (aO 3))
   (aK (bB (tC (.str "")) (aO 4))
   (aK (FT (Es (ak (aj 3) aL)) (aO 5)
   (bB (aY (G.Dk) (aj 4) (aY (Za8) (aj 2) (aY (rI (fun _ j=>0 < j) fun i j=>.int (i % j)) (bz cL [] E0 (ak (aj 0) (ak (aY (pJ fun i j=>.int (i + j)) (aY (rI Xb fun i j=>.int (i * j)) (aj 5) (aj 5)) (tC (.int 69621))) aL))) (tC (.int 26))))) (aO 4)))
   (aK (bB (aY (rI (fun _ j=>0 < j) fun i j=>.int (i % j)) (bz cL [] E0 (ak (aj 0) (ak (tC (.int 16807)) aL))) (aj 3)) (aO 6))
   (aK (bB (aY (rI (fun _ j=>0 < j) fun i j=>.int (i % j)) (bz cL [] E0 (ak (aj 0) (ak (tC (.int 39373)) aL))) (tC (.int 26))) (aO 7))
   (aK (bB (jR aL) (aO 8))
   (aK (FT (Es (ak (aj 1) aL)) (aO 5)
   (aK (bB (aY (G.Dk) (aY (G.Dk) (tSl (G.Zfx) (aj 4) CJ (CG (aj 6))) (aY (Za8) (aj 2) (aY (rI (fun _ j=>0 < j) fun i j=>.int (i % j)) (aY (pJ fun i j=>.int (i + j)) (aj 7) (aj 5)) (tC (.int 26))))) (tSl (G.Zfx) (aj 4) (CG (aY (pJ fun i j=>.int (i + j)) (aj 6) (tC (.int 1)))) CJ)) (aO 9))
   (aK (cZ (bR (aY (uZ) (aj 9) (tC (.str "sweep")))) (bB (tC (.str "sweeps")) (aO 9)) bT)
   (rH (ZF K "list" mJ (aj 8) (ak (aj 9) aL))))))
   (bI (aj 8))))))))))
def jG (K:aG) (jE:Sp):TS:=
 (aK (cZ (bR (aY (G.Dj) (aj 1) (tC .non))) (bI (aY (G.Dj) (aj 0) (tC .non))) bT)
   (aK (cZ (bR (aY (G.Zdu) (aj 1) (tC (.bl true)))) (bI (aY (G.Zdu) (aj 0) (tC (.bl true)))) bT)
   (aK (cZ (bR (aY (G.Zdu) (aj 1) (tC (.bl false)))) (bI (aY (G.Zdu) (aj 0) (tC (.bl false)))) bT)
   (aK (cZ (tB (Ad (G.t7) (ak (aj 1) (ak (tC (.ty "int")) aL)))) (bI ((Aw (Ad (G.t7) (ak (aj 0) (ak (tC (.ty "int")) aL))) (Aw (Zcb (Ad (G.t7) (ak (aj 0) (ak (tC (.ty "bool")) aL)))) (aY (uZ) (aj 0) (aj 1)))))) bT)
   (aK (cZ (tB (Ad (G.t7) (ak (aj 1) (ak (tC (.ty "str")) aL)))) (bI ((Aw (Ad (G.t7) (ak (aj 0) (ak (tC (.ty "str")) aL))) (aY (uZ) (aj 0) (aj 1))))) bT)
   (aK (cZ ((J4 (tB (Ad (G.t7) (ak (aj 1) (ak (tC (.ty "list")) aL)))) (Lw (tB (Ad (G.t7) (ak (aj 0) (ak (tC (.ty "list")) aL))))))) (bI (tC (.bl false))) bT)
   (aK (cZ ((J4 (tB (Ad (G.t7) (ak (aj 1) (ak (tC (.ty "tuple")) aL)))) (Lw (tB (Ad (G.t7) (ak (aj 0) (ak (tC (.ty "tuple")) aL))))))) (bI (tC (.bl false))) bT)
   (aK (cZ (bR (aY (rNe) (Ad (G.mW K) (ak (aj 0) aL)) (Ad (G.mW K) (ak (aj 1) aL)))) (bI (tC (.bl false))) bT)
   (aK (FT (Es (ak (Ad (G.mW K) (ak (aj 1) aL)) aL)) (aO 2)
   (cZ (Lw (tB (bz jE [] E0 (ak (aY (rIx K) (aj 0) (aj 2)) (ak (aY (rIx K) (aj 1) (aj 2)) aL))))) (bI (tC (.bl false))) bT))
   (bI (tC (.bl true))))))))))))
def uQ (K:aG):TS:=
 (bI (Xh [((tC (.str "room")),(aj 0)),((tC (.str "used")),(tC (.int 0))),((tC (.str "born")),(tC (.int 0))),((tC (.str "rows")),(G.tLC (vP K (aj 1)) [] G.vG (aY (Zdt) (jR (ak (tC .non) aL)) (aj 0)))),((tC (.str "cells")),(Lz)),((tC (.str "words")),(Lz))]))
def pP (K:aG):TS:=
 (aK (bB (aY (cC K) (aj 1) (tC (.int 0))) (aO 2))
   (aK (cZ ((J4 (bR (aY (uZ) (aj 2) (tC (.str "make")))) (bR (aY (pJ fun i j=>.bl (decide (j < i))) (aY (pJ fun i j=>.int (i + j)) (aY (pJ fun i j=>.int (i + j)) (aY (pJ fun i j=>.int (i + j)) (fu (aj 0) (tC (.str "used"))) (tC (.int 1))) (aY (cC K) (aj 1) (tC (.int 3)))) (aY (cC K) (aj 1) (tC (.int 4)))) (fu (aj 0) (tC (.str "room"))))))) (bI (tC (.str "full"))) bT)
   (aK (cZ ((J4 (bR (aY (uZ) (aj 2) (tC (.str "seek")))) (tB (Ky (aY (cC K) (aj 1) (tC (.int 3))) (fu (aj 0) (tC (.str "words"))))))) (bI (tC (.str "name"))) bT)
   (aK (cZ (bR (aY (rIn K false) (aj 2) (lG (ak (tC (.str "make")) (ak (tC (.str "seek")) (ak (tC (.str "copy")) (ak (tC (.str "drop")) (ak (tC (.str "give")) aL)))))))) (bI (tC (.str ""))) bT)
   (aK (bB (aY (cC K) (aj 1) (tC (.int 2))) (aO 3))
   (aK (cZ (bR (aY (uZ) (aj 2) (tC (.str "get")))) (bB (aY (cC K) (aj 1) (tC (.int 3))) (aO 3)) bT)
   (aK (bB (aY (d7 K) (aY (d7 K) (fu (aj 0) (tC (.str "rows"))) (aY (cC K) (aj 1) (tC (.int 1)))) (aj 3)) (aO 4))
   (aK (cZ (bR (aY (G.Dj) (aj 4) (tC .non))) (bI (tC (.str "empty"))) bT)
   (aK (cZ ((J4 (bR (aY (uZ) (aj 2) (tC (.str "get")))) (bR (aY (pJ fun i j=>.bl (decide (j≤i))) (aY (cC K) (aj 1) (tC (.int 4))) (Ad (G.mW K) (ak (aY (d7 K) (fu (fu (aj 0) (tC (.str "cells"))) (aj 4)) (tC (.int 2))) aL)))))) (bI (tC (.str "field"))) bT)
   (aK (cZ ((J4 (bR (aY (uZ) (aj 2) (tC (.str "put")))) (bR (aY (pJ fun i j=>.bl (decide (j≤i))) (aY (cC K) (aj 1) (tC (.int 3))) (Ad (G.mW K) (ak (aY (d7 K) (fu (fu (aj 0) (tC (.str "cells"))) (aj 4)) (tC (.int 2))) aL)))))) (bI (tC (.str "field"))) bT)
   (bI (tC (.str "")))))))))))))
def qY (K:aG):TS:=
 (aK (bB (aY (pJ fun i j=>.int (i + j)) (aY (pJ fun i j=>.int (i + j)) (tC (.int 1)) (aY (cC K) (aj 1) (tC (.int 3)))) (aY (cC K) (aj 1) (tC (.int 4)))) (aO 2))
   (aK (xU (aj 0) (tC (.str "used")) (aY (pJ fun i j=>.int (i + j)) (fu (aj 0) (tC (.str "used"))) (aj 2)))
   (aK (xU (aj 0) (tC (.str "born")) (aY (pJ fun i j=>.int (i + j)) (fu (aj 0) (tC (.str "born"))) (tC (.int 1))))
   (aK (xU (fu (aj 0) (tC (.str "cells"))) (fu (aj 0) (tC (.str "born"))) (jR (ak (aj 2) (ak (tC (.int 0)) (ak (aY (Zdt) (jR (ak (tC .non) aL)) (aY (cC K) (aj 1) (tC (.int 3)))) aL)))))
   (aK (bB (fu (aj 0) (tC (.str "born"))) (yl (aY (d7 K) (fu (aj 0) (tC (.str "rows"))) (aY (cC K) (aj 1) (tC (.int 1)))) (aY (cC K) (aj 1) (tC (.int 2))) qH))
   (bI (fu (aj 0) (tC (.str "born")))))))))
def uU (K:aG):TS:=
 (aK (bB (aY (d7 K) (fu (aj 0) (tC (.str "rows"))) (aY (cC K) (aj 1) (tC (.int 1)))) (aO 2))
   (aK (cZ (bR (aY (uZ) (aY (cC K) (aj 1) (tC (.int 0))) (tC (.str "get")))) (aK (bB (aY (d7 K) (aY (d7 K) (fu (fu (aj 0) (tC (.str "cells"))) (aY (d7 K) (aj 2) (aY (cC K) (aj 1) (tC (.int 3))))) (tC (.int 2))) (aY (cC K) (aj 1) (tC (.int 4)))) (yl (aj 2) (aY (cC K) (aj 1) (tC (.int 2))) qH))
   (bI (aY (d7 K) (aj 2) (aY (cC K) (aj 1) (tC (.int 2)))))) bT)
   (aK (cZ (bR (aY (uZ) (aY (cC K) (aj 1) (tC (.int 0))) (tC (.str "copy")))) (aK (bB (aY (d7 K) (aj 2) (aY (cC K) (aj 1) (tC (.int 3)))) (yl (aj 2) (aY (cC K) (aj 1) (tC (.int 2))) qH))
   (bI (aY (d7 K) (aj 2) (aY (cC K) (aj 1) (tC (.int 2)))))) bT)
   (aK (cZ (bR (aY (uZ) (aY (cC K) (aj 1) (tC (.int 0))) (tC (.str "drop")))) (aK (bB (aY (d7 K) (aj 2) (aY (cC K) (aj 1) (tC (.int 2)))) (aO 3))
   (aK (bB (tC .non) (yl (aj 2) (aY (cC K) (aj 1) (tC (.int 2))) qH))
   (bI (aj 3)))) bT)
   (aK (bB (aY (d7 K) (aj 2) (aY (cC K) (aj 1) (tC (.int 2)))) (yl (aY (d7 K) (fu (aj 0) (tC (.str "rows"))) (aY (cC K) (aj 1) (tC (.int 3)))) (aY (cC K) (aj 1) (tC (.int 4))) qH))
   (bI (aY (d7 K) (aj 2) (aY (cC K) (aj 1) (tC (.int 2))))))))))
def uP (K:aG) (Ka O2:Sp):TS:=
 (aK (bB (aY (cC K) (aj 1) (tC (.int 0))) (aO 2))
   (aK (cZ (bR (aY (uZ) (aj 2) (tC (.str "make")))) (bI (bz Ka [] E0 (ak (aj 0) (ak (aj 1) aL)))) bT)
   (aK (cZ (bR (aY (rIn K false) (aj 2) (lG (ak (tC (.str "get")) (ak (tC (.str "copy")) (ak (tC (.str "drop")) (ak (tC (.str "give")) aL))))))) (bI (bz O2 [] E0 (ak (aj 0) (ak (aj 1) aL)))) bT)
   (aK (bB (aY (d7 K) (fu (aj 0) (tC (.str "rows"))) (aY (cC K) (aj 1) (tC (.int 1)))) (aO 3))
   (aK (cZ (bR (aY (uZ) (aj 2) (tC (.str "seek")))) (aK (bB (fu (fu (aj 0) (tC (.str "words"))) (aY (cC K) (aj 1) (tC (.int 3)))) (yl (aj 3) (aY (cC K) (aj 1) (tC (.int 2))) qH))
   (bI (aY (d7 K) (aj 3) (aY (cC K) (aj 1) (tC (.int 2)))))) bT)
   (aK (bB (aY (d7 K) (aj 3) (aY (cC K) (aj 1) (tC (.int 2)))) (aO 4))
   (aK (bB (fu (fu (aj 0) (tC (.str "cells"))) (aj 4)) (aO 5))
   (aK (cZ (bR (aY (uZ) (aj 2) (tC (.str "put")))) (aK (bB (aY (d7 K) (aY (d7 K) (aj 5) (tC (.int 2))) (aY (cC K) (aj 1) (tC (.int 3)))) (aO 6))
   (aK (bB (aY (d7 K) (aj 3) (aY (cC K) (aj 1) (tC (.int 4)))) (yl (aY (d7 K) (aj 5) (tC (.int 2))) (aY (cC K) (aj 1) (tC (.int 3))) qH))
   (bI (aj 6)))) bT)
   (aK (cZ (bR (aY (uZ) (aj 2) (tC (.str "write")))) (aK (bB (aY (d7 K) (aj 5) (tC (.int 1))) (aO 6))
   (aK (bB (aY (cC K) (aj 1) (tC (.int 3))) (yl (aj 5) (tC (.int 1)) qH))
   (bI (aj 6)))) bT)
   (aK (cZ (bR (aY (uZ) (aj 2) (tC (.str "read")))) (bI (aY (d7 K) (aj 5) (tC (.int 1)))) bT)
   (aK (xU (fu (aj 0) (tC (.str "words"))) (aY (cC K) (aj 1) (tC (.int 3))) (aj 4))
   (bI (aj 4)))))))))))))
def wU (cL:Sp):TS:=
 (aK (bB (aY (rI (fun _ j=>0 < j) fun i j=>.int (i % j)) (aY (rI PySem.IntMulOk fun i j=>.int (i * j)) (aj 0) (aY (rI Rj fun i j=>.int (i ^ j.toNat)) (tC (.int 987654321)) (tC (.int 6)))) (aY (rI Rj fun i j=>.int (i ^ j.toNat)) (tC (.int 10)) (tC (.int 60)))) (aO 1))
   (aK (cZ (bR (aY (uZ) (aY (rI (fun _ j=>0 < j) fun i j=>.int (i % j)) (bz cL [] E0 (ak (aj 0) (ak (tC (.int 16807)) aL))) (tC (.int 2))) (tC (.int 0)))) (bI (tUn (rU fun i=>.int (-i)) (aj 1))) bT)
   (bI (aj 1))))
def wW (K:aG) (Tf cL:Sp):TS:=
 (aK (bB (bz cL [] E0 (ak (aj 0) (ak (tC (.int 48271)) aL))) (aO 3))
   (aK (bB (bz cL [] E0 (ak (aj 0) (ak (tC (.int 69621)) aL))) (aO 4))
   (aK (bB (bz cL [] E0 (ak (aj 0) (ak (tC (.int 16807)) aL))) (aO 5))
   (aK (bB (aY (rI (fun _ j=>0 < j) fun i j=>.int (i % j)) (aj 4) (Ad (G.mW K) (ak (aj 1) aL))) (aO 6))
   (aK (bB (aY (rI (fun _ j=>0 < j) fun i j=>.int (i % j)) (aY (rI Kw fun i j=>.int (i / j)) (aj 4) (tC (.int 5))) (aY (d7 K) (aj 1) (aj 6))) (aO 7))
   (aK (bB (aY (rI (fun _ j=>0 < j) fun i j=>.int (i % j)) (aY (rI Kw fun i j=>.int (i / j)) (aj 4) (tC (.int 45))) (aY (d7 K) (aj 1) (aj 6))) (aO 8))
   (aK (bB (aY (d7 K) (jR (ak (tC (.int 0)) (ak (tC (.int 0)) (ak (tC (.int 1)) (ak (tC (.int 1)) (ak (tC (.int 2)) (ak (tC (.int 0)) (ak (tC (.int 1)) (ak (aY (rI (fun _ j=>0 < j) fun i j=>.int (i % j)) (aY (rI Kw fun i j=>.int (i / j)) (aj 5) (tC (.int 64))) (tC (.int 9))) aL))))))))) (aY (rI (fun _ j=>0 < j) fun i j=>.int (i % j)) (aY (rI Kw fun i j=>.int (i / j)) (aj 5) (tC (.int 8))) (tC (.int 8)))) (aO 9))
   (aK (bB (aY (rI (fun _ j=>0 < j) fun i j=>.int (i % j)) (aj 3) (tC (.int 18))) (aO 10))
   (aK (cZ (bR (aY (pJ fun i j=>.bl (decide (i < j))) (aj 10) (tC (.int 5)))) (aK (bB (aY (d7 K) (jR (ak (tC (.int 0)) (ak (tC (.int 1)) (ak (tC (.int 0)) (ak (tC (.int 3)) (ak (tC (.int 0)) (ak (aY (rI (fun _ j=>0 < j) fun i j=>.int (i % j)) (aY (rI PySem.IntMulOk fun i j=>.int (i * j)) (aj 0) (aY (rI Rj fun i j=>.int (i ^ j.toNat)) (tC (.int 7654321)) (tC (.int 2)))) (aY (pJ fun i j=>.int (i + j)) (aY (rI Rj fun i j=>.int (i ^ j.toNat)) (tC (.int 10)) (tC (.int 12))) (tC (.int 1)))) aL))))))) (aY (rI (fun _ j=>0 < j) fun i j=>.int (i % j)) (aY (rI Kw fun i j=>.int (i / j)) (aj 3) (tC (.int 18))) (tC (.int 6)))) (aO 11))
   (bI (lG (ak (tC (.str "make")) (ak (aj 6) (ak (aj 7) (ak (aY (d7 K) (jR (ak (tC (.int 0)) (ak (tC (.int 1)) (ak (tC (.int 2)) (ak (tC (.int 3)) (ak (tC (.int 2)) (ak (tC (.int 1)) (ak (tC (.int 2)) (ak (tC (.int 8)) aL))))))))) (aY (rI (fun _ j=>0 < j) fun i j=>.int (i % j)) (aj 5) (tC (.int 8)))) (ak (aj 11) aL)))))))) bT)
   (aK (cZ (bR (aY (pJ fun i j=>.bl (decide (i < j))) (aj 10) (tC (.int 8)))) (bI (lG (ak (tC (.str "put")) (ak (aj 6) (ak (aj 8) (ak (aj 9) (ak (aj 7) aL))))))) bT)
   (aK (cZ (bR (aY (pJ fun i j=>.bl (decide (i < j))) (aj 10) (tC (.int 11)))) (bI (lG (ak (tC (.str "get")) (ak (aj 6) (ak (aj 7) (ak (aj 8) (ak (aj 9) aL))))))) bT)
   (aK (cZ (bR (aY (uZ) (aj 10) (tC (.int 11)))) (bI (lG (ak (tC (.str "copy")) (ak (aj 6) (ak (aj 7) (ak (aj 8) aL)))))) bT)
   (aK (cZ (bR (aY (uZ) (aj 10) (tC (.int 12)))) (bI (lG (ak (tC (.str "drop")) (ak (aj 6) (ak (aj 7) aL))))) bT)
   (aK (cZ (bR (aY (uZ) (aj 10) (tC (.int 13)))) (aK (bB (aY (rI (fun _ j=>0 < j) fun i j=>.int (i % j)) (aY (rI Kw fun i j=>.int (i / j)) (aj 5) (tC (.int 600))) (Ad (G.mW K) (ak (aj 1) aL))) (aO 12))
   (bI (lG (ak (tC (.str "give")) (ak (aj 6) (ak (aj 7) (ak (aj 12) (ak (aY (rI (fun _ j=>0 < j) fun i j=>.int (i % j)) (aY (rI Kw fun i j=>.int (i / j)) (aj 5) (tC (.int 3000))) (aY (d7 K) (aj 1) (aj 12))) aL)))))))) bT)
   (aK (cZ (bR (aY (uZ) (aj 10) (tC (.int 14)))) (bI (lG (ak (tC (.str "write")) (ak (aj 6) (ak (aj 8) (ak (bz Tf [] E0 (ak (aj 0) aL)) aL)))))) bT)
   (aK (cZ (bR (aY (uZ) (aj 10) (tC (.int 15)))) (bI (lG (ak (tC (.str "read")) (ak (aj 6) (ak (aj 8) aL))))) bT)
   (aK (cZ (bR (aY (uZ) (aj 10) (tC (.int 16)))) (bI (lG (ak (tC (.str "name")) (ak (aj 6) (ak (aj 8) (ak (aY (d7 K) (aj 2) (aY (rI (fun _ j=>0 < j) fun i j=>.int (i % j)) (aj 5) (Ad (G.mW K) (ak (aj 2) aL)))) aL)))))) bT)
   (bI (lG (ak (tC (.str "seek")) (ak (aj 6) (ak (aj 7) (ak (aY (d7 K) (aj 2) (aY (rI (fun _ j=>0 < j) fun i j=>.int (i % j)) (aj 5) (Ad (G.mW K) (ak (aj 2) aL)))) aL)))))))))))))))))))))))
def uO (aF bH aP aV:Addr) (Zpp:Sp):TS:=
 (aK (bB (tC .non) (aO 2))
   (aK (bB (tC (.str "")) (aO 3))
   (aK (G.Zfm (fun cls=>cls=Value.ref aF) (fun cls=>cls=Value.ref aP) (fun cls=>cls=Value.ref bH) (fun cls=>cls=Value.ref aV) (fun Ex=>(bB (G.ZC Zpp [] Ex (ak (aj 0) (ak (aj 1) aL))) (aO 2))) (bB (tC (.str "empty")) (aO 3)) (bB (tC (.str "field")) (aO 3)) (bB (tC (.str "full")) (aO 3)) (bB (tC (.str "name")) (aO 3)))
   (aK (cZ (bR (aY (rNe) (aj 3) (tC (.str "")))) (bI (lG (ak (tC (.str "refused")) (ak (aj 3) (ak (jR aL) aL))))) bT)
   (bI (aj 2))))))
def wQ:TS:=
 (aK (bB (Xh [((tC (.str "make")),(tC (.str "made"))),((tC (.str "get")),(tC (.str "got"))),((tC (.str "put")),(tC (.str "put"))),((tC (.str "copy")),(tC (.str "copied"))),((tC (.str "drop")),(tC (.str "dropped"))),((tC (.str "give")),(tC (.str "given")))]) (aO 1))
   (aK (rH (G.Zfn (aj 1) (Xh [((tC (.str "write")),(tC (.str "wrote"))),((tC (.str "read")),(tC (.str "read"))),((tC (.str "name")),(tC (.str "named"))),((tC (.str "seek")),(tC (.str "sought")))])))
   (bI (fu (aj 1) (aj 0)))))
def pQ (K:aG):TS:=
 (aK (bB (aY (cC K) (aj 1) (tC (.int 0))) (aO 4))
   (aK (bB (aY (d7 K) (fu (aj 0) (tC (.str "rows"))) (aY (cC K) (aj 1) (tC (.int 1)))) (aO 5))
   (aK (bB (jR aL) (aO 6))
   (aK (cZ (bR (aY (uZ) (aj 4) (tC (.str "put")))) (aK (cZ (bR (aY (G.Zfy) (tC (.str " old")) (aj 2))) (rH (ZF K "list" mJ (aj 6) (ak (aY (d7 K) (aY (d7 K) (fu (fu (aj 0) (tC (.str "cells"))) (aY (d7 K) (aj 5) (aY (cC K) (aj 1) (tC (.int 2))))) (tC (.int 2))) (aY (cC K) (aj 1) (tC (.int 3)))) aL))) bT)
   (cZ ((J4 (bR (aY (G.Zfy) (tC (.str " new")) (aj 2))) (Lw (tB (aj 3))))) (rH (ZF K "list" mJ (aj 6) (ak (aY (d7 K) (aj 5) (aY (cC K) (aj 1) (tC (.int 4)))) aL))) bT)) bT)
   (aK (cZ ((J4 (bR (aY (uZ) (aj 4) (tC (.str "give")))) (J4 (bR (aY (G.Zfy) (tC (.str " new")) (aj 2))) (Lw (tB (aj 3)))))) (rH (ZF K "list" mJ (aj 6) (ak (aY (d7 K) (aj 5) (aY (cC K) (aj 1) (tC (.int 2)))) aL))) bT)
   (aK (cZ (bR (aY (uZ) (aj 4) (tC (.str "seek")))) (rH (ZF K "list" mJ (aj 6) (ak (fu (fu (aj 0) (tC (.str "words"))) (aY (cC K) (aj 1) (tC (.int 3)))) aL))) bT)
   (bI (aj 6))))))))
def uR (K:aG):TS:=
 (aK (bB (jR aL) (aO 3))
   (aK (FT (vP K (aj 2)) (aO 4)
   (cZ ((J4 (bR (aY (G.Ms) (aj 4) (tC .non))) (bR (aY (uZ) (fu (aj 0) (aj 4)) (tC (.str "pale")))))) (aK (xU (aj 0) (aj 4) (tC (.str "grey")))
   (aK (rH (ZF K "list" mJ (aj 1) (ak (aY (pJ fun i j=>.int (i - j)) (aj 4) (tC (.int 1))) aL)))
   (rH (ZF K "list" mJ (aj 3) (ak (aj 4) aL))))) bT))
   (bI (aj 3))))
def wO (K:aG) (Gf Ge OJ Td jE Oz Ox:Sp):TS:=
 (aK (bB (bz Ge [] E0 (ak (aj 1) (ak (aj 5) aL))) (aO 6))
   (aK (bB (bz Ox [] E0 (ak (aj 0) (ak (aj 5) aL))) (aO 7))
   (aK (cZ (bR (aY (rNe) (aj 6) (tC (.str "")))) (bI (bz jE [] E0 (ak (aj 7) (ak (lG (ak (tC (.str "refused")) (ak (aj 6) (ak (jR aL) aL)))) aL)))) bT)
   (aK (bB (jR aL) (aO 8))
   (aK (cZ (bR (aY (rNe) (aj 4) (tC (.str "")))) (bB (bz OJ [] E0 (ak (aj 2) (ak (aj 3) (ak (bz Gf [] E0 (ak (aj 1) (ak (aj 5) (ak (aj 4) (ak (aY (uZ) (tSl (G.Zfx) (aj 4) CJ (CG (tC (.int 5)))) (tC (.str "first"))) aL))))) aL)))) (aO 8)) bT)
   (aK (bB (bz Oz [] E0 (ak (aj 1) (ak (aj 5) aL))) (aO 9))
   (aK (cZ (bR (aY (uZ) (aY (cC K) (aj 5) (tC (.int 0))) (tC (.str "make")))) (aK (xU (aj 2) (aj 9) (tC (.str "dark")))
   (cZ (bR (aY (uZ) (aj 4) (tC (.str "")))) (xU (aj 2) (aj 9) (tC (.str "pale"))) bT)) bT)
   (bI ((Aw (bz jE [] E0 (ak (aj 7) (ak (lG (ak (bz Td [] E0 (ak (aY (cC K) (aj 5) (tC (.int 0))) aL)) (ak (aj 9) (ak (aj 8) aL)))) aL))) (bz jE [] E0 (ak (cA K (cA K (aj 0) "sweeper") "grey") (ak (aj 3) aL)))))))))))))
def wR (K:aG) (cL:Sp):TS:=
 (aK (bB (bz cL [] E0 (ak (aj 0) (ak (tC (.int 48271)) aL))) (aO 2))
   (aK (bB (bz cL [] E0 (ak (aj 0) (ak (tC (.int 69621)) aL))) (aO 3))
   (aK (bB (aY (rI (fun _ j=>0 < j) fun i j=>.int (i % j)) (aj 2) (Ad (G.mW K) (ak (aj 1) aL))) (aO 4))
   (aK (bB (lG (ak (tC (.str "put")) (ak (aj 4) (ak (aY (rI (fun _ j=>0 < j) fun i j=>.int (i % j)) (aj 3) (aY (d7 K) (aj 1) (aj 4))) (ak (aY (rI (fun _ j=>0 < j) fun i j=>.int (i % j)) (aY (rI Kw fun i j=>.int (i / j)) (aj 3) (tC (.int 9))) (tC (.int 2))) (ak (aY (rI (fun _ j=>0 < j) fun i j=>.int (i % j)) (aY (rI Kw fun i j=>.int (i / j)) (aj 3) (tC (.int 18))) (aY (d7 K) (aj 1) (aj 4))) aL)))))) (aO 5))
   (bI (jR (ak (lG (ak (tC (.str "make")) (ak (aj 4) (ak (aY (rI (fun _ j=>0 < j) fun i j=>.int (i % j)) (aY (rI Kw fun i j=>.int (i / j)) (aj 2) (tC (.int 5))) (aY (d7 K) (aj 1) (aj 4))) (ak (tC (.int 2)) (ak (tC (.int 0)) aL)))))) (ak (aj 5) aL))))))))
def tK (K:aG) (jE LR Ow:Sp):TS:=
 (aK (bB (jR aL) (aO 3))
   (aK (bB (fu (aj 1) (tC (.str "cells"))) (aO 4))
   (aK (FT (G.Zhp (aj 4)) (aO 5)
   (aK (bB (fu (aj 4) (aj 5)) (aO 6))
   (rH (ZF K "list" mJ (aj 3) (ak (lG (ak (aY (pJ fun i j=>.int (i - j)) (aj 5) (tC (.int 1))) (ak (aj 5) (ak (aY (pJ fun i j=>.int (i - j)) (aY (pJ fun i j=>.int (i - j)) (aY (d7 K) (aj 6) (tC (.int 0))) (tC (.int 1))) (Ad (G.mW K) (ak (aY (d7 K) (aj 6) (tC (.int 2))) aL))) (ak (aY (d7 K) (aj 6) (tC (.int 1))) (ak (Ad (G.Zc4 K) (ak (aY (d7 K) (aj 6) (tC (.int 2))) aL)) (ak (fu (aj 2) (aj 5)) aL))))))) aL)))))
   (bI ((Aw (bz jE [] E0 (ak (bz Ow [] E0 (ak (aj 0) aL)) (ak (aj 3) aL))) (bz jE [] E0 (ak (bz LR [] E0 (ak (aj 0) aL)) (ak (fu (aj 1) (tC (.str "rows"))) aL)))))))))
def Za7 (K:aG) (dZ:Addr) (CW nC Ti Th cL O1 Te Ma OD CV Zfp ZL:Sp):TS:=
 (aK (bB (bz Th [] E0 (ak (bz nC [] E0 (ak (aj 0) (ak (tC (.int 0)) aL))) aL)) (aO 1))
   (aK (bB (aY (pJ fun i j=>.int (i + j)) (tC (.int 1)) (aY (rI (fun _ j=>0 < j) fun i j=>.int (i % j)) (bz nC [] E0 (ak (aj 0) (ak (tC (.int 1)) aL))) (tC (.int 5)))) (aO 2))
   (aK (bB (G.tLC (Es (ak (aj 2) aL)) [0] G.vG (aY (pJ fun i j=>.int (i + j)) (tC (.int 3)) (aY (rI (fun _ j=>0 < j) fun i j=>.int (i % j)) (bz cL [] E0 (ak (bz nC [] E0 (ak (aj 1) (ak (tC (.int 1)) aL))) (ak (aY (pJ fun i j=>.int (i + j)) (tC (.int 48271)) (aY (rI Xb fun i j=>.int (i * j)) (aj 0) (aj 0))) aL))) (tC (.int 7))))) (aO 3))
   (aK (bB (bz O1 [] E0 (ak (bz nC [] E0 (ak (aj 0) (ak (tC (.int 2)) aL))) (ak (tC (.int 4)) aL))) (aO 4))
   (aK (bB (CP dZ CW [] E0 (ak (aY (rI Rj fun i j=>.int (i ^ j.toNat)) (tC (.int 10)) (tC (.int 15))) (ak (bz ZL [] E0 (ak (aj 1) aL)) (ak (G.tLC (Es (ak (aj 2) aL)) [3] G.vG (lG (ak (aY (Za8) (tC (.str "abcde")) (aj 0)) (ak (aY (d7 K) (aj 1) (aj 0)) aL)))) aL)))) (aO 5))
   (aK (bB (bz OD [] E0 (ak (aY (rI Rj fun i j=>.int (i ^ j.toNat)) (tC (.int 10)) (tC (.int 15))) (ak (aj 3) aL))) (aO 6))
   (aK (bB (Lz) (aO 7))
   (aK (bB (jR aL) (aO 8))
   (aK (FT (vP K (tSl (Zmv K) (aj 0) (CG (tC (.int 3))) (CG (tC (.int 13))))) (aO 9)
   (FT (vP K (bz Te [] E0 (ak (aj 9) (ak (aj 3) aL)))) (aO 10)
   (cZ (Lw (tB (bz CV [] E0 (ak (aj 5) (ak (aj 6) (ak (aj 7) (ak (aj 8) (ak (tC (.str "")) (ak (aj 10) aL))))))))) (bI (tC (.bl false))) bT)))
   (aK (rH (bz Zfp [] E0 (ak (aj 5) aL)))
   (aK (FT (vP K (tSl (Zmv K) (aj 0) (CG (tC (.int 13))) (CG (tC (.int 63))))) (aO 9)
   (cZ (Lw (tB (bz CV [] E0 (ak (aj 5) (ak (aj 6) (ak (aj 7) (ak (aj 8) (ak (aj 1) (ak (bz Ti [] E0 (ak (aj 9) (ak (aj 3) (ak (aj 4) aL)))) aL))))))))) (bI (tC (.bl false))) bT))
   (bI (bz Ma [] E0 (ak (aj 5) (ak (aj 6) (ak (aj 7) aL))))))))))))))))
structure TxC (K:aG) (bF bC:Addr):Prop where
 dz:Bo K bF
 eX:bG K bF "birth"
 kJ:bG K bF "bulk"
 kE:bG K bF "tone"
 iM:bG K bF "load"
 fH:bG K bF "fields"
 dH:Bo K bC
 lX:bG K bC "room"
 cH:bG K bC "cells"
 jK:bG K bC "used"
 kj:bG K bC "born"
 KY:EqD K bF
structure Zm (CC:Addr) (H:Hp) (p fa:Addr) (birth bulk tone load:Int) (fl:List V):Prop where
 o:∃ dx,H p=some (.ins CC dx (mV birth bulk tone load fa))
 f:H fa=some (.lst fl)
structure HpO (CH:Addr) (H:Hp) (hp ca:Addr) (room used born:Int) (cs:List V):Prop where
 o:∃ dx,H hp=some (.ins CH dx (mU room ca used born))
 c:H ca=some (.lst cs)
def uH (CC:Addr):Sp:=fun vs H Q E=>∃ p birth many bulk tone,vs=[.ref p,.int birth,.int many,.int bulk,.int tone]∧∃ dx,H p=some (.ins CC dx [])∧0≤many∧many≤1000∧
 ∀ fa H',H fa=none→H' p=some (.ins CC dx (mV birth bulk tone 0 fa))→H' fa=some (.lst (List.replicate many.toNat V.non))→(∀ b o,H b=some o→b≠p→H' b=some o)→Q .non H'
def su (CC:Addr):Sp:=fun vs H Q E=>∃ p,vs=[.ref p]∧∃ fa birth bulk tone load fl,Zm CC H p fa birth bulk tone load fl∧Q (.int (1 + fl.length + bulk)) H
def uE (CH:Addr):Sp:=fun vs H Q E=>∃ p room,vs=[.ref p,.int room]∧∃ dx,H p=some (.ins CH dx [])∧
 ∀ ca H',H ca=none→H' p=some (.ins CH dx (mU room ca 0 0))→H' ca=some (.lst [])→(∀ b o,H b=some o→b≠p→H' b=some o)→Q .non H'
def uF (CH:Addr):Sp:=fun vs H Q E=>∃ hp,vs=[.ref hp]∧∃ ca room used born cs,HpO CH H hp ca room used born cs∧Q (.int (room - used)) H
def plc (cs:List V):List Int:=((List.range cs.length).filter fun i=>!decide (cs[i]? =some V.non)).map fun (i:Nat)=>(i:Int)
def sr (CH:Addr):Sp:=fun vs H Q E=>∃ hp,vs=[.ref hp]∧∃ ca room used born cs,HpO CH H hp ca room used born cs∧cs.length≤1000∧∀ l,H l=none→Q (.ref l) (upd H l (.lst ((plc cs).map V.int)))
def putN (cs:List V) (v:V):List V:=if V.non∈cs then cs.set (cs.idxOf V.non) v else cs ++ [v]
def xT (K:aG) (CH:Addr):Sp:=fun vs H Q E=>∃ hp v,vs=[.ref hp,v]∧∃ ca room used born cs,HpO CH H hp ca room used born cs∧OkN K H cs∧cs.length≤1000∧Q (.int (cs.idxOf V.non)) (upd H ca (.lst (putN cs v)))
def uD (K:aG) (CC CH CF:Addr):Sp:=fun vs H Q E=>∃ hp many bulk tone,vs=[.ref hp,.int many,.int bulk,.int tone]∧∃ ca dx room used born cs,H hp=some (.ins CH dx (mU room ca used born))∧H ca=some (.lst cs)∧OkN K H cs∧cs.length≤1000∧0≤many∧many≤1000∧
 (room - used < 1 + many + bulk→∀ H',bN H H'→E (.ref CF) none H')∧
 (1 + many + bulk≤room - used→∀ p fa H',H p=none→H fa=none→Fm [hp,ca] H H'→H' hp=some (.ins CH dx (mU room ca (used + (1 + many + bulk)) (born + 1)))→H' ca=some (.lst (putN cs (.ref p)))→
  Zm CC H' p fa (born + 1) bulk tone 0 (List.replicate many.toNat V.non)→Q (.int (cs.idxOf V.non)) H')
section
variable {K:aG}{bF bC bH:Addr}{H:Hp}{Q:VK}{E:XK}{n:St→Hp→Prop}{bk ct:St→Hp→Prop}
theorem Rh {p:Addr} (T:TxC K bF bC) (q:∃ fa birth bulk tone load fl,Zm bF H p fa birth bulk tone load fl∧Q (.int (1 + fl.length + bulk)) H):uY K ⟨n,Q,bk,ct⟩ [some (.ref p)] H:=by
 obtain ⟨fa,birth,bulk,tone,load,fl,⟨⟨dx,h1⟩,h2⟩,h⟩:=q;unfold uY;walk_at "ev";refine aR h1 T.dz T.fH nR ?_;walk_at "ev";refine jV (cF.of h2) ?_;walk_at "ev";refine aR h1 T.dz T.kJ Bm ?_;walk_at "ev";exact h
theorem Jx {p:Addr}{birth many bulk tone:Int} (T:TxC K bF bC) (q:∃ dx,H p=some (.ins bF dx [])∧0≤many∧many≤1000∧
 ∀ fa H',H fa=none→H' p=some (.ins bF dx (mV birth bulk tone 0 fa))→H' fa=some (.lst (List.replicate many.toNat V.non))→(∀ b o,H b=some o→b≠p→H' b=some o)→Q .non H'):
  pX K ⟨fun _ H'=>Q .non H',Q,bk,ct⟩ [some (.ref p),some (.int birth),some (.int many),some (.int bulk),some (.int tone)] H:=by
 obtain ⟨dx,hp,h0,h1,h⟩:=q;unfold pX;walk_at "ev";refine ⟨p,bF,dx,[],rfl,hp,T.dz,T.eX,by decide,?_⟩;walk_at "ev";refine ⟨p,bF,dx,_,rfl,aq,T.dz,T.kJ,by show 1 < 1000;decide,?_⟩;rw [eF];walk_at "ev";refine ⟨p,bF,dx,_,rfl,aq,T.dz,T.kE,by show 2 < 1000;decide,?_⟩;rw [eF];walk_at "ev";refine ⟨p,bF,dx,_,rfl,aq,T.dz,T.iM,by show 3 < 1000;decide,?_⟩;rw [eF];walk_at "ev";refine ⟨by decide,fun l0 hl0=>?_⟩;walk_at "ev";refine ⟨l0,many,_,rfl,rfl,aq,by omega,by omega,?_,fun fa hfa=>?_⟩
 ·show 1 * many.toNat≤sizeLine;exact bu (by omega)
 have npl:p≠l0:=aD aq hl0;have npf:p≠fa:=aD ((aA npl).trans aq) hfa;walk_at "ev";refine ⟨p,bF,dx,_,rfl,(aA npf).trans ((aA npl).trans aq),T.dz,T.fH,by show 4 < 1000;decide,?_⟩;have nfa:H fa=none:=by
  have e:=hfa;have n1:fa≠l0:=fun z=>by rw [z,aq] at e;cases e
  rw [aA n1,aA npf.symm] at e;exact e
 refine h fa _ nfa (aq.trans (congrArg (fun l=>some (HO.ins bF dx l)) Zil)) ?_ fun b o hb hne=>?_
 ·rw [aA npf.symm,aq];have e:(List.replicate many.toNat [V.non]).flatten=List.replicate many.toNat V.non:=by
   generalize many.toNat=k
   induction k with
   | zero=>rfl
   | succ k ih=>rw [List.replicate_succ,List.replicate_succ,List.flatten_cons,ih];rfl
  rw [e]
 ·have e1:upd H p (HO.ins bF dx (cj "load" (V.int 0) (cj "tone" (V.int tone) (cj "bulk" (V.int bulk) (cj "birth" (V.int birth) []))))) b=some o:=(aA hne).trans hb;have n1:b≠l0:=aD e1 hl0;have n2:b≠fa:=aD ((aA n1).trans e1) hfa;rw [aA hne,aA n2,aA n1];exact e1
theorem Jo {p:Addr}{room:Int} (T:TxC K bF bC) (q:∃ dx,H p=some (.ins bC dx [])∧
 ∀ ca H',H ca=none→H' p=some (.ins bC dx (mU room ca 0 0))→H' ca=some (.lst [])→(∀ b o,H b=some o→b≠p→H' b=some o)→Q .non H'):
  pU K ⟨fun _ H'=>Q .non H',Q,bk,ct⟩ [some (.ref p),some (.int room)] H:=by
 obtain ⟨dx,hp,h⟩:=q;unfold pU;walk_at "ev";refine ⟨p,bC,dx,[],rfl,hp,T.dH,T.lX,by decide,?_⟩;walk_at "ev";refine ⟨by decide,fun ca hca=>?_⟩;walk_at "ev";have npc:p≠ca:=aD aq hca;refine ⟨p,bC,dx,_,rfl,(aA npc).trans aq,T.dH,T.cH,by show 1 < 1000;decide,?_⟩;walk_at "ev";refine ⟨p,bC,dx,_,rfl,aq,T.dH,T.jK,by show 2 < 1000;decide,?_⟩;rw [eF];walk_at "ev";refine ⟨p,bC,dx,_,rfl,aq,T.dH,T.kj,by show 3 < 1000;decide,?_⟩;rw [eF];have nca:H ca=none:=by
  have e:=hca;rw [aA npc.symm] at e;exact e
 refine h ca _ nca (aq.trans (congrArg (fun l=>some (HO.ins bC dx l)) Zhs)) ?_ fun b o hb hne=>?_
 ·rw [aA npc.symm,aq]
 ·rw [aA hne,aA (aD ((aA hne).trans hb) hca),aA hne];exact hb
theorem W0 {hp:Addr} (T:TxC K bF bC) (q:∃ ca room used born cs,HpO bC H hp ca room used born cs∧Q (.int (room - used)) H):wZ K ⟨n,Q,bk,ct⟩ [some (.ref hp)] H:=by
 obtain ⟨ca,room,used,born,cs,⟨⟨dx,h1⟩,h2⟩,h⟩:=q;unfold wZ;walk_at "ev";refine aR h1 T.dH T.lX Qz ?_;walk_at "ev";refine aR h1 T.dH T.jK Bl ?_;walk_at "ev";exact h
theorem Q9 {hp:Addr} (T:TxC K bF bC) (q:∃ ca room used born cs,HpO bC H hp ca room used born cs∧cs.length≤1000∧∀ l,H l=none→Q (.ref l) (upd H l (.lst ((plc cs).map V.int)))):uW K ⟨n,Q,bk,ct⟩ [some (.ref hp)] H:=by
 obtain ⟨ca,room,used,born,cs,⟨⟨dx,h1⟩,h2⟩,hl,h⟩:=q;unfold uW;walk_at "ev";refine Nu ?_;walk_at "ev";refine aR h1 T.dH T.cH dM ?_;walk_at "ev";refine jV (cF.of h2) ?_;walk_at "ev";refine ⟨_,rfl,by omega,by omega,?_⟩;refine Zhe (n:=cs.length) (by omega) (p:=fun i=>!decide (cs[i]? =some V.non)) (f:=fun i=>.int i) (by omega) ?_ ?_ ?_
 ·intro i hi k hk;walk_at "caps";walk_at "ev";refine aR h1 T.dH T.cH dM ?_;walk_at "ev";refine bK (cF.of h2) (aX (bO hi)) ?_;walk_at "ev";refine Zo5 ?_;rw [bO hi] at hk;walk_at "ev";simpa using hk
 ·intro i hi _ k hk;walk_at "caps";walk_at "ev";exact hk
 ·have e:((plc cs).map V.int)=((List.range cs.length).filter fun i=>!decide (cs[i]? =some V.non)).map fun (i:Nat)=>V.int i:=by
   unfold plc;rw [List.map_map];rfl
  rw [← e];exact h
theorem Zc {hp:Addr}{v:V} (T:TxC K bF bC) (q:∃ ca room used born cs,HpO bC H hp ca room used born cs∧OkN K H cs∧cs.length≤1000∧Q (.int (cs.idxOf V.non)) (upd H ca (.lst (putN cs v)))):yW K ⟨n,Q,bk,ct⟩ [some (.ref hp),some v,none] H:=by
 obtain ⟨ca,room,used,born,cs,⟨⟨dx,h1⟩,h2⟩,ho,hl,h⟩:=q;unfold yW;walk_at "ev";refine aR h1 T.dH T.cH dM ?_;walk_at "ev";refine Zhm (cF.of h2) ho ?_;walk_at "ev";refine vO (fun hn=>?_) (fun hn=>?_)
 ·walk_at "ev";refine aR h1 T.dH T.cH dM ?_;refine ⟨.inl ⟨rfl,_,cF.of h2⟩,?_⟩;walk_at "ev";refine ⟨ca,cs,v,rfl,rfl,h2,Nat.lt_of_le_of_lt hl (by decide),?_⟩;walk_at "ev";have hne:hp≠ca:=Dy h1 h2 (fun z=>by cases z);refine aR ((aA hne).trans h1) T.dH T.cH dM ?_;walk_at "ev";refine jV (cF.of aq) ?_;walk_at "ev";have e1:(((cs ++ [v]).length:Int) - 1)=(cs.idxOf V.non:Nat):=by
   rw [List.length_append,List.idxOf_eq_length hn];simp
  have e2:putN cs v=cs ++ [v]:=by unfold putN;rw [if_neg hn]
  rw [e1,← e2];exact h
 ·walk_at "ev";refine aR h1 T.dH T.cH dM ?_;refine ⟨.inl ⟨rfl,_,cF.of h2⟩,?_⟩;walk_at "ev";refine ⟨ca,cs,rfl,rfl,cF.of h2,ho,hn,?_⟩;walk_at "ev";refine aR h1 T.dH T.cH dM ?_;walk_at "ev";have hi:cs.idxOf V.non < cs.length:=List.idxOf_lt_length_iff.mpr hn;refine ⟨ca,cs,_,_,rfl,rfl,h2,lu hi,?_⟩;have e2:putN cs v=cs.set (cs.idxOf V.non) v:=by unfold putN;rw [if_pos hn]
  rw [← e2];walk_at "ev";exact h
theorem WY {hp:Addr}{many bulk tone:Int} (T:TxC K bF bC) (q:∃ ca dx room used born cs,H hp=some (.ins bC dx (mU room ca used born))∧H ca=some (.lst cs)∧OkN K H cs∧cs.length≤1000∧0≤many∧many≤1000∧
 (room - used < 1 + many + bulk→∀ H',bN H H'→E (.ref bH) none H')∧
 (1 + many + bulk≤room - used→∀ p fa H',H p=none→H fa=none→Fm [hp,ca] H H'→H' hp=some (.ins bC dx (mU room ca (used + (1 + many + bulk)) (born + 1)))→H' ca=some (.lst (putN cs (.ref p)))→
  Zm bF H' p fa (born + 1) bulk tone 0 (List.replicate many.toNat V.non)→Q (.int (cs.idxOf V.non)) H')):
  wY K bF bH bC (uH bF) (su bF) (uF bC) (xT K bC) E ⟨n,Q,bk,ct⟩ [some (.ref hp),some (.int many),some (.int bulk),some (.int tone),none] H:=by
 obtain ⟨ca,dx,room,used,born,cs,h1,h2,ho,hl,m0,m1,hE,hQ⟩:=q;have hne:hp≠ca:=Dy h1 h2 (fun z=>by cases z);unfold wY;walk_at "ev";refine aR h1 T.dH T.kj QB ?_;walk_at "ev";intro p dp np ndp ned;refine ⟨p,_,many,_,_,rfl,dp,aq,m0,m1,fun fa H1 nfa c1 c2 f3=>⟨rfl,?_⟩⟩;have Zni:H fa=none:=by
  have e:=nfa
  by_cases z1:fa=p
  ·rw [z1,aq] at e;cases e
  ·rw [aA z1] at e
   by_cases z2:fa=dp
   ·rw [z2,aq] at e;cases e
   ·rw [aA z2] at e;exact e
 have sm:bN H H1:=fun b o hb=>by
  refine f3 b o ?_ (aD hb np);rw [aA (aD hb np),aA (aD hb ndp)];exact hb
 have co:Zm bF H1 p fa (born + 1) bulk tone 0 (List.replicate many.toNat V.non):=⟨⟨dp,c1⟩,c2⟩;have el:((List.replicate many.toNat V.non).length:Int)=many:=by rw [List.length_replicate];omega
 walk_at "ev";refine ⟨p,dp,_,rfl,c1,zV,?_⟩;walk_at "ev";refine ⟨p,rfl,fa,_,_,_,_,_,co,?_⟩;walk_at "ev";refine ⟨hp,dx,_,rfl,sm _ _ h1,Qy,?_⟩;walk_at "ev";refine ⟨hp,rfl,ca,room,used,born,cs,⟨⟨dx,sm _ _ h1⟩,sm _ _ h2⟩,?_⟩;walk_at "ev";rw [el];refine sO (fun hf=>?_) (fun hf=>?_)
 ·walk_at "ev";exact ⟨by decide,hE hf H1 sm⟩
 ·walk_at "ev";refine aR c1 T.dz T.eX jX ?_;walk_at "ev";refine ⟨hp,bC,dx,_,rfl,sm _ _ h1,T.dH,T.kj,by show 4 < 1000;decide,?_⟩;rw [Ny];walk_at "ev";refine aR aq T.dH T.jK Bl ?_;walk_at "ev";have n1:p≠hp:=(aD h1 np).symm;have n2:fa≠hp:=(aD h1 Zni).symm;have n3:p≠ca:=(aD h2 np).symm;have n4:fa≠ca:=(aD h2 Zni).symm;refine ⟨p,dp,_,rfl,(aA n1).trans c1,zV,?_⟩;walk_at "ev";refine ⟨p,rfl,fa,_,_,_,_,_,⟨⟨dp,(aA n1).trans c1⟩,(aA n2).trans c2⟩,?_⟩;walk_at "ev";rw [el];refine ⟨hp,bC,dx,_,rfl,aq,T.dH,T.jK,by show 4 < 1000;decide,?_⟩;rw [Nx,eF];walk_at "ev";refine ⟨hp,dx,_,rfl,aq,VR,?_⟩;walk_at "ev";refine ⟨hp,.ref p,rfl,ca,room,_,_,cs,⟨⟨dx,aq⟩,(aA hne.symm).trans (sm _ _ h2)⟩,?_,hl,?_⟩
  ·intro y hy;rcases ho y hy with e | ⟨a,C,d,fs,e,ha,hc,he⟩
   ·exact .inl e
   ·refine .inr ?_
    by_cases z:a=hp
    ·rw [z] at ha e;rw [h1] at ha;cases ha;exact ⟨hp,_,_,_,e,aq,hc,he⟩
    ·exact ⟨a,C,d,fs,e,(aA z).trans (sm _ _ ha),hc,he⟩
  ·refine hQ (by omega) p fa _ np Zni ?_ ((aA hne).trans aq) aq ⟨⟨dp,?_⟩,?_⟩
   ·intro b o hb hn;have b1:b≠hp:=fun z=>hn (by rw [z];exact List.mem_cons_self);have b2:b≠ca:=fun z=>hn (by rw [z];exact List.mem_cons_of_mem _ List.mem_cons_self);rw [aA b2,aA b1];exact sm _ _ hb
   ·rw [aA n3,aA n1];exact c1
   ·rw [aA n4,aA n2];exact c2
end
structure Ce where
 birth:Int
 bulk:Int
 tone:Int
 load:Int
 fl:List (Option Int)
 deriving DecidableEq
structure Sw where
 sense:Int
 phase:Str
 grey:List Int
 looked:Int
 turn:Int
 at':Int
 stop:Int
 walks:Int
 looks:Int
 passes:Int
 loss:V
structure Wm where
 room:Int
 used:Int
 born:Int
 cells:List (Option Ce)
 hands:List (Str×List (Option Int))
 names:List (Str×(Int×Int))
 w:Int
 tells:Int
 sw:Sw
structure Wa where
 wo:Addr
 hp:Addr
 ca:Addr
 ki:Addr
 lk:Addr
 hl:Addr
 nm:Addr
 sw:Addr
 gr:Addr
 hs:List (Addr×Addr)
 cs:List (Option (Addr×Addr))
 ns:List Addr
def oV:Option Int→V
 | none=>.non
 | some i=>.int i
def pV:Option (Addr×Addr)→V
 | none=>.non
 | some p=>.ref p.1
structure yj (s:Nat) (t0:Nat→Prop) (H H':Hp) (T T':Tg):Prop where
 kp:∀ b o,H b=some o→(T b).1=s→¬ t0 (T b).2→H' b=some o
 tg:∀ b o,H b=some o→T' b=T b
section
variable {CHd CC:Addr}{H H':Hp}{T T':Tg}{s j i:Nat}{t0:Nat→Prop}
theorem yj.at {a:Addr}{o:HO}{m:Nat} (f:yj s t0 H H' T T') (ht:T a=(s,m)) (n:¬ t0 m) (h:H a=some o):H' a=some o:=f.kp a o h (by rw [ht]) (by rw [ht];exact n)
theorem yj.tag {a:Addr}{o:HO}{x:Nat×Nat} (f:yj s t0 H H' T T') (h:H a=some o) (ht:T a=x):T' a=x:=(f.tg a o h).trans ht
theorem yj.Cm {a:Addr}{o:HO}{m:Nat} (ht:T a=(s,m)):yj s (·=m) H (upd H a o) T T:=⟨fun b u h e n=>by
  have:b≠a:=fun z=>n (by rw [z,ht]);rw [aA this];exact h,fun _ _ _=>rfl⟩
theorem yj.of_same (e:bN H H'):yj s (fun _=>False) H H' T T:=⟨fun b o h _ _=>e b o h,fun _ _ _=>rfl⟩
theorem yj.Zgl {s':Nat} (e:Stp s' H H' T T') (n:s≠s'):yj s (fun _=>False) H H' T T':=⟨fun b o h z _=>e.kp b o h (by rw [z];exact n),e.tg⟩
structure HdO (CHd:Addr) (H:Hp) (T:Tg) (s j:Nat) (p:Addr×Addr) (m:Str×List (Option Int)):Prop where
 t1:T p.1=(s,20 + 2 * j)
 t2:T p.2=(s,21 + 2 * j)
 o1:∃ dx,H p.1=some (.ins CHd dx (Yz m.1 p.2))
 o2:H p.2=some (.lst (m.2.map oV))
theorem HdO.mv {p:Addr×Addr}{m:Str×List (Option Int)} (h:HdO CHd H T s j p m) (f:yj s t0 H H' T T') (n1:¬ t0 (20 + 2 * j)) (n2:¬ t0 (21 + 2 * j)):HdO CHd H' T' s j p m:=by
 obtain ⟨a1,a2,⟨dx,b1⟩,b2⟩:=h;exact ⟨f.tag b1 a1,f.tag b2 a2,⟨dx,f.at a1 n1 b1⟩,f.at a2 n2 b2⟩
structure Ri (CC:Addr) (H:Hp) (T:Tg) (s i:Nat) (p:Addr×Addr) (c:Ce):Prop where
 t1:T p.1=(s,100 + 2 * i)
 t2:T p.2=(s,101 + 2 * i)
 o1:∃ dx,H p.1=some (.ins CC dx (mV c.birth c.bulk c.tone c.load p.2))
 o2:H p.2=some (.lst (c.fl.map oV))
theorem Ri.mv {p:Addr×Addr}{c:Ce} (h:Ri CC H T s i p c) (f:yj s t0 H H' T T') (n1:¬ t0 (100 + 2 * i)) (n2:¬ t0 (101 + 2 * i)):Ri CC H' T' s i p c:=by
 obtain ⟨a1,a2,⟨dx,b1⟩,b2⟩:=h;exact ⟨f.tag b1 a1,f.tag b2 a2,⟨dx,f.at a1 n1 b1⟩,f.at a2 n2 b2⟩
def CeP (CC:Addr) (H:Hp) (T:Tg) (s i:Nat):Option (Addr×Addr)→Option Ce→Prop
 | none,none=>True
 | some p,some c=>Ri CC H T s i p c
 | _,_=>False
theorem CeP.mv {p:Option (Addr×Addr)}{c:Option Ce} (h:CeP CC H T s i p c) (f:yj s t0 H H' T T') (n1:¬ t0 (100 + 2 * i)) (n2:¬ t0 (101 + 2 * i)):CeP CC H' T' s i p c:=by
 cases p with
 | none=>cases c with
  | none=>trivial
  | some c=>exact h.elim
 | some p=>cases c with
  | none=>exact h.elim
  | some c=>exact Ri.mv h f n1 n2
end
def NmO (H:Hp) (T:Tg) (t:Addr) (m:Str×(Int×Int)):Prop:=T t=(0,0)∧H t=some (.tup [.int m.2.1,.int m.2.2])
structure Cs where
 W:Addr
 H:Addr
 C:Addr
 K:Addr
 D:Addr
 S:Addr
 F:Addr
 E:Addr
 L:Addr
structure WB (X:Cs) (H:Hp) (T:Tg) (s:Nat) (A:Wa) (w tells:Int):Prop where
 tw:T A.wo=(s,0)
 tk:T A.ki=(0,0)
 tl:T A.lk=(0,0)
 tn:T A.hl=(s,5)
 ow:∃ dx,H A.wo=some (.ins X.W dx (yr A.hp A.ki A.hl A.nm A.sw))
 ok:∃ dx,H A.ki=some (.ins X.K dx (Ej A.lk tells))
 ol:∃ dx,(w=0∧H A.lk=some (.ins X.F dx []))∨(w=1∧H A.lk=some (.ins X.E dx []))∨(w=2∧H A.lk=some (.ins X.L dx []))
 on:H A.hl=some (.lst (A.hs.map fun p=>V.ref p.1))
structure WH (X:Cs) (H:Hp) (T:Tg) (s:Nat) (A:Wa) (room used born:Int):Prop where
 th:T A.hp=(s,1)
 tc:T A.ca=(s,2)
 oh:∃ dx,H A.hp=some (.ins X.H dx (mU room A.ca used born))
 oc:H A.ca=some (.lst (A.cs.map pV))
def HR (M:List (Str×(Int×Int))) (ns:List Addr):List ((Int ⊕ Str)×V):=List.zipWith (fun (m:Str×(Int×Int)) (t:Addr)=>(Sum.inr m.1,V.ref t)) M ns
structure WN (H:Hp) (T:Tg) (s:Nat) (A:Wa) (names:List (Str×(Int×Int))):Prop where
 tm:T A.nm=(s,6)
 om:H A.nm=some (.dK (HR names A.ns))
 nms:Al (NmO H T) A.ns names
structure WS (X:Cs) (H:Hp) (T:Tg) (s:Nat) (A:Wa) (S:Sw):Prop where
 ts:T A.sw=(s,7)
 tg:T A.gr=(s,8)
 os:∃ dx,H A.sw=some (.ins X.S dx (dY S.sense S.phase A.gr S.looked S.turn S.at' S.stop S.walks S.looks S.passes S.loss))
 og:H A.gr=some (.lst (S.grey.map V.int))
structure WD (X:Cs) (H:Hp) (T:Tg) (s:Nat) (hs:List (Addr×Addr)) (hands:List (Str×List (Option Int))):Prop where
 lh:hs.length=hands.length
 l5:hs.length≤30
 hd:∀ (j:Nat) p m,hs[j]? =some p→hands[j]? =some m→HdO X.D H T s j p m
structure WC (X:Cs) (H:Hp) (T:Tg) (s:Nat) (cs:List (Option (Addr×Addr))) (cells:List (Option Ce)):Prop where
 lc:cs.length=cells.length
 ce:∀ (i:Nat) p c,cs[i]? =some p→cells[i]? =some c→CeP X.C H T s i p c
structure WJ (X:Cs) (H:Hp) (T:Tg) (s:Nat) (A:Wa) (M:Wm):Prop where
 jb:WB X H T s A M.w M.tells
 jh:WH X H T s A M.room M.used M.born
 jn:WN H T s A M.names
 js:WS X H T s A M.sw
 jd:WD X H T s A.hs M.hands
 jc:WC X H T s A.cs M.cells
section
variable {X:Cs}{H H':Hp}{T T':Tg}{s:Nat}{t0:Nat→Prop}{A:Wa}{M:Wm}
theorem WB.mv {w tells:Int} (j:WB X H T s A w tells) (f:yj s t0 H H' T T') (f0:∀ b o,H b=some o→T b=(0,0)→H' b=some o) (n0:¬ t0 0) (n5:¬ t0 5):WB X H' T' s A w tells:=by
 obtain ⟨tw,tk,tl,tn,⟨d1,ow⟩,⟨d3,ok⟩,⟨d4,ol⟩,on⟩:=j;have hlk:∃ o,H A.lk=some o:=by
  rcases ol with ⟨_,e⟩ | ⟨_,e⟩ | ⟨_,e⟩
  ·exact ⟨_,e⟩
  ·exact ⟨_,e⟩
  ·exact ⟨_,e⟩
 obtain ⟨olk,elk⟩:=hlk;refine ⟨f.tag ow tw,f.tag ok tk,f.tag elk tl,f.tag on tn,⟨d1,f.at tw n0 ow⟩,⟨d3,f0 _ _ ok tk⟩,⟨d4,?_⟩,f.at tn n5 on⟩;rcases ol with ⟨z,e⟩ | ⟨z,e⟩ | ⟨z,e⟩
 ·exact .inl ⟨z,f0 _ _ e tl⟩
 ·exact .inr (.inl ⟨z,f0 _ _ e tl⟩)
 ·exact .inr (.inr ⟨z,f0 _ _ e tl⟩)
theorem WH.mv {room used born:Int} (j:WH X H T s A room used born) (f:yj s t0 H H' T T') (n1:¬ t0 1) (n2:¬ t0 2):WH X H' T' s A room used born:=by
 obtain ⟨th,tc,⟨d,oh⟩,oc⟩:=j;exact ⟨f.tag oh th,f.tag oc tc,⟨d,f.at th n1 oh⟩,f.at tc n2 oc⟩
theorem WN.mv {names:List (Str×(Int×Int))} (j:WN H T s A names) (f:yj s t0 H H' T T') (f0:∀ b o,H b=some o→T b=(0,0)→H' b=some o) (n6:¬ t0 6):WN H' T' s A names:=by
 obtain ⟨tm,om,nms⟩:=j;exact ⟨f.tag om tm,f.at tm n6 om,nms.mono fun t m ⟨z1,z2⟩=>⟨f.tag z2 z1,f0 _ _ z2 z1⟩⟩
theorem WS.mv {S:Sw} (j:WS X H T s A S) (f:yj s t0 H H' T T') (n7:¬ t0 7) (n8:¬ t0 8):WS X H' T' s A S:=by
 obtain ⟨ts,tg,⟨d,os⟩,og⟩:=j;exact ⟨f.tag os ts,f.tag og tg,⟨d,f.at ts n7 os⟩,f.at tg n8 og⟩
theorem WD.mv {hs:List (Addr×Addr)}{hands:List (Str×List (Option Int))} (j:WD X H T s hs hands) (f:yj s t0 H H' T T') (n:∀ k,20≤k→k < 100→¬ t0 k):WD X H' T' s hs hands:=by
 obtain ⟨lh,l5,hd⟩:=j;refine ⟨lh,l5,fun j p m e1 e2=>?_⟩;have hl:j < hs.length:=(cI e1).1;exact (hd j p m e1 e2).mv f (n _ (by omega) (by omega)) (n _ (by omega) (by omega))
theorem WC.mv {cs:List (Option (Addr×Addr))}{cells:List (Option Ce)} (j:WC X H T s cs cells) (f:yj s t0 H H' T T') (n:∀ k,100≤k→¬ t0 k):WC X H' T' s cs cells:=by
 obtain ⟨lc,ce⟩:=j;exact ⟨lc,fun i p c e1 e2=>(ce i p c e1 e2).mv f (n _ (by omega)) (n _ (by omega))⟩
theorem WJ.mv (j:WJ X H T s A M) (f:yj s (fun _=>False) H H' T T') (f0:∀ b o,H b=some o→T b=(0,0)→H' b=some o):WJ X H' T' s A M:=
 ⟨j.jb.mv f f0 id id,j.jh.mv f id id,j.jn.mv f f0 id,j.js.mv f id id,j.jd.mv f fun _ _ _=>id,j.jc.mv f fun _ _=>id⟩
theorem WJ.same (j:WJ X H T s A M) (e:bN H H'):WJ X H' T s A M:=j.mv (yj.of_same e) fun b o h _=>e b o h
theorem WJ.other {s':Nat} (j:WJ X H T s A M) (e:Stp s' H H' T T') (n:s≠s') (n0:s'≠0):WJ X H' T' s A M:=j.mv (yj.Zgl e n) fun b o h t=>e.kp b o h (by rw [t];exact fun z=>n0 z.symm)
theorem pF {a:Addr}{o':HO}{m:Nat} (h0:s≠0) (ta:T a=(s,m)):∀ b o,H b=some o→T b=(0,0)→upd H a o' b=some o:=fun b o e t=>by
 rw [aA (tQ t ta (fun z=>h0 (congrArg Prod.fst z).symm))];exact e
theorem WJ.slot (j:WJ X H T s A M) (w:WT H T) (h0:s≠0) {h k:Nat}{p:Addr×Addr}{m:Str×List (Option Int)}{x:Option Int} (hp:A.hs[h]? =some p) (hm:M.hands[h]? =some m):
  Stp s H (upd H p.2 (.lst ((m.2.map oV).set k (oV x)))) T T∧WJ X (upd H p.2 (.lst ((m.2.map oV).set k (oV x)))) T s A { M with hands:=M.hands.set h (m.1,m.2.set k x) }:=by
 have hl:=j.jd.l5;have hh:h < A.hs.length:=(cI hp).1;have hh':h < M.hands.length:=(cI hm).1;have d:=j.jd.hd h p m hp hm;refine ⟨Stp.upd w d.o2 (by rw [d.t2]),?_⟩;have f:yj s (·=21 + 2 * h) H (upd H p.2 (.lst ((m.2.map oV).set k (oV x)))) T T:=yj.Cm d.t2;have b2:upd H p.2 (.lst ((m.2.map oV).set k (oV x))) p.2=some (.lst ((m.2.set k x).map oV)):=by rw [aq,List.map_set]
 refine ⟨j.jb.mv f (pF h0 d.t2) (by omega) (by omega),j.jh.mv f (by omega) (by omega),j.jn.mv f (pF h0 d.t2) (by omega),j.js.mv f (by omega) (by omega),⟨by rw [List.length_set];exact j.jd.lh,hl,fun j' p' m' e1 e2=>?_⟩,j.jc.mv f fun _ _=>by omega⟩
 by_cases hj:j'=h
 ·subst hj;dsimp only at e2;rw [List.getElem?_set_self hh'] at e2;rw [hp] at e1;cases e1;cases e2;obtain ⟨dd,o1⟩:=d.o1;exact ⟨d.t1,d.t2,⟨dd,f.at d.t1 (by omega) o1⟩,b2⟩
 ·dsimp only at e2;rw [List.getElem?_set_ne (fun z=>hj z.symm)] at e2;exact (j.jd.hd j' p' m' e1 e2).mv f (by omega) (by omega)
theorem WC.at (j:WC X H T s A.cs M.cells) {i:Nat}{c:Ce} (h:M.cells[i]? =some (some c)):∃ p,A.cs[i]? =some (some p)∧Ri X.C H T s i p c:=by
 have hl:i < A.cs.length:=by rw [j.lc];exact (cI h).1
 have e:=j.ce i _ _ (bO hl) h;cases hg:A.cs[i] with
 | none=>rw [hg] at e;exact e.elim
 | some g=>rw [hg] at e;exact ⟨g,by rw [bO hl,hg],e⟩
theorem WC.at0 (j:WC X H T s A.cs M.cells) {i:Nat} (h:M.cells[i]? =some none):A.cs[i]? =some none:=by
 have hl:i < A.cs.length:=by rw [j.lc];exact (cI h).1
 have e:=j.ce i _ _ (bO hl) h;cases hg:A.cs[i] with
 | none=>rw [bO hl,hg]
 | some g=>rw [hg] at e;exact e.elim
theorem WC.chg (j:WC X H T s A.cs M.cells) {i:Nat}{p:Addr×Addr}{c':Ce} (f:yj s t0 H H' T T') (hp:A.cs[i]? =some (some p)) (n:∀ k,100≤k→k≠100 + 2 * i→k≠101 + 2 * i→¬ t0 k) (e:Ri X.C H' T' s i p c'):
  WC X H' T' s A.cs (M.cells.set i (some c')):=by
 have hl:i < A.cs.length:=(cI hp).1;refine ⟨by rw [List.length_set];exact j.lc,fun k g c e1 e2=>?_⟩
 by_cases hk:k=i
 ·subst hk;rw [List.getElem?_set_self (by rw [← j.lc];exact hl)] at e2;rw [hp] at e1;cases e1;cases e2;exact e
 ·rw [List.getElem?_set_ne (fun z=>hk z.symm)] at e2;exact (j.ce k g c e1 e2).mv f (n _ (by omega) (by omega) (by omega)) (n _ (by omega) (by omega) (by omega))
theorem WJ.field (j:WJ X H T s A M) (w:WT H T) (h0:s≠0) {i k:Nat}{p:Addr×Addr}{c:Ce}{x:Option Int} (hp:A.cs[i]? =some (some p)) (e:Ri X.C H T s i p c):
  Stp s H (upd H p.2 (.lst ((c.fl.map oV).set k (oV x)))) T T∧WJ X (upd H p.2 (.lst ((c.fl.map oV).set k (oV x)))) T s A { M with cells:=M.cells.set i (some { c with fl:=c.fl.set k x }) }:=by
 refine ⟨Stp.upd w e.o2 (by rw [e.t2]),?_⟩;have f:yj s (·=101 + 2 * i) H (upd H p.2 (.lst ((c.fl.map oV).set k (oV x)))) T T:=yj.Cm e.t2;have b2:upd H p.2 (.lst ((c.fl.map oV).set k (oV x))) p.2=some (.lst ((c.fl.set k x).map oV)):=by rw [aq,List.map_set]
 obtain ⟨dd,o1⟩:=e.o1;exact ⟨j.jb.mv f (pF h0 e.t2) (by omega) (by omega),j.jh.mv f (by omega) (by omega),j.jn.mv f (pF h0 e.t2) (by omega),j.js.mv f (by omega) (by omega),j.jd.mv f fun _ _ _=>by omega,
  j.jc.chg f hp (fun k _ _ n2 z=>n2 z) ⟨e.t1,e.t2,⟨dd,f.at e.t1 (by omega) o1⟩,b2⟩⟩
theorem WJ.cell (j:WJ X H T s A M) (w:WT H T) (h0:s≠0) {i:Nat}{p:Addr×Addr}{c:Ce}{dx:Addr}{tone load:Int} (hp:A.cs[i]? =some (some p)) (e:Ri X.C H T s i p c):
  Stp s H (upd H p.1 (.ins X.C dx (mV c.birth c.bulk tone load p.2))) T T∧WJ X (upd H p.1 (.ins X.C dx (mV c.birth c.bulk tone load p.2))) T s A { M with cells:=M.cells.set i (some { c with tone:=tone,load:=load }) }:=by
 obtain ⟨dd,o1⟩:=e.o1;refine ⟨Stp.upd w o1 (by rw [e.t1]),?_⟩;have f:yj s (·=100 + 2 * i) H (upd H p.1 (.ins X.C dx (mV c.birth c.bulk tone load p.2))) T T:=yj.Cm e.t1;exact ⟨j.jb.mv f (pF h0 e.t1) (by omega) (by omega),j.jh.mv f (by omega) (by omega),j.jn.mv f (pF h0 e.t1) (by omega),j.js.mv f (by omega) (by omega),j.jd.mv f fun _ _ _=>by omega,
  j.jc.chg f hp (fun k _ n1 _ z=>n1 z) ⟨e.t1,e.t2,⟨dx,aq⟩,f.at e.t2 (by omega) e.o2⟩⟩
theorem WJ.sweep (j:WJ X H T s A M) (w:WT H T) (h0:s≠0) {dx:Addr} (S:Sw) (e9:S.grey=M.sw.grey):
  Stp s H (upd H A.sw (.ins X.S dx (dY S.sense S.phase A.gr S.looked S.turn S.at' S.stop S.walks S.looks S.passes S.loss))) T T∧
  WJ X (upd H A.sw (.ins X.S dx (dY S.sense S.phase A.gr S.looked S.turn S.at' S.stop S.walks S.looks S.passes S.loss))) T s A { M with sw:=S }:=by
 obtain ⟨ts,tg,⟨dd,os⟩,og⟩:=j.js;refine ⟨Stp.upd w os (by rw [ts]),?_⟩;have f:yj s (·=7) H (upd H A.sw (.ins X.S dx (dY S.sense S.phase A.gr S.looked S.turn S.at' S.stop S.walks S.looks S.passes S.loss))) T T:=yj.Cm ts;exact ⟨j.jb.mv f (pF h0 ts) (by omega) (by omega),j.jh.mv f (by omega) (by omega),j.jn.mv f (pF h0 ts) (by omega),⟨ts,tg,⟨dx,aq⟩,by rw [e9];exact f.at tg (by omega) og⟩,j.jd.mv f fun _ _ _=>by omega,j.jc.mv f fun _ _=>by omega⟩
theorem WJ.Zr5 (j:WJ X H T s A M) (w:WT H T) (h0:s≠0) {g:List Int}:Stp s H (upd H A.gr (.lst (g.map V.int))) T T∧WJ X (upd H A.gr (.lst (g.map V.int))) T s A { M with sw:={ M.sw with grey:=g } }:=by
 obtain ⟨ts,tg,⟨dd,os⟩,og⟩:=j.js;refine ⟨Stp.upd w og (by rw [tg]),?_⟩;have f:yj s (·=8) H (upd H A.gr (.lst (g.map V.int))) T T:=yj.Cm tg;exact ⟨j.jb.mv f (pF h0 tg) (by omega) (by omega),j.jh.mv f (by omega) (by omega),j.jn.mv f (pF h0 tg) (by omega),⟨ts,tg,⟨dd,f.at ts (by omega) os⟩,aq⟩,j.jd.mv f fun _ _ _=>by omega,j.jc.mv f fun _ _=>by omega⟩
end
def iu {α:Type}:List (Option α)→Nat
 | []=>0
 | none :: _=>0
 | some _ :: l=>iu l + 1
def jH {α:Type} (l:List (Option α)) (x:α):List (Option α):=if iu l < l.length then l.set (iu l) (some x) else l ++ [some x]
theorem Zcv {α:Type} (l:List (Option α)):iu l≤l.length:=by
 induction l with
 | nil=>exact Nat.le_refl _
 | cons a l ih=>cases a with
  | none=>exact Nat.zero_le _
  | some a=>exact Nat.succ_le_succ ih
theorem Zlj {α:Type}{l:List (Option α)} (h:iu l < l.length):l[iu l]? =some none:=by
 induction l with
 | nil=>exact absurd h (Nat.lt_irrefl _)
 | cons a l ih=>cases a with
  | none=>rfl
  | some a=>exact ih (Nat.lt_of_succ_lt_succ h)
theorem YB {α:Type}{f:Option α→V} (hf:∀ x,f x=V.non↔x=none) (l:List (Option α)):(l.map f).idxOf V.non=iu l∧(V.non∈l.map f↔iu l < l.length):=by
 induction l with
 | nil=>exact ⟨rfl,⟨fun z=>(nomatch z),fun z=>absurd z (Nat.lt_irrefl _)⟩⟩
 | cons a l ih=>
  rw [List.map_cons,List.idxOf_cons];cases a with
  | none=>
   have e:f none=V.non:=(hf none).mpr rfl;rw [e];exact ⟨rfl,⟨fun _=>Nat.zero_lt_succ _,fun _=>List.mem_cons_self⟩⟩
  | some a=>
   have e:f (some a)≠V.non:=fun z=>by cases (hf (some a)).mp z
   have b:(f (some a) == V.non)=false:=beq_eq_false_iff_ne.mpr e;rw [b];refine ⟨congrArg (· + 1) ih.1,?_⟩;show _↔iu l + 1 < l.length + 1;rw [List.mem_cons,ih.2];constructor
   ·rintro (z | z)
    ·exact absurd z.symm e
    ·omega
   ·intro z;exact .inr (by omega)
theorem Zfz {α:Type}{f:Option α→V} (hf:∀ x,f x=V.non↔x=none) (l:List (Option α)) (x:α):putN (l.map f) (f (some x))=(jH l x).map f:=by
 obtain ⟨e1,e2⟩:=YB hf l;unfold putN jH
 by_cases z:iu l < l.length
 ·rw [if_pos z,if_pos (e2.mpr z),List.map_set];exact congrArg (fun k=>(l.map f).set k (f (some x))) e1
 ·rw [if_neg z,if_neg (fun w=>z (e2.mp w)),List.map_append];rfl
theorem Zgg (p:Option (Addr×Addr)):pV p=V.non↔p=none:=by cases p<;>simp [pV]
theorem Up {α:Type} (l:List (Option α)) (x:α):(jH l x)[iu l]? =some (some x):=by
 unfold jH
 by_cases z:iu l < l.length
 ·rw [if_pos z,List.getElem?_set_self z]
 ·have e:iu l=l.length:=Nat.le_antisymm (Zcv l) (by omega);rw [if_neg z,e,List.getElem?_append_right (Nat.le_refl _),Nat.sub_self];rfl
theorem Zcg {α:Type}{l:List (Option α)}{x:α}{i:Nat}{y:Option α} (hi:i≠iu l) (h:(jH l x)[i]? =some y):l[i]? =some y:=by
 unfold jH at h
 by_cases z:iu l < l.length
 ·rw [if_pos z,List.getElem?_set_ne (fun w=>hi w.symm)] at h;exact h
 ·rw [if_neg z] at h;have e:iu l=l.length:=Nat.le_antisymm (Zcv l) (by omega);have hl:=(cI h).1;rw [List.length_append,List.length_singleton] at hl;rw [List.getElem?_append_left (by omega)] at h;exact h
theorem Zg0 {α β:Type}{l:List (Option α)}{m:List (Option β)}{x:α}{y:β} (hl:l.length=m.length) (hf:iu l=iu m):(jH l x).length=(jH m y).length:=by
 unfold jH
 by_cases z:iu l < l.length
 ·rw [if_pos z,if_pos (by omega),List.length_set,List.length_set];exact hl
 ·rw [if_neg z,if_neg (by omega),List.length_append,List.length_append,hl];rfl
theorem Zli {α β:Type}:∀ (l:List (Option α)) (m:List (Option β)),l.length=m.length→(∀ (i:Nat) x y,l[i]? =some x→m[i]? =some y→(x=none↔y=none))→iu l=iu m:=by
 intro l
 induction l with
 | nil=>
  intro m hl _;cases m with
  | nil=>rfl
  | cons b m=>simp at hl
 | cons a l ih=>
  intro m hl h;cases m with
  | nil=>simp at hl
  | cons b m=>
   have ih':=ih m (by simpa using hl) fun i x y h1 h2=>h (i + 1) x y (by simpa using h1) (by simpa using h2);have e:=h 0 a b rfl rfl;cases a with
   | none=>rw [e.mp rfl];rfl
   | some a=>cases b with
    | none=>exact absurd (e.mpr rfl) (fun z=>by cases z)
    | some b=>exact congrArg (· + 1) ih'
section
variable {X:Cs}{H H':Hp}{T T':Tg}{s:Nat}{A:Wa}{M:Wm}
theorem WC.fst (j:WC X H T s A.cs M.cells):iu A.cs=iu M.cells:=Zli _ _ j.lc fun i p c e1 e2=>by
 have e:=j.ce i p c e1 e2;cases p with
 | none=>cases c with
  | none=>exact ⟨fun _=>rfl,fun _=>rfl⟩
  | some c=>exact e.elim
 | some p=>cases c with
  | none=>exact e.elim
  | some c=>exact ⟨fun z=>(by cases z),fun z=>(by cases z)⟩
theorem WJ.put (j:WJ X H T s A M) (w:WT H T) (h0:s≠0) {dx:Addr}{used':Int}{p fa:Addr}{c:Ce} (kp:∀ b o,H b=some o→b≠A.hp→b≠A.ca→H' b=some o) (a1:H' A.hp=some (.ins X.H dx (mU M.room A.ca used' (M.born + 1)))) (a2:H' A.ca=some (.lst (putN (A.cs.map pV) (.ref p))))
  (n1:H p=none) (n2:H fa=none) (m1:p≠fa) (o1:∃ dx,H' p=some (.ins X.C dx (mV c.birth c.bulk c.tone c.load fa))) (o2:H' fa=some (.lst (c.fl.map oV))):
  ∃ T',Stp s H H' T T'∧WJ X H' T' s { A with cs:=jH A.cs (p,fa) } { M with used:=used',born:=M.born + 1,cells:=jH M.cells c }:=by
 obtain ⟨th,tc,⟨dd,oh⟩,oc⟩:=j.jh;have i1:=j.jc.fst
 let k:=iu A.cs
 let T':Tg:=fG (fG T p (s,100 + 2 * k)) fa (s,101 + 2 * k)
 have told:∀ b o,H b=some o→T' b=T b:=fun b o h=>by
  show fG _ _ _ b=_;rw [fO (aD h n2),fO (aD h n1)]
 have t1:T' p=(s,100 + 2 * k):=by show fG _ _ _ p=_;rw [fO m1,fB]
 have t2:T' fa=(s,101 + 2 * k):=by show fG _ _ _ fa=_;rw [fB]
 have al:∀ b o,H b=some o→∃ o',H' b=some o':=fun b o h=>by
  by_cases z1:b=A.hp
  ·exact ⟨_,by rw [z1];exact a1⟩
  ·by_cases z2:b=A.ca
   ·exact ⟨_,by rw [z2];exact a2⟩
   ·exact ⟨o,kp b o h z1 z2⟩
 have f:yj s (fun k=>k=1∨k=2) H H' T T':=⟨fun b o h e n=>kp b o h (fun z=>n (.inl (by rw [z,th]))) (fun z=>n (.inr (by rw [z,tc]))),told⟩;have f0:∀ b o,H b=some o→T b=(0,0)→H' b=some o:=fun b o h t=>kp b o h (tQ t th (fun z=>h0 (congrArg Prod.fst z).symm)) (tQ t tc (fun z=>h0 (congrArg Prod.fst z).symm));refine ⟨T',⟨fun b o h nn=>kp b o h (fun z=>nn (by rw [z,th])) (fun z=>nn (by rw [z,tc])),al,told,fun b h=>?_⟩,?_⟩
 ·have b1:b≠p:=fun e=>by obtain ⟨d,z⟩:=o1;rw [e,z] at h;cases h
  have b2:b≠fa:=fun e=>by rw [e,o2] at h;cases h
  have hb:H b=none:=by
   cases z:H b with
   | none=>rfl
   | some o=>obtain ⟨o',z'⟩:=al b o z;rw [h] at z';cases z'
  show fG _ _ _ b=_;rw [fO b2,fO b1];exact w b hb
 ·refine ⟨?_,⟨f.tag oh th,f.tag oc tc,⟨dx,a1⟩,?_⟩,?_,?_,j.jd.mv f fun _ _ _=>by omega,⟨Zg0 j.jc.lc i1,fun i g cc e1 e2=>?_⟩⟩
  ·obtain ⟨b1,b2,b3,b4,b5,b6,b7,b8⟩:=j.jb.mv f f0 (by omega) (by omega);exact ⟨b1,b2,b3,b4,b5,b6,b7,b8⟩
  ·show H' A.ca=some (.lst ((jH A.cs (p,fa)).map pV));rw [← Zfz Zgg];exact a2
  ·obtain ⟨b1,b2,b3⟩:=j.jn.mv f f0 (by omega);exact ⟨b1,b2,b3⟩
  ·obtain ⟨b1,b2,b3,b4⟩:=j.js.mv f (by omega) (by omega);exact ⟨b1,b2,b3,b4⟩
  ·dsimp only at e1 e2
   by_cases hk:i=iu A.cs
   ·subst hk;rw [Up] at e1;rw [i1,Up] at e2;cases e1;cases e2;exact ⟨t1,t2,o1,o2⟩
   ·exact (j.jc.ce i g cc (Zcg hk e1) (Zcg (by rw [← i1];exact hk) e2)).mv f (by omega) (by omega)
end
def cellAt (M:Wm) (x:Int):Option Ce:=if 0≤x then (M.cells[x.toNat]?).join else none
def d8 (M:Wm):Option Int→Option Int
 | none=>none
 | some x=>(cellAt M x).map (·.birth)
def aB (M:Wm) (h k:Nat):Option Int:=((M.hands[h]?).bind fun m=>m.2[k]?).join
def setSlot (M:Wm) (h k:Nat) (x:Option Int):Wm:={ M with hands:=M.hands.modify h fun m=>(m.1,m.2.set k x) }
def setCell (M:Wm) (i:Int) (c:Ce):Wm:={ M with cells:=M.cells.set i.toNat (some c) }
def bZ (M:Wm):Option Int→Option Int×Wm
 | none=>(none,M)
 | some i=>match cellAt M i with
  | none=>(none,M)
  | some c=>if M.sw.phase="walk"∧c.tone≠M.sw.sense then (some c.birth,{ setCell M i { c with tone:=M.sw.sense } with sw:={ M.sw with grey:=M.sw.grey ++ [i] } }) else (none,M)
def bM (M:Wm) (h:Nat):Bool:=decide (M.sw.looked / 2 ^ h % 2=1)
def m8 (M:Wm) (place birth:Int):Bool:=match cellAt M place with
 | none=>true
 | some c=>if c.birth=birth then decide (M.sw.phase="give"∧c.tone≠M.sw.sense) else true
def mR (l:List (Str×(Int×Int))) (k:Str) (v:Int×Int):List (Str×(Int×Int)):=if (l.any fun m=>decide (m.1=k))=true then l.map (fun m=>if m.1=k then (m.1,v) else m) else l ++ [(k,v)]
def jW (l:List (Str×(Int×Int))) (k:Str):Option (Int×Int):=(l.find? fun m=>decide (m.1=k)).map (·.2)
inductive Rf where
 | full | empty | jz | vg
 deriving DecidableEq
structure Ev where
 word:Str
 thing:Option Int
 notes:List Int
inductive iC where
 | make (h s:Nat) (many bulk:Int)
 | get (h s t f:Nat)
 | put (h t f s:Nat)
 | copy (h s t:Nat)
 | drop (h s:Nat)
 | give (h s g t:Nat)
 | write (h t:Nat) (load:Int)
 | read (h t:Nat)
 | name (h t:Nat) (word:Str)
 | seek (h s:Nat) (word:Str)
def old? (M:Wm):Bool:=decide (M.tells % 2=1)
def jT (M:Wm):Bool:=decide (M.tells / 2 % 2=1)
def ofN:Option Int→List Int
 | none=>[]
 | some b=>[b]
def bA (M:Wm):List (Option Int)→List Int×Wm
 | []=>([],M)
 | x :: l=>(ofN (bZ M x).1 ++ (bA (bZ M x).2 l).1,(bA (bZ M x).2 l).2)
def qb (M:Wm):iC→Except Rf (Ev×Wm)
 | .make h s many bulk=>
  if M.used + (1 + many + bulk)≤M.room then
   .ok (⟨"made",some (M.born + 1),[]⟩,setSlot { M with used:=M.used + (1 + many + bulk),born:=M.born + 1,cells:=jH M.cells ⟨M.born + 1,bulk,M.sw.sense,0,List.replicate many.toNat none⟩ } h s (some (iu M.cells)))
  else .error .full
 | .get h s t f=>match aB M h t with
  | none=>.error .empty
  | some x=>match cellAt M x with
   | none=>.error .empty
   | some c=>match c.fl[f]? with
    | none=>.error .jz
    | some v=>.ok (⟨"got",d8 M v,[]⟩,setSlot M h s v)
 | .put h t f s=>match aB M h t with
  | none=>.error .empty
  | some x=>match cellAt M x with
   | none=>.error .empty
   | some c=>match c.fl[f]? with
    | none=>.error .jz
    | some v=>
     let M1:=setCell M x { c with fl:=c.fl.set f (aB M h s) }
     let r:=bA M1 ((if old? M=true then [v] else []) ++ if (jT M && !bM M h)=true then [aB M h s] else [])
     .ok (⟨"put",d8 M v,r.1⟩,r.2)
 | .copy h s t=>.ok (⟨"copied",d8 M (aB M h t),[]⟩,setSlot M h s (aB M h t))
 | .drop h s=>.ok (⟨"dropped",d8 M (aB M h s),[]⟩,setSlot M h s none)
 | .give h s g t=>
  let r:=bA (setSlot M g t (aB M h s)) (if (jT M && !bM M h)=true then [aB M h s] else [])
  .ok (⟨"given",d8 M (aB M h s),r.1⟩,r.2)
 | .write h t load=>match aB M h t with
  | none=>.error .empty
  | some x=>match cellAt M x with
   | none=>.error .empty
   | some c=>.ok (⟨"wrote",some c.load,[]⟩,setCell M x { c with load:=load })
 | .read h t=>match aB M h t with
  | none=>.error .empty
  | some x=>match cellAt M x with
   | none=>.error .empty
   | some c=>.ok (⟨"read",some c.load,[]⟩,M)
 | .name h t word=>match aB M h t with
  | none=>.error .empty
  | some x=>match cellAt M x with
   | none=>.error .empty
   | some c=>.ok (⟨"named",some c.birth,[]⟩,{ M with names:=mR M.names word (x,c.birth) })
 | .seek h s word=>match jW M.names word with
  | none=>.error .vg
  | some (p,b)=>
   if m8 M p b=true then .ok (⟨"sought",none,[]⟩,setSlot M h s none)
   else
    let r:=bA (setSlot M h s (some p)) [some p]
    .ok (⟨"sought",some b,r.1⟩,r.2)
def dV:iC→List V
 | .make h s many bulk=>[.str "make",.int h,.int s,.int many,.int bulk]
 | .get h s t f=>[.str "get",.int h,.int s,.int t,.int f]
 | .put h t f s=>[.str "put",.int h,.int t,.int f,.int s]
 | .copy h s t=>[.str "copy",.int h,.int s,.int t]
 | .drop h s=>[.str "drop",.int h,.int s]
 | .give h s g t=>[.str "give",.int h,.int s,.int g,.int t]
 | .write h t load=>[.str "write",.int h,.int t,.int load]
 | .read h t=>[.str "read",.int h,.int t]
 | .name h t word=>[.str "name",.int h,.int t,.str word]
 | .seek h s word=>[.str "seek",.int h,.int s,.str word]
def Fw (M:Wm) (h s:Nat):Prop:=∃ m,M.hands[h]? =some m∧s < m.2.length
def okD (M:Wm):iC→Prop
 | .make h s many bulk=>Fw M h s∧0≤many∧many≤1000∧0≤bulk
 | .get h s t _=>Fw M h s∧Fw M h t
 | .put h t _ s=>Fw M h t∧Fw M h s
 | .copy h s t=>Fw M h s∧Fw M h t
 | .drop h s=>Fw M h s
 | .give h s g t=>Fw M h s∧Fw M g t
 | .write h t _=>Fw M h t
 | .read h t=>Fw M h t
 | .name h t _=>Fw M h t
 | .seek h s _=>Fw M h s
structure Ok (M:Wm):Prop where
 sl:∀ m∈M.hands,∀ x,some x∈m.2→∃ c,cellAt M x=some c
 fl:∀ c,some c∈M.cells→∀ x,some x∈c.fl→∃ d,cellAt M x=some d
 tn:∀ c,some c∈M.cells→c.tone=0∨c.tone=1
def yo (Zru Zph Zix Zm0:Addr):Rf→Addr
 | .full=>Zru
 | .empty=>Zph
 | .jz=>Zix
 | .vg=>Zm0
def EvN (H0 H:Hp) (a:Addr) (e:Ev):Prop:=∃ l,H0 l=none∧H a=some (.tup [.str e.word,oV e.thing,.ref l])∧H l=some (.lst (e.notes.map V.int))
def bY (X:Cs) (rf:Rf→Addr) (P:iC→Prop):Sp:=fun vs H Q E=>∃ wo dd,vs=[.ref wo,.ref dd]∧∃ T s A M d,P d∧WT H T∧s≠0∧WJ X H T s A M∧A.wo=wo∧H dd=some (.tup (dV d))∧okD M d∧Ok M∧M.cells.length≤900∧(M.sw.phase="walk"→M.sw.grey.length≤10000)∧(0≤M.tells∧M.tells < 4)∧M.names.length≤1000∧
 (∀ r,qb M d=.error r→∀ H',bN H H'→E (.ref (rf r)) none H')∧
 (∀ e M',qb M d=.ok (e,M')→∀ H' T' A' a,Stp s H H' T T'→WJ X H' T' s A' M'→A'.wo=wo→EvN H H' a e→Q (.ref a) H')
abbrev Zzj (X:Cs) (rf:Rf→Addr):Sp:=bY X rf fun _=>True
theorem Zdw {α:Type}{l:List (Option α)}{x a:α}{i:Nat} (h:l[i]? =some (some a)):(jH l x)[i]? =some (some a):=by
 have hl:=(cI h).1;unfold jH
 by_cases z:iu l < l.length
 ·have hi:i≠iu l:=fun e=>by rw [e,Zlj z] at h;cases h
  rw [if_pos z,List.getElem?_set_ne (fun w=>hi w.symm)];exact h
 ·rw [if_neg z,List.getElem?_append_left hl];exact h
theorem gC {M:Wm}{x:Int}{c:Ce}:cellAt M x=some c↔0≤x∧M.cells[x.toNat]? =some (some c):=by
 unfold cellAt
 by_cases z:0≤x
 ·rw [if_pos z];cases e:M.cells[x.toNat]? with
  | none=>simp
  | some y=>cases y with
   | none=>simp
   | some d=>simp [z]
 ·rw [if_neg z];simp [z]
theorem tU {M:Wm}{x:Int}{c:Ce} (h:cellAt M x=some c):some c∈M.cells:=List.mem_of_getElem? (gC.mp h).2
theorem xQ {M:Wm}{x u b:Int}{c d:Ce} (h:cellAt M x=some d):cellAt { M with used:=u,born:=b,cells:=jH M.cells c } x=some d:=by
 obtain ⟨h0,h1⟩:=gC.mp h;exact gC.mpr ⟨h0,Zdw h1⟩
theorem Cr {M:Wm}{u b:Int}{c:Ce}:cellAt { M with used:=u,born:=b,cells:=jH M.cells c } (iu M.cells)=some c:=
 gC.mpr ⟨by omega,by rw [Int.toNat_natCast];exact Up _ _⟩
theorem Ye {α:Type}{l:List (Option α)}{x:α}{y:Option α} (h:y∈jH l x):y∈l∨y=some x:=by
 unfold jH at h
 by_cases z:iu l < l.length
 ·rw [if_pos z] at h;rcases List.mem_or_eq_of_mem_set h with h | h
  ·exact .inl h
  ·exact .inr h
 ·rw [if_neg z] at h;rcases List.mem_append.mp h with h | h
  ·exact .inl h
  ·exact .inr (List.mem_singleton.mp h)
theorem Zdk {M:Wm}{h k:Nat}{m:Str×List (Option Int)}{x:Option Int} (hm:M.hands[h]? =some m) (hk:m.2[k]? =some x):aB M h k=x:=by
 unfold aB;rw [hm];show (m.2[k]?).join=x;rw [hk];rfl
theorem Du {M:Wm}{h k:Nat} (o:Fw M h k):∃ m,M.hands[h]? =some m∧m.2[k]? =some (aB M h k)∧k < m.2.length:=by
 obtain ⟨m,hm,hk⟩:=o;refine ⟨m,hm,?_,hk⟩;rw [Zdk hm (bO hk)];exact bO hk
theorem Az {M:Wm}{h k:Nat}{x:Option Int}{m:Str×List (Option Int)} (hm:M.hands[h]? =some m):(setSlot M h k x).hands=M.hands.set h (m.1,m.2.set k x):=by
 show M.hands.modify h _=_;apply List.ext_getElem?;intro i;rw [List.getElem?_modify]
 by_cases e:h=i
 ·subst e;rw [List.getElem?_set_self (cI hm).1,hm];simp
 ·rw [List.getElem?_set_ne e];simp [e]
theorem Oe {M:Wm}{h k:Nat}{x:Option Int}{y:Int}:cellAt (setSlot M h k x) y=cellAt M y:=rfl
theorem kY {M:Wm}{h k:Nat}{x:Option Int}{y:Option Int}:d8 (setSlot M h k x) y=d8 M y:=by cases y<;>rfl
theorem Ok.slot {M:Wm} (o:Ok M) {h k:Nat}{x:Option Int} (hx:∀ y,x=some y→∃ c,cellAt M y=some c):Ok (setSlot M h k x):=by
 refine ⟨fun m hm y hy=>?_,o.fl,o.tn⟩;rw [Oe];obtain ⟨i,hi,e⟩:=List.getElem_of_mem hm;have e':(M.hands.modify h fun m=>(m.1,m.2.set k x))[i]? =some m:=by rw [← e];exact bO hi
 rw [List.getElem?_modify] at e';cases em:M.hands[i]? with
 | none=>rw [em] at e';cases e'
 | some m0=>
  rw [em] at e';have hm0:m0∈M.hands:=List.mem_of_getElem? em
  by_cases z:h=i
  ·have e2:(m0.1,m0.2.set k x)=m:=by simpa [z] using e'
   rw [← e2] at hy;rcases List.mem_or_eq_of_mem_set hy with hy | hy
   ·exact o.sl m0 hm0 y hy
   ·exact hx y hy.symm
  ·have e2:m0=m:=by simpa [z] using e'
   rw [← e2] at hy;exact o.sl m0 hm0 y hy
theorem Ok.put {M:Wm} (o:Ok M) {u b:Int}{c:Ce} (hf:∀ x,some x∉c.fl) (ht:c.tone=0∨c.tone=1):Ok { M with used:=u,born:=b,cells:=jH M.cells c }:=by
 refine ⟨fun m hm x hx=>?_,fun d hd x hx=>?_,fun d hd=>?_⟩
 ·obtain ⟨e,he⟩:=o.sl m hm x hx;exact ⟨e,xQ he⟩
 ·rcases Ye hd with hd | hd
  ·obtain ⟨e,he⟩:=o.fl d hd x hx;exact ⟨e,xQ he⟩
  ·cases hd;exact absurd hx (hf x)
 ·rcases Ye hd with hd | hd
  ·exact o.tn d hd
  ·cases hd;exact ht
def rowsOf (M:Wm):List (List (Option Int)):=M.hands.map fun m=>m.2.map (d8 M)
theorem Xw {M:Wm}{h k:Nat}{x:Option Int}{m:Str×List (Option Int)} (hm:M.hands[h]? =some m):rowsOf (setSlot M h k x)=(rowsOf M).set h ((m.2.map (d8 M)).set k (d8 M x)):=by
 unfold rowsOf;have e:(fun m:Str×List (Option Int)=>m.2.map (d8 (setSlot M h k x)))=fun m=>m.2.map (d8 M):=funext fun m=>congrArg (fun f=>m.2.map f) (funext fun y=>kY);rw [e,Az hm,List.map_set];dsimp only;rw [List.map_set]
theorem GQ {M:Wm}{h k:Nat} (o:Fw M h k):∃ r,(rowsOf M)[h]? =some r∧r[k]? =some (d8 M (aB M h k))∧k < r.length:=by
 obtain ⟨m,hm,hk,hl⟩:=Du o;refine ⟨m.2.map (d8 M),?_,?_,by rw [bh];exact hl⟩
 ·unfold rowsOf;rw [bx,hm];rfl
 ·rw [bx,hk];rfl
theorem Za6 {M:Wm}{u b:Int}{c:Ce} (o:Ok M):rowsOf { M with used:=u,born:=b,cells:=jH M.cells c }=rowsOf M:=by
 unfold rowsOf;refine List.map_congr_left fun m hm=>List.map_congr_left fun x hx=>?_;cases x with
 | none=>rfl
 | some x=>
  obtain ⟨d,hd⟩:=o.sl m hm x hx;show (cellAt _ x).map _=(cellAt M x).map _;rw [hd,xQ hd]
theorem M8 {M:Wm} (h:M.sw.phase≠"walk") (x:Option Int):bZ M x=(none,M):=by
 cases x with
 | none=>rfl
 | some x=>
  unfold bZ;dsimp only;cases cellAt M x with
  | none=>rfl
  | some c=>
   dsimp only;rw [if_neg (fun z=>h z.1)]
theorem oJ:∀ {l:List (Option Int)}{M:Wm},M.sw.phase≠"walk"→bA M l=([],M)
 | [],_,_=>rfl
 | x :: l,M,h=>by
  show (ofN (bZ M x).1 ++ (bA (bZ M x).2 l).1,(bA (bZ M x).2 l).2)=_;rw [M8 h];show (ofN none ++ (bA M l).1,(bA M l).2)=_;rw [oJ h];rfl
theorem Wg {M:Wm} (hp:M.sw.phase≠"walk") (h s g t:Nat):qb M (.give h s g t)=.ok (⟨"given",d8 M (aB M h s),[]⟩,setSlot M g t (aB M h s)):=by
 show Except.ok (Ev.mk "given" (d8 M (aB M h s)) (bA (setSlot M g t (aB M h s)) (if (jT M && !bM M h)=true then [aB M h s] else [])).1,(bA (setSlot M g t (aB M h s)) (if (jT M && !bM M h)=true then [aB M h s] else [])).2)=_;rw [oJ (M:=setSlot M g t (aB M h s)) hp]
theorem JV {M:Wm}{h s:Nat}{many bulk:Int} (hf:M.used + (1 + many + bulk)≤M.room):qb M (.make h s many bulk)=.ok (⟨"made",some (M.born + 1),[]⟩,setSlot { M with used:=M.used + (1 + many + bulk),born:=M.born + 1,cells:=jH M.cells ⟨M.born + 1,bulk,M.sw.sense,0,List.replicate many.toNat none⟩ } h s (some (iu M.cells))):=by
 show (if _ then _ else _)=_;rw [if_pos hf]
structure vB (K:aG) (X:Cs):Prop where
 c:TxC K X.C X.H
 cW:Bo K X.W
 X7:bG K X.W "heap"
 nWk:bG K X.W "kind"
 nWd:bG K X.W "hands"
 nWn:bG K X.W "names"
 nWs:bG K X.W "sweeper"
 cD:Bo K X.D
 nDn:bG K X.D "name"
 nDs:bG K X.D "slots"
 cK:Bo K X.K
 nKl:bG K X.K "looking"
 nKt:bG K X.K "tells"
 cS:Bo K X.S
 n1:bG K X.S "sense"
 n2:bG K X.S "phase"
 n3:bG K X.S "grey"
 n4:bG K X.S "looked"
 n5:bG K X.S "turn"
 n6:bG K X.S "at"
 n7:bG K X.S "stop"
 n8:bG K X.S "walks"
 n9:bG K X.S "looks"
 n10:bG K X.S "passes"
 n11:bG K X.S "loss"
def atO (cs:List V):V→V
 | .int i=>if 0≤i then (cs[i.toNat]?).getD .non else .non
 | _=>.non
def jo (CH:Addr):Sp:=fun vs H Q E=>∃ hp pl,vs=[.ref hp,pl]∧(pl=.non∨∃ i,pl=.int i)∧∃ ca room used born cs,HpO CH H hp ca room used born cs∧Q (atO cs pl) H
def cO (M:Wm) (x:Option Int):Option Ce:=x.bind (cellAt M)
def cz (X:Cs):Sp:=fun vs H Q E=>∃ hp pl,vs=[.ref hp,pl]∧∃ x,pl=oV x∧∃ T s A M,WJ X H T s A M∧A.hp=hp∧Q (oV (d8 M x)) H
def uB (X:Cs):Sp:=fun vs H Q E=>∃ p f,vs=[.ref p,.int f]∧∃ T s i q c,Ri X.C H T s i q c∧q.1=p∧Q (.bl (decide (0≤f) && decide (f < c.fl.length))) H
def bU (X:Cs):Sp:=fun vs H Q E=>∃ wo h,vs=[.ref wo,.int h]∧∃ T s A M k p,WJ X H T s A M∧A.wo=wo∧h=((k:Nat):Int)∧A.hs[k]? =some p∧Q (.ref p.2) H
def jf (X:Cs):Sp:=fun vs H Q E=>∃ wo p,vs=[.ref wo,.ref p]∧∃ T s A M i q c,WJ X H T s A M∧A.wo=wo∧Ri X.C H T s i q c∧q.1=p∧Q (.bl (decide (c.tone=M.sw.sense))) H
def uA (X:Cs):Sp:=fun vs H Q E=>∃ wo h,vs=[.ref wo,.int h]∧∃ T s A M k,WJ X H T s A M∧A.wo=wo∧h=((k:Nat):Int)∧Q (.bl (bM M k)) H
def xR (X:Cs):Sp:=fun vs H Q E=>∃ wo v,vs=[.ref wo,v]∧∃ T s A M,WJ X H T s A M∧A.wo=wo∧(0≤M.tells∧M.tells < 4)∧∀ l,H l=none→Q (.ref l) (upd H l (.lst (if old? M=true then [v] else [])))
def oF (X:Cs):Sp:=fun vs H Q E=>∃ wo h v,vs=[.ref wo,.int h,v]∧∃ T s A M k,WJ X H T s A M∧A.wo=wo∧(0≤M.tells∧M.tells < 4)∧h=((k:Nat):Int)∧∀ l,H l=none→Q (.ref l) (upd H l (.lst (if (jT M && !bM M k)=true then [v] else [])))
def jm (X:Cs) (CE:Addr):Sp:=fun vs H Q E=>∃ wo h t,vs=[.ref wo,.int h,.int t]∧∃ T s A M hn tn,WJ X H T s A M∧A.wo=wo∧h=((hn:Nat):Int)∧t=((tn:Nat):Int)∧Fw M hn tn∧
 (cO M (aB M hn tn)=none→E (.ref CE) none H)∧
 (∀ i c p,aB M hn tn=some i→0≤i→cellAt M i=some c→A.cs[i.toNat]? =some (some p)→Ri X.C H T s i.toNat p c→Q (.ref p.1) H)
def mq (X:Cs) (CE CF:Addr):Sp:=fun vs H Q E=>∃ wo h t f,vs=[.ref wo,.int h,.int t,.int f]∧∃ T s A M hn tn fn,WJ X H T s A M∧A.wo=wo∧h=((hn:Nat):Int)∧t=((tn:Nat):Int)∧f=((fn:Nat):Int)∧Fw M hn tn∧
 (cO M (aB M hn tn)=none→E (.ref CE) none H)∧
 (∀ i c,aB M hn tn=some i→0≤i→cellAt M i=some c→c.fl[fn]? =none→E (.ref CF) none H)∧
 (∀ i c p,aB M hn tn=some i→0≤i→cellAt M i=some c→A.cs[i.toNat]? =some (some p)→Ri X.C H T s i.toNat p c→fn < c.fl.length→Q (.ref p.2) H)
def WM (X:Cs):Sp:=fun vs H Q E=>∃ wo pl,vs=[.ref wo,pl]∧∃ x,pl=oV x∧∃ T s A M,WT H T∧s≠0∧WJ X H T s A M∧A.wo=wo∧(M.sw.phase="walk"→M.sw.grey.length≤20000)∧
 ∀ H',Stp s H H' T T→WJ X H' T s A (bZ M x).2→Q (oV (bZ M x).1) H'
def jO (X:Cs):Sp:=fun vs H Q E=>∃ wo pl,vs=[.ref wo,.ref pl]∧∃ xs T s A M,WT H T∧s≠0∧WJ X H T s A M∧A.wo=wo∧H pl=some (.lst (xs.map oV))∧T pl=(0,0)∧xs.length≤100∧(M.sw.phase="walk"→M.sw.grey.length≤10000)∧
 ∀ H' T' l,Stp s H H' T T'→WJ X H' T' s A (bA M xs).2→H' l=some (.lst ((bA M xs).1.map V.int))→H l=none→Q (.ref l) H'
def WW (X:Cs):Sp:=fun vs H Q E=>∃ wo p b,vs=[.ref wo,.int p,.int b]∧∃ T s A M,WJ X H T s A M∧A.wo=wo∧Q (.bl (m8 M p b)) H
def qC (X:Cs) (CN:Addr):Sp:=fun vs H Q E=>∃ wo z,vs=[.ref wo,.str z]∧∃ T s A M,WJ X H T s A M∧A.wo=wo∧(jW M.names z=none→E (.ref CN) none H)∧(∀ p b,jW M.names z=some (p,b)→Q (if m8 M p b=true then .non else .int p) H)
theorem Dw (x:Option Int):oV x=.non∨∃ i,oV x=.int i:=by cases x with
 | none=>exact .inl rfl
 | some i=>exact .inr ⟨i,rfl⟩
section
variable {X:Cs}{H H':Hp}{T T':Tg}{s:Nat}{A:Wa}{M:Wm}
theorem WJ.hpO (j:WJ X H T s A M):HpO X.H H A.hp A.ca M.room M.used M.born (A.cs.map pV):=⟨j.jh.oh,j.jh.oc⟩
theorem WJ.look (j:WJ X H T s A M) (x:Option Int):(cO M x=none∧atO (A.cs.map pV) (oV x)=.non)∨∃ i c p,x=some i∧0≤i∧cellAt M i=some c∧M.cells[i.toNat]? =some (some c)∧A.cs[i.toNat]? =some (some p)∧atO (A.cs.map pV) (oV x)=.ref p.1∧Ri X.C H T s i.toNat p c:=by
 cases x with
 | none=>exact .inl ⟨rfl,rfl⟩
 | some i=>
  show (cellAt M i=none∧atO _ (.int i)=_)∨_
  by_cases h0:0≤i
  ·cases hc:M.cells[i.toNat]? with
   | none=>
    have hl:A.cs[i.toNat]? =none:=by
     rw [List.getElem?_eq_none_iff] at hc ⊢;rw [j.jc.lc];exact hc
    refine .inl ⟨by unfold cellAt;rw [if_pos h0,hc];rfl,?_⟩;show (if 0≤i then _ else _)=_;rw [if_pos h0,bx,hl];rfl
   | some y=>cases y with
    | none=>
     refine .inl ⟨by unfold cellAt;rw [if_pos h0,hc];rfl,?_⟩;show (if 0≤i then _ else _)=_;rw [if_pos h0,bx,j.jc.at0 hc];rfl
    | some c=>
     obtain ⟨p,hp,e⟩:=j.jc.at hc;refine .inr ⟨i,c,p,rfl,h0,by unfold cellAt;rw [if_pos h0,hc];rfl,hc,hp,?_,e⟩;show (if 0≤i then _ else _)=_;rw [if_pos h0,bx,hp];rfl
  ·refine .inl ⟨by unfold cellAt;rw [if_neg h0],?_⟩;show (if 0≤i then _ else _)=_;rw [if_neg h0]
theorem WJ.hand (j:WJ X H T s A M) {k:Nat}{p:Addr×Addr} (hp:A.hs[k]? =some p):∃ m,M.hands[k]? =some m∧HdO X.D H T s k p m:=by
 have hl:k < M.hands.length:=by rw [← j.jd.lh];exact (cI hp).1
 exact ⟨_,bO hl,j.jd.hd k p _ hp (bO hl)⟩
theorem WJ.handOf (j:WJ X H T s A M) {h t:Nat} (o:Fw M h t):∃ p m,A.hs[h]? =some p∧M.hands[h]? =some m∧m.2[t]? =some (aB M h t)∧t < m.2.length∧HdO X.D H T s h p m:=by
 obtain ⟨m,hm,hk,hl⟩:=Du o;have hh:h < A.hs.length:=by rw [j.jd.lh];exact (cI hm).1
 exact ⟨_,m,bO hh,hm,hk,hl,j.jd.hd h _ m (bO hh) hm⟩
theorem WJ.fresh (j:WJ X H T s A M) {l:Addr}{o:HO}{v:Nat×Nat} (h:H l=none):WJ X (upd H l o) (fG T l v) s A M:=
 j.mv (H':=upd H l o) (T':=fG T l v) ⟨fun b u e _ _=>by rw [aA (aD e h)];exact e,fun b u e=>fO (aD e h)⟩ fun b u e _=>by rw [aA (aD e h)];exact e
end
theorem Zrj {t:Int} (h:0≤t∧t < 4):Builtin.bitAnd t 1=t % 2∧(Builtin.bitAnd t 2=0↔¬ t / 2 % 2=1):=by
 have:t=0∨t=1∨t=2∨t=3:=by omega
 rcases this with rfl | rfl | rfl | rfl<;>decide
section
variable {K:aG}{X:Cs}{H:Hp}{Q:VK}{E:XK}{n:St→Hp→Prop}{bk ct:St→Hp→Prop}
theorem Zc2 {hp:Addr}{pl:V} (T:vB K X) (q:(pl=.non∨∃ i,pl=.int i)∧∃ ca room used born cs,HpO X.H H hp ca room used born cs∧Q (atO cs pl) H):Ca K ⟨n,Q,bk,ct⟩ [some (.ref hp),some pl] H:=by
 obtain ⟨hpl,ca,room,used,born,cs,⟨⟨dx,h1⟩,h2⟩,q⟩:=q;unfold Ca;rcases hpl with rfl | ⟨i,rfl⟩
 ·walk_at "ev";exact q
 ·walk_at "ev";refine sO (fun z=>?_) (fun z=>?_)
  ·walk_at "ev";rw [show atO cs (.int i)=.non from if_neg (by omega)] at q;exact q
  ·rw [show atO cs (.int i)=(cs[i.toNat]?).getD .non from if_pos (by omega)] at q;walk_at "ev";refine aR h1 T.c.dH T.c.cH dM ?_;walk_at "ev";refine jV (cF.of h2) ?_;walk_at "ev";refine sO (fun y=>?_) (fun y=>?_)
   ·walk_at "ev";rw [List.getElem?_eq_none_iff.mpr (by omega)] at q;exact q
   ·walk_at "ev";refine aR h1 T.c.dH T.c.cH dM ?_;walk_at "ev";have hl:i.toNat < cs.length:=by omega
    refine bK (cF.of h2) (z8 (by omega) (bO hl)) ?_;rw [bO hl] at q;exact q
theorem Y7 {hp:Addr}{pl:V} (T:vB K X) (q:∃ x,pl=oV x∧∃ T s A M,WJ X H T s A M∧A.hp=hp∧Q (oV (d8 M x)) H):yU K (jo X.H) ⟨n,Q,bk,ct⟩ [some (.ref hp),some pl,none] H:=by
 obtain ⟨x,rfl,Tg,s,A,M,j,rfl,q⟩:=q;unfold yU;walk_at "ev";refine ⟨_,_,rfl,Dw x,_,_,_,_,_,j.hpO,?_⟩;rcases j.look x with ⟨e1,e2⟩ | ⟨i,c,p,rfl,h0,ec,_,_,e2,⟨t1,t2,⟨dx,o1⟩,o2⟩⟩
 ·rw [e2];have:d8 M x=none:=by
   cases x with
   | none=>rfl
   | some i=>show (cellAt M i).map _=none;rw [show cellAt M i=none from e1];rfl
  rw [this] at q;walk_at "ev";exact q
 ·rw [e2];have:d8 M (some i)=some c.birth:=by show (cellAt M i).map _=_;rw [ec];rfl
  rw [this] at q;walk_at "ev";refine aR o1 T.c.dz T.c.eX jX ?_;exact q
theorem Ft {p:Addr}{f:Int} (T:vB K X) (q:∃ T s i q c,Ri X.C H T s i q c∧q.1=p∧Q (.bl (decide (0≤f) && decide (f < c.fl.length))) H):oY K ⟨n,Q,bk,ct⟩ [some (.ref p),some (.int f)] H:=by
 obtain ⟨Tg,s,i,r,c,⟨t1,t2,⟨dx,o1⟩,o2⟩,rfl,q⟩:=q;unfold oY;walk_at "ev";refine sO (fun z=>?_) (fun z=>?_)
 ·rw [decide_eq_true z,Bool.true_and] at q;walk_at "ev";refine aR o1 T.c.dz T.c.fH nR ?_;walk_at "ev";refine jV (cF.of o2) ?_;walk_at "ev";rw [bh];exact q
 ·rw [decide_eq_false z,Bool.false_and] at q;walk_at "ev";exact q
theorem Xl {wo:Addr}{h:Int} (T:vB K X) (q:∃ T s A M k p,WJ X H T s A M∧A.wo=wo∧h=((k:Nat):Int)∧A.hs[k]? =some p∧Q (.ref p.2) H):yQ K ⟨n,Q,bk,ct⟩ [some (.ref wo),some (.int h)] H:=by
 obtain ⟨Tg,s,A,M,k,p,j,rfl,rfl,hp,q⟩:=q;obtain ⟨d1,ow⟩:=j.jb.ow;obtain ⟨m,hm,⟨t1,t2,⟨dx,o1⟩,o2⟩⟩:=j.hand hp;unfold yQ;walk_at "ev";refine aR ow T.cW T.nWd lC ?_;walk_at "ev";refine bK (cF.of j.jb.on) (aX (v:=.ref p.1) (by rw [bx,hp];rfl)) ?_;refine aR o1 T.cD T.nDs zR ?_;exact q
theorem V0 {wo p:Addr} (T:vB K X) (q:∃ T s A M i q c,WJ X H T s A M∧A.wo=wo∧Ri X.C H T s i q c∧q.1=p∧Q (.bl (decide (c.tone=M.sw.sense))) H):wL K ⟨n,Q,bk,ct⟩ [some (.ref wo),some (.ref p)] H:=by
 obtain ⟨Tg,s,A,M,i,r,c,j,rfl,⟨t1,t2,⟨dx,o1⟩,o2⟩,rfl,q⟩:=q;obtain ⟨d1,ow⟩:=j.jb.ow;obtain ⟨d2,os⟩:=j.js.os;unfold wL;walk_at "ev";refine aR o1 T.c.dz T.c.kE QW ?_;walk_at "ev";refine aR ow T.cW T.nWs eE ?_;walk_at "ev";refine aR os T.cS T.n1 nu ?_;walk_at "ev";exact q
end
theorem Zzg {y:Int}:Builtin.bitAnd y 1=y % 2:=by
 unfold Builtin.bitAnd
 by_cases h:0≤y
 ·rw [decide_eq_true h,decide_eq_true (show (0:Int)≤1 by decide)];show ((y.toNat &&& 1:Nat):Int)=_;rw [Nat.and_one_is_mod];omega
 ·rw [decide_eq_false h,decide_eq_true (show (0:Int)≤1 by decide)];show (1:Int) - ((1 &&& (Builtin.bitNot y).toNat:Nat):Int)=_;rw [Nat.and_comm,Nat.and_one_is_mod];unfold Builtin.bitNot;omega
section
variable {K:aG}{X:Cs}{H:Hp}{Q:VK}{E:XK}{n:St→Hp→Prop}{bk ct:St→Hp→Prop}{CE CF CN:Addr}
theorem Vh {wo:Addr}{h:Int} (T:vB K X) (q:∃ T s A M k,WJ X H T s A M∧A.wo=wo∧h=((k:Nat):Int)∧Q (.bl (bM M k)) H):wK K ⟨n,Q,bk,ct⟩ [some (.ref wo),some (.int h)] H:=by
 obtain ⟨Tg,s,A,M,k,j,rfl,rfl,q⟩:=q;obtain ⟨d1,ow⟩:=j.jb.ow;obtain ⟨d2,os⟩:=j.js.os;unfold wK;walk_at "ev";refine aR ow T.cW T.nWs eE ?_;walk_at "ev";refine aR os T.cS T.n4 Gd ?_;walk_at "ev";rw [Zzg,Int.toNat_natCast];exact q
theorem Lq {wo:Addr}{v:V} (T:vB K X) (q:∃ T s A M,WJ X H T s A M∧A.wo=wo∧(0≤M.tells∧M.tells < 4)∧∀ l,H l=none→Q (.ref l) (upd H l (.lst (if old? M=true then [v] else [])))):
  tD K ⟨n,Q,bk,ct⟩ [some (.ref wo),some v] H:=by
 obtain ⟨Tg,s,A,M,j,rfl,ht,q⟩:=q;obtain ⟨d1,ow⟩:=j.jb.ow;obtain ⟨d2,ok⟩:=j.jb.ok;obtain ⟨b1,_⟩:=Zrj ht;unfold tD;walk_at "ev";refine aR ow T.cW T.nWk lR ?_;walk_at "ev";refine aR ok T.cK T.nKt jt ?_;walk_at "ev";rw [b1];refine sO (fun z=>?_) (fun z=>?_)
 ·walk_at "ev";refine ⟨bu (by simp),fun l hl=>?_⟩;have:=q l hl;rw [if_neg (by unfold old?;rw [decide_eq_true_iff];omega)] at this;exact this
 ·walk_at "ev";refine ⟨bu (by simp),fun l hl=>?_⟩;have:=q l hl;rw [if_pos (by unfold old?;rw [decide_eq_true_iff];omega)] at this;exact this
theorem Lr {wo:Addr}{h:Int}{v:V} (T:vB K X) (q:∃ T s A M k,WJ X H T s A M∧A.wo=wo∧(0≤M.tells∧M.tells < 4)∧h=((k:Nat):Int)∧∀ l,H l=none→Q (.ref l) (upd H l (.lst (if (jT M && !bM M k)=true then [v] else [])))):
  tE K (uA X) ⟨n,Q,bk,ct⟩ [some (.ref wo),some (.int h),some v] H:=by
 obtain ⟨Tg,s,A,M,k,j,rfl,ht,rfl,q⟩:=q;obtain ⟨d1,ow⟩:=j.jb.ow;obtain ⟨d2,ok⟩:=j.jb.ok;obtain ⟨_,b1⟩:=Zrj ht;unfold tE;walk_at "ev";refine aR ow T.cW T.nWk lR ?_;walk_at "ev";refine aR ok T.cK T.nKt jt ?_;walk_at "ev";refine sO (fun z=>?_) (fun z=>?_)
 ·walk_at "ev";refine ⟨bu (by simp),fun l hl=>?_⟩;have:=q l hl;have e:jT M=false:=by unfold jT;exact decide_eq_false (b1.mp z)
  rw [e,Bool.false_and,if_neg (by decide)] at this;exact this
 ·have e:jT M=true:=by unfold jT;exact decide_eq_true (Decidable.not_not.mp fun w=>z (b1.mpr w))
  rw [e,Bool.true_and] at q;walk_at "ev";refine ⟨_,_,rfl,Tg,s,A,M,k,j,rfl,rfl,?_⟩;cases hl:bM M k with
  | true=>
   rw [hl] at q;walk_at "ev";refine ⟨bu (by simp),fun l hl=>?_⟩;exact q l hl
  | false=>
   rw [hl] at q;walk_at "ev";refine ⟨bu (by simp),fun l hl=>?_⟩;exact q l hl
theorem Zc1 {wo:Addr}{h t:Int} (T:vB K X) (q:∃ T s A M hn tn,WJ X H T s A M∧A.wo=wo∧h=((hn:Nat):Int)∧t=((tn:Nat):Int)∧Fw M hn tn∧
 (cO M (aB M hn tn)=none→E (.ref CE) none H)∧
 (∀ i c p,aB M hn tn=some i→0≤i→cellAt M i=some c→A.cs[i.toNat]? =some (some p)→Ri X.C H T s i.toNat p c→Q (.ref p.1) H)):
  BZ K CE (jo X.H) (bU X) E ⟨n,Q,bk,ct⟩ [some (.ref wo),some (.int h),some (.int t),none] H:=by
 obtain ⟨Tg,s,A,M,hn,tn,j,rfl,rfl,rfl,ok,hE,hQ⟩:=q;obtain ⟨d1,ow⟩:=j.jb.ow;obtain ⟨p,m,hp,hm,hs,hl,⟨t1,t2,o1,o2⟩⟩:=j.handOf ok;unfold BZ;walk_at "ev";refine aR ow T.cW T.X7 cB ?_;walk_at "ev";refine ⟨_,_,rfl,Tg,s,A,M,hn,p,j,rfl,rfl,hp,?_⟩;walk_at "ev";refine bK (cF.of o2) (aX (v:=oV (aB M hn tn)) (by rw [bx,hs];rfl)) ?_;walk_at "ev";refine ⟨_,_,rfl,Dw _,_,_,_,_,_,j.hpO,?_⟩;rcases j.look (aB M hn tn) with ⟨e1,e2⟩ | ⟨i,c,p',e0,h0,ec,_,hp',e2,ce⟩
 ·rw [e2];walk_at "ev";exact ⟨by decide,hE e1⟩
 ·rw [e2];walk_at "ev";exact hQ i c p' e0 h0 ec hp' ce
theorem V2 {wo:Addr}{h t f:Int} (T:vB K X) (q:∃ T s A M hn tn fn,WJ X H T s A M∧A.wo=wo∧h=((hn:Nat):Int)∧t=((tn:Nat):Int)∧f=((fn:Nat):Int)∧Fw M hn tn∧
 (cO M (aB M hn tn)=none→E (.ref CE) none H)∧
 (∀ i c,aB M hn tn=some i→0≤i→cellAt M i=some c→c.fl[fn]? =none→E (.ref CF) none H)∧
 (∀ i c p,aB M hn tn=some i→0≤i→cellAt M i=some c→A.cs[i.toNat]? =some (some p)→Ri X.C H T s i.toNat p c→fn < c.fl.length→Q (.ref p.2) H)):
  wM K X.C CF (uB X) (jm X CE) E ⟨n,Q,bk,ct⟩ [some (.ref wo),some (.int h),some (.int t),some (.int f),none] H:=by
 obtain ⟨Tg,s,A,M,hn,tn,fn,j,rfl,rfl,rfl,rfl,ok,hE,hF,hQ⟩:=q;unfold wM;walk_at "ev";refine ⟨_,_,_,rfl,Tg,s,A,M,hn,tn,j,rfl,rfl,rfl,ok,hE,fun i c p e0 h0 ec hp ce=>?_⟩;obtain ⟨t1,t2,⟨dx,o1⟩,o2⟩:=id ce;walk_at "ev";refine ⟨p.1,dx,_,rfl,o1,Cq,?_⟩;walk_at "ev";refine ⟨_,_,rfl,Tg,s,_,p,c,ce,rfl,?_⟩
 by_cases z:fn < c.fl.length
 ·rw [show (decide ((0:Int)≤(fn:Int)) && decide ((fn:Int) < c.fl.length))=true from by simp;omega];walk_at "ev";refine aR o1 T.c.dz T.c.fH nR ?_;exact hQ i c p e0 h0 ec hp ce z
 ·rw [show (decide ((0:Int)≤(fn:Int)) && decide ((fn:Int) < c.fl.length))=false from by simp;omega];walk_at "ev";exact ⟨by decide,hF i c e0 h0 ec (List.getElem?_eq_none_iff.mpr (by omega))⟩
theorem Zlf {wo:Addr}{pl b:Int} (T:vB K X) (q:∃ T s A M,WJ X H T s A M∧A.wo=wo∧Q (.bl (m8 M pl b)) H):Uk K (jo X.H) (jf X) ⟨n,Q,bk,ct⟩ [some (.ref wo),some (.int pl),some (.int b),none] H:=by
 obtain ⟨Tg,s,A,M,j,rfl,q⟩:=q;obtain ⟨d1,ow⟩:=j.jb.ow;obtain ⟨d2,os⟩:=j.js.os;unfold Uk;walk_at "ev";refine aR ow T.cW T.X7 cB ?_;walk_at "ev";refine ⟨_,_,rfl,Dw (some pl),_,_,_,_,_,j.hpO,?_⟩;unfold m8 at q;rcases j.look (some pl) with ⟨e1,e2⟩ | ⟨i,c,p,ei,h0,ec,_,hp,e2,ce⟩
 ·rw [show atO (A.cs.map pV) (.int pl)=.non from e2];rw [show cellAt M pl=none from e1] at q;walk_at "ev";exact q
 ·cases ei;rw [show atO (A.cs.map pV) (.int pl)=.ref p.1 from e2];rw [ec] at q;dsimp only at q;obtain ⟨t1,t2,⟨dx,o1⟩,o2⟩:=id ce;walk_at "ev";refine aR o1 T.c.dz T.c.eX jX ?_;walk_at "ev";refine vO (fun z=>?_) (fun z=>?_)
  ·rw [if_neg z] at q;walk_at "ev";exact q
  ·rw [if_pos z] at q;walk_at "ev";refine aR ow T.cW T.nWs eE ?_;walk_at "ev";refine aR os T.cS T.n2 nA ?_;walk_at "ev";refine sO (fun y=>?_) (fun y=>?_)
   ·walk_at "ev";refine ⟨_,_,rfl,Tg,s,A,M,_,p,c,j,rfl,ce,rfl,?_⟩;walk_at "ev";have:decide (M.sw.phase="give"∧c.tone≠M.sw.sense)=!decide (c.tone=M.sw.sense):=by simp [y]
    rw [this] at q;exact q
   ·have:decide (M.sw.phase="give"∧c.tone≠M.sw.sense)=false:=decide_eq_false fun w=>y w.1;rw [this] at q;exact q
theorem Zkh {wo:Addr}{pl:V} (T:vB K X) (q:∃ x,pl=oV x∧∃ T s A M,WT H T∧s≠0∧WJ X H T s A M∧A.wo=wo∧(M.sw.phase="walk"→M.sw.grey.length≤20000)∧
 ∀ H',Stp s H H' T T→WJ X H' T s A (bZ M x).2→Q (oV (bZ M x).1) H'):Uj K (jo X.H) (jf X) ⟨n,Q,bk,ct⟩ [some (.ref wo),some pl,none,none] H:=by
 obtain ⟨x,rfl,Tg,s,A,M,w,s0,j,rfl,hg,q⟩:=q;obtain ⟨d1,ow⟩:=j.jb.ow;obtain ⟨d2,os⟩:=j.js.os;unfold Uj;walk_at "ev";refine aR ow T.cW T.nWs eE ?_;walk_at "ev";refine aR ow T.cW T.X7 cB ?_;walk_at "ev";refine ⟨_,_,rfl,Dw x,_,_,_,_,_,j.hpO,?_⟩;walk_at "ev";refine aR os T.cS T.n2 nA ?_;walk_at "ev";have stay:bZ M x=(none,M)→Q .non H:=fun e=>by
  have:=q H (Stp.refl w);rw [e] at this;exact this j
 refine vO (fun z=>?_) (fun z=>?_)
 ·walk_at "ev";exact stay (M8 z x)
 ·rcases j.look x with ⟨e1,e2⟩ | ⟨i,c,p,rfl,h0,ec,hc,hp,e2,ce⟩
  ·rw [e2];walk_at "ev";refine stay ?_;cases x with
   | none=>rfl
   | some i=>unfold bZ;dsimp only;rw [show cellAt M i=none from e1]
  ·rw [e2];obtain ⟨t1,t2,⟨dx,o1⟩,o2⟩:=id ce;walk_at "ev";refine ⟨_,_,rfl,Tg,s,A,M,_,p,c,j,rfl,ce,rfl,?_⟩
   by_cases y:c.tone=M.sw.sense
   ·rw [decide_eq_true y];walk_at "ev";refine stay ?_;unfold bZ;dsimp only;rw [ec];dsimp only;rw [if_neg fun w=>w.2 y]
   ·rw [decide_eq_false y];have en:bZ M (some i)=(some c.birth,{ setCell M i { c with tone:=M.sw.sense } with sw:={ M.sw with grey:=M.sw.grey ++ [i] } }):=by
     unfold bZ;dsimp only;rw [ec];dsimp only;rw [if_pos ⟨z,y⟩]
    rw [en] at q;walk_at "ev";refine aR os T.cS T.n1 nu ?_;walk_at "ev";refine ⟨p.1,X.C,dx,_,rfl,o1,T.c.dz,T.c.kE,by show 5 < 1000;decide,?_⟩;rw [Oc];obtain ⟨st1,j1⟩:=j.cell w s0 (dx:=dx) (tone:=M.sw.sense) (load:=c.load) hp ce;generalize upd H p.1 (.ins X.C dx (mV c.birth c.bulk M.sw.sense c.load p.2))=H1 at st1 j1 ⊢;obtain ⟨d3,os1⟩:=j1.js.os;obtain ⟨p1,hp1,ce1⟩:=j1.jc.at (i:=i.toNat) (c:={ c with tone:=M.sw.sense,load:=c.load }) (by rw [List.getElem?_set_self (cI hc).1]);rw [hp] at hp1;cases hp1;walk_at "ev";refine aR os1 T.cS T.n3 sW ?_;walk_at "ev";have hgl:=hg z;refine ⟨.inl ⟨rfl,_,cF.of j1.js.og⟩,?_⟩;walk_at "ev";refine ⟨_,_,_,rfl,rfl,j1.js.og,?_,?_⟩
    ·rw [bh];exact Nat.lt_of_le_of_lt hgl (by decide)
    obtain ⟨st2,j2⟩:=j1.Zr5 st1.wt s0 (g:=M.sw.grey ++ [i]);have eg:(M.sw.grey.map V.int ++ [V.int i])=(M.sw.grey ++ [i]).map V.int:=by rw [List.map_append];rfl
    show bI _ _ _ (upd H1 A.gr (.lst (M.sw.grey.map V.int ++ [oV (some i)])));rw [show (M.sw.grey.map V.int ++ [oV (some i)])=(M.sw.grey ++ [i]).map V.int from eg];generalize upd H1 A.gr (.lst ((M.sw.grey ++ [i]).map V.int))=H2 at st2 j2 ⊢;obtain ⟨p2,hp2,ce2⟩:=j2.jc.at (i:=i.toNat) (c:={ c with tone:=M.sw.sense,load:=c.load }) (by show (M.cells.set _ _)[_]? =_;rw [List.getElem?_set_self (cI hc).1]);rw [hp] at hp2;cases hp2;obtain ⟨_,_,⟨dx2,o3⟩,_⟩:=ce2;walk_at "ev";refine aR o3 T.c.dz T.c.eX jX ?_;exact q H2 (st1.trans st2) j2
theorem Zng {Tg:Tg}{z:Str}:∀ {ns:List Addr}{names:List (Str×(Int×Int))},Al (NmO H Tg) ns names→(jW names z=none∧oK (HR names ns) (Sum.inr z)=none)∨∃ p b t,jW names z=some (p,b)∧oK (HR names ns) (Sum.inr z)=some (.ref t)∧H t=some (.tup [.int p,.int b])∧Tg t=(0,0):=by
 intro ns names h
 induction h with
 | nil=>exact .inl ⟨rfl,rfl⟩
 | @cons t m ns names h1 _ ih=>
  by_cases e:m.1=z
  ·refine .inr ⟨m.2.1,m.2.2,t,?_,?_,h1.2,h1.1⟩
   ·unfold jW;rw [List.find?_cons_of_pos (by simpa using e)];rfl
   ·show (List.find? _ ((Sum.inr m.1,V.ref t) :: HR names ns)).map _=_;rw [List.find?_cons_of_pos (by simpa using e)];rfl
  ·have g:jW (m :: names) z=jW names z:=by unfold jW;rw [List.find?_cons_of_neg (by simpa using e)]
   have v:oK (HR (m :: names) (t :: ns)) (Sum.inr z)=oK (HR names ns) (Sum.inr z):=by
    show (List.find? _ ((Sum.inr m.1,V.ref t) :: HR names ns)).map _=_;rw [List.find?_cons_of_neg (by simpa using e)];rfl
   rw [g,v];exact ih
theorem Mv {wo:Addr}{z:Str} (T:vB K X) (q:∃ T s A M,WJ X H T s A M∧A.wo=wo∧(jW M.names z=none→E (.ref CN) none H)∧(∀ p b,jW M.names z=some (p,b)→Q (if m8 M p b=true then .non else .int p) H)):
  tG K CN (WW X) E ⟨n,Q,bk,ct⟩ [some (.ref wo),some (.str z),none,none] H:=by
 obtain ⟨Tg,s,A,M,j,rfl,hE,hQ⟩:=q;obtain ⟨d1,ow⟩:=j.jb.ow;obtain ⟨tm,om,nms⟩:=j.jn;unfold tG;walk_at "ev";refine aR ow T.cW T.nWn nj ?_;refine ⟨_,_,rfl,Zij om,?_⟩;rcases Zng (z:=z) nms with ⟨e1,e2⟩ | ⟨p,b,t,e1,e2,ot,_⟩
 ·rw [e2];walk_at "ev";exact ⟨by decide,hE e1⟩
 ·rw [e2,show (!(some (V.ref t)).isSome)=false from rfl];walk_at "ev";refine aR ow T.cW T.nWn nj ?_;walk_at "ev";refine ⟨_,_,rfl,by have:=Zij (z:=z) om;rw [e2] at this;exact this,?_⟩;walk_at "ev";refine ⟨t,_,0,_,rfl,rfl,j4.of ot,rfl,?_⟩;walk_at "ev";refine aR ow T.cW T.nWn nj ?_;walk_at "ev";refine ⟨_,_,rfl,by have:=Zij (z:=z) om;rw [e2] at this;exact this,?_⟩;walk_at "ev";refine ⟨t,_,1,_,rfl,rfl,j4.of ot,rfl,?_⟩;walk_at "ev";refine ⟨_,_,_,rfl,Tg,s,A,M,j,rfl,?_⟩;have:=hQ p b e1;cases hg:m8 M p b with
  | true=>
   rw [hg] at this;walk_at "ev";exact this
  | false=>
   rw [hg] at this;walk_at "ev";exact this
theorem Stp.new {s:Nat}{H Hx:Hp}{T Tx:Tg}{l:Addr}{o o0:HO} (e:Stp s H Hx T Tx) (hl:H l=none) (hx:Hx l=some o0):Stp s H (upd Hx l o) T Tx where
 kp:=fun b u h z=>by rw [aA (aD h hl)];exact e.kp b u h z
 al:=fun b u h=>by rw [aA (aD h hl)];exact e.al b u h
 tg:=e.tg
 wt:=fun b h=>e.wt b (by
  by_cases z:b=l
  ·rw [z,aq] at h;cases h
  ·rw [aA z] at h;exact h)
theorem Stp.fresh {s:Nat}{H:Hp}{T:Tg}{l:Addr}{o:HO}{v:Nat×Nat} (w:WT H T) (hl:H l=none):Stp s H (upd H l o) T (fG T l v) where
 kp:=fun b u h z=>by rw [aA (aD h hl)];exact h
 al:=fun b u h=>⟨u,by rw [aA (aD h hl)];exact h⟩
 tg:=fun b u h=>fO (aD h hl)
 wt:=fun b h=>by
  by_cases z:b=l
  ·rw [z,aq] at h;cases h
  ·rw [aA z] at h;rw [fO z];exact w b h
theorem Zar {M:Wm}{x:Option Int}:(bZ M x).2.sw.phase=M.sw.phase∧(bZ M x).2.sw.grey.length≤M.sw.grey.length + 1∧(bZ M x).2.tells=M.tells∧(bZ M x).2.names=M.names:=by
 cases x with
 | none=>exact ⟨rfl,Nat.le_succ _,rfl,rfl⟩
 | some i=>
  unfold bZ;dsimp only;cases cellAt M i with
  | none=>exact ⟨rfl,Nat.le_succ _,rfl,rfl⟩
  | some c=>
   dsimp only
   by_cases z:M.sw.phase="walk"∧c.tone≠M.sw.sense
   ·rw [if_pos z];exact ⟨rfl,by show (M.sw.grey ++ [i]).length≤_;rw [List.length_append];exact Nat.le_refl _,rfl,rfl⟩
   ·rw [if_neg z];exact ⟨rfl,Nat.le_succ _,rfl,rfl⟩
theorem m7:∀ {l:List (Option Int)}{M:Wm}{x:Option Int},bA M (l ++ [x])=((bA M l).1 ++ ofN (bZ (bA M l).2 x).1,(bZ (bA M l).2 x).2)
 | [],M,x=>by
  show (ofN (bZ M x).1 ++ [],(bZ M x).2)=([] ++ ofN (bZ M x).1,(bZ M x).2);rw [List.append_nil,List.nil_append]
 | y :: l,M,x=>by
  show (ofN (bZ M y).1 ++ (bA (bZ M y).2 (l ++ [x])).1,(bA (bZ M y).2 (l ++ [x])).2)=_;rw [m7];show _=((ofN (bZ M y).1 ++ (bA (bZ M y).2 l).1) ++ _,_);rw [List.append_assoc];rfl
theorem JB:∀ {l:List (Option Int)}{M:Wm},(bA M l).2.sw.phase=M.sw.phase∧(bA M l).2.sw.grey.length≤M.sw.grey.length + l.length
 | [],M=>⟨rfl,Nat.le_refl _⟩
 | y :: l,M=>by
  obtain ⟨a,b,_⟩:=Zar (M:=M) (x:=y);obtain ⟨c,d⟩:=JB (l:=l) (M:=(bZ M y).2);refine ⟨c.trans a,?_⟩;show (bA (bZ M y).2 l).2.sw.grey.length≤_;rw [List.length_cons];omega
theorem M7:∀ {l:List (Option Int)}{M:Wm},(bA M l).1.length≤l.length
 | [],M=>Nat.le_refl _
 | y :: l,M=>by
  have:=M7 (l:=l) (M:=(bZ M y).2);show (ofN (bZ M y).1 ++ (bA (bZ M y).2 l).1).length≤_;rw [List.length_append,List.length_cons];have:(ofN (bZ M y).1).length≤1:=by cases (bZ M y).1<;>simp [ofN]
  omega
theorem XR {wo pl:Addr} (T:vB K X) (q:∃ xs T s A M,WT H T∧s≠0∧WJ X H T s A M∧A.wo=wo∧H pl=some (.lst (xs.map oV))∧T pl=(0,0)∧xs.length≤100∧(M.sw.phase="walk"→M.sw.grey.length≤10000)∧
 ∀ H' T' l,Stp s H H' T T'→WJ X H' T' s A (bA M xs).2→H' l=some (.lst ((bA M xs).1.map V.int))→H l=none→Q (.ref l) H'):yR K (WM X) ⟨n,Q,bk,ct⟩ [some (.ref wo),some (.ref pl),none,none,none] H:=by
 obtain ⟨xs,Tg,s,A,M,w,s0,j,rfl,opl,tpl,hx,hg,q⟩:=q;unfold yR;walk_at "ev";refine ⟨bu (by simp),fun l hl=>?_⟩;have npl:pl≠l:=aD opl hl;have st1:Stp s H (upd H l (.lst [])) Tg (fG Tg l (s + 1,0)):=Stp.fresh w hl;have j1:WJ X (upd H l (.lst [])) (fG Tg l (s + 1,0)) s A M:=j.fresh hl;have g1:upd H l (.lst []) l=some (.lst []):=aq;have tl:fG Tg l (s + 1,0) l=(s + 1,0):=fB;have tp:fG Tg l (s + 1,0) pl=(0,0):=(fO npl).trans tpl;have op1:upd H l (.lst []) pl=some (.lst (xs.map oV)):=(aA npl).trans opl;generalize upd H l (.lst [])=H1 at st1 j1 g1 op1 ⊢;generalize fG Tg l (s + 1,0)=T1 at st1 j1 tl tp;walk_at "ev";refine ⟨pl,rfl,⟨_,cF.of op1⟩,forL (xs.map oV) (fun i σ Hx=>∃ v3 v4,σ=[some (.ref A.wo),some (.ref pl),some (.ref l),v3,v4]∧Stp s H Hx Tg T1∧WJ X Hx T1 s A (bA M (xs.take i)).2∧Hx l=some (.lst ((bA M (xs.take i)).1.map V.int))∧Hx pl=some (.lst (xs.map oV))) ⟨_,_,rfl,st1,j1,g1,op1⟩ (fun _ _ _ _ ⟨_,_,_,_,_,_,e⟩=>cF.of e) ?_ ?_⟩
 ·rintro i x σ Hx hi ⟨v3,v4,rfl,st2,j2,g2,op2⟩;obtain ⟨y,hy,rfl⟩:∃ y,xs[i]? =some y∧oV y=x:=by
   rw [bx] at hi;obtain ⟨y,a,b⟩:=Option.map_eq_some_iff.mp hi;exact ⟨y,a,b⟩
  have il:=(cI hy).1;have et:xs.take (i + 1)=xs.take i ++ [y]:=by
   rw [List.take_add_one,hy];rfl
  obtain ⟨gp,gl⟩:=JB (l:=xs.take i) (M:=M);have nl:=M7 (l:=xs.take i) (M:=M);have tk:(xs.take i).length≤100:=by rw [List.length_take];omega
  walk_at "ev";refine ⟨_,_,rfl,y,rfl,T1,s,A,_,st2.wt,s0,j2,rfl,fun z=>?_,fun Hy sty jy=>?_⟩
  ·have:=hg (gp.symm.trans z);omega
  have gy:Hy l=some (.lst ((bA M (xs.take i)).1.map V.int)):=sty.kp _ _ g2 (by rw [tl];show s + 1≠s;omega);have oy:Hy pl=some (.lst (xs.map oV)):=sty.kp _ _ op2 (by rw [tp];exact fun z=>s0 z.symm);have stt:=st2.trans sty;walk_at "ev";cases hn:(bZ (bA M (xs.take i)).2 y).1 with
  | none=>
   dsimp only [oV];walk_at "ev";refine ⟨_,_,rfl,stt,?_,?_,oy⟩
   ·rw [et,m7];exact jy
   ·rw [et,m7];show Hy l=some (.lst (((bA M (xs.take i)).1 ++ ofN (bZ (bA M (xs.take i)).2 y).1).map V.int));rw [hn];show Hy l=some (.lst (((bA M (xs.take i)).1 ++ []).map V.int));rw [List.append_nil];exact gy
  | some b=>
   dsimp only [oV];walk_at "ev";refine ⟨.inl ⟨rfl,_,cF.of gy⟩,?_⟩;walk_at "ev";refine ⟨_,_,_,rfl,rfl,gy,?_,?_⟩
   ·rw [bh];exact Nat.lt_of_le_of_lt (show _≤100 by omega) (by decide)
   walk_at "ev";refine ⟨_,_,rfl,Stp.new stt hl gy,?_,?_,?_⟩
   ·rw [et,m7];exact jy.other (s':=s + 1) (Stp.upd sty.wt gy (by rw [tl])) (by omega) (by omega)
   ·rw [et,m7,aq];show some (HO.lst _)=some (HO.lst (((bA M (xs.take i)).1 ++ ofN (bZ (bA M (xs.take i)).2 y).1).map V.int));rw [hn,List.map_append];rfl
   ·rw [aA npl];exact oy
 ·rintro σ Hx ⟨v3,v4,rfl,st2,j2,g2,op2⟩;walk_at "ev";rw [show (xs.map oV).length=xs.length from bh _,List.take_length] at j2 g2;exact q Hx T1 l st2 j2 g2 hl
end
theorem pK {M:Wm}{h k:Nat}{x:Option Int}{m:Str×List (Option Int)} (hm:M.hands[h]? =some m):{ M with hands:=M.hands.set h (m.1,m.2.set k x) }=setSlot M h k x:=by
 have e:=Az (k:=k) (x:=x) hm;show _={ M with hands:=_ };rw [show (M.hands.modify h fun m=>(m.1,m.2.set k x))=M.hands.set h (m.1,m.2.set k x) from e]
def zM (d:iC):Prop:=∃ h s many bulk,d=.make h s many bulk
def R0 (d:iC):Prop:=∃ h s t f,d=.get h s t f
def RZ (d:iC):Prop:=∃ h t f s,d=.put h t f s
def Iu (d:iC):Prop:=∃ h s t,d=.copy h s t
def Ir (d:iC):Prop:=∃ h s,d=.drop h s
def Ip (d:iC):Prop:=∃ h s g t,d=.give h s g t
def z7 (d:iC):Prop:=∃ h t load,d=.write h t load
def Il (d:iC):Prop:=∃ h t,d=.read h t
def isName (d:iC):Prop:=∃ h t word,d=.name h t word
def Ik (d:iC):Prop:=∃ h s word,d=.seek h s word
abbrev zX (X:Cs) (rf:Rf→Addr) (P:iC→Prop) (wo dd:Addr) (H:Hp) (Q:VK) (E:XK):Prop:=∃ T s A M d,P d∧WT H T∧s≠0∧WJ X H T s A M∧A.wo=wo∧H dd=some (.tup (dV d))∧okD M d∧Ok M∧M.cells.length≤900∧(M.sw.phase="walk"→M.sw.grey.length≤10000)∧(0≤M.tells∧M.tells < 4)∧M.names.length≤1000∧
 (∀ r,qb M d=.error r→∀ H',bN H H'→E (.ref (rf r)) none H')∧
 (∀ e M',qb M d=.ok (e,M')→∀ H' T' A' a,Stp s H H' T T'→WJ X H' T' s A' M'→A'.wo=wo→EvN H H' a e→Q (.ref a) H')
section
variable {X:Cs}{H Hx:Hp}{T Tx:Tg}{s:Nat}{A Ax:Wa}{M M':Wm}{d:iC}{e:Ev}{wo:Addr}{Q:VK}
theorem Stp.free {s:Nat}{H Hx:Hp}{T Tx:Tg}{l:Addr} (e:Stp s H Hx T Tx) (h:Hx l=none):H l=none:=by
 cases z:H l with
 | none=>rfl
 | some o=>obtain ⟨o',z'⟩:=e.al l o z;rw [h] at z';cases z'
theorem ev0 (hQ:∀ e M',qb M d=.ok (e,M')→∀ H' T' A' a,Stp s H H' T T'→WJ X H' T' s A' M'→A'.wo=wo→EvN H H' a e→Q (.ref a) H') (he:qb M d=.ok (e,M')) (hn:e.notes=[]) (st:Stp s H Hx T Tx) (j:WJ X Hx Tx s Ax M') (aw:Ax.wo=wo) {l a:Addr} (hl:Hx l=none) (ha:upd Hx l (.lst []) a=none):
  Q (.ref a) (upd (upd Hx l (.lst [])) a (.tup [.str e.word,oV e.thing,.ref l])):=by
 have s1:=aN hl (.lst []);have s2:=aN ha (.tup [.str e.word,oV e.thing,.ref l]);have s3:=s1.trans s2;refine hQ e M' he _ Tx Ax a (st.trans (Stp.same st.wt s3)) (j.same s3) aw ⟨l,Stp.free st hl,aq,?_⟩;rw [hn];exact s2 _ _ aq
theorem ev1 {l a:Addr} (hl0:H l=none) (hQ:∀ e M',qb M d=.ok (e,M')→∀ H' T' A' a,Stp s H H' T T'→WJ X H' T' s A' M'→A'.wo=wo→EvN H H' a e→Q (.ref a) H') (he:qb M d=.ok (e,M')) (st:Stp s H Hx T Tx) (j:WJ X Hx Tx s Ax M') (aw:Ax.wo=wo) (hl:Hx l=some (.lst (e.notes.map V.int))) (ha:Hx a=none):
  Q (.ref a) (upd Hx a (.tup [.str e.word,oV e.thing,.ref l])):=by
 have s2:=aN ha (.tup [.str e.word,oV e.thing,.ref l]);exact hQ e M' he _ Tx Ax a (st.trans (Stp.same st.wt s2)) (j.same s2) aw ⟨l,hl0,aq,s2 _ _ hl⟩
end
theorem Jz {M:Wm}{i:Int}{c c':Ce} (h:cellAt M i=some c) (hb:c'.birth=c.birth) (x:Option Int):d8 (setCell M i c') x=d8 M x:=by
 cases x with
 | none=>rfl
 | some y=>
  obtain ⟨h0,h1⟩:=gC.mp h;show (cellAt (setCell M i c') y).map _=(cellAt M y).map _
  by_cases e:y=i
  ·subst e;rw [h,show cellAt (setCell M y c') y=some c' from gC.mpr ⟨h0,by show (M.cells.set _ _)[_]? =_;rw [List.getElem?_set_self (cI h1).1]⟩];show some c'.birth=some c.birth;rw [hb]
  ·have:cellAt (setCell M i c') y=cellAt M y:=by
    unfold cellAt setCell
    by_cases z:0≤y
    ·rw [if_pos z,if_pos z];show ((M.cells.set _ _)[_]?).join=_;rw [List.getElem?_set_ne (by omega)]
    ·rw [if_neg z,if_neg z]
   rw [this]
theorem Ze7 {M:Wm}{y:Option Int} (x:Option Int):d8 (bZ M y).2 x=d8 M x:=by
 cases y with
 | none=>rfl
 | some i=>
  unfold bZ;dsimp only;cases hc:cellAt M i with
  | none=>rfl
  | some c=>
   dsimp only
   by_cases z:M.sw.phase="walk"∧c.tone≠M.sw.sense
   ·rw [if_pos z];have e:=Jz (M:=M) (i:=i) (c:=c) (c':={ c with tone:=M.sw.sense }) hc rfl x;cases x with
    | none=>rfl
    | some y=>exact e
   ·rw [if_neg z]
theorem xH:∀ {l:List (Option Int)}{M:Wm} (x:Option Int),d8 (bA M l).2 x=d8 M x
 | [],_,_=>rfl
 | y :: l,M,x=>(xH (l:=l) (M:=(bZ M y).2) x).trans (Ze7 x)
theorem Zhl {b:Bool}{x:Option Int}:(if b=true then [oV x] else [])=(if b=true then [x] else []).map oV:=by cases b<;>rfl
section
variable {K:aG}{X:Cs}{H:Hp}{Q:VK}{E:XK}{n:St→Hp→Prop}{bk ct:St→Hp→Prop}{rf:Rf→Addr}
theorem Zbw {wo dd:Addr} (T:vB K X) (q:zX X rf Iu wo dd H Q E):BX K (cz X) (bU X) ⟨n,Q,bk,ct⟩ [some (.ref wo),some (.ref dd),none,none] H:=by
 obtain ⟨Tg,s,A,M,_,⟨h,sl,t,rfl⟩,w,s0,j,rfl,od,⟨o1,o2⟩,ok,hc,hg,ht,hn,hE,hQ⟩:=q;obtain ⟨p,m,hp,hm,hs,hl,hd⟩:=j.handOf o2;obtain ⟨m',hm',_,hl'⟩:=Du o1;rw [hm] at hm';cases hm';unfold BX;walk_at "ev";refine ⟨dd,_,1,_,rfl,rfl,j4.of od,rfl,?_⟩;walk_at "ev";refine ⟨_,_,rfl,Tg,s,A,M,h,p,j,rfl,rfl,hp,?_⟩;walk_at "ev";refine ⟨dd,_,3,_,rfl,rfl,j4.of od,rfl,?_⟩;refine bK (cF.of hd.o2) (aX (v:=oV (aB M h t)) (by rw [bx,hs];rfl)) ?_;walk_at "ev";refine ⟨dd,_,2,_,rfl,rfl,j4.of od,rfl,?_⟩;refine ⟨p.2,_,_,sl,rfl,rfl,hd.o2,lu (by rw [bh];exact hl'),?_⟩;obtain ⟨st1,j1⟩:=j.slot w s0 (k:=sl) (x:=aB M h t) hp hm;rw [pK hm] at j1;generalize upd H p.2 (.lst ((m.2.map oV).set sl (oV (aB M h t))))=H1 at st1 j1 ⊢;obtain ⟨d1,ow⟩:=j1.jb.ow;walk_at "ev";refine aR ow T.cW T.X7 cB ?_;walk_at "ev";refine ⟨_,_,rfl,aB M h t,rfl,Tg,s,A,_,j1,rfl,?_⟩;rw [kY];walk_at "ev";refine ⟨bu (by simp),fun l hl=>⟨bu (by simp),fun a ha=>?_⟩⟩;exact ev0 hQ (d:=.copy h sl t) rfl rfl st1 j1 rfl hl ha
theorem Zbv {wo dd:Addr} (T:vB K X) (q:zX X rf Ir wo dd H Q E):BW K (cz X) (bU X) ⟨n,Q,bk,ct⟩ [some (.ref wo),some (.ref dd),none,none] H:=by
 obtain ⟨Tg,s,A,M,_,⟨h,sl,rfl⟩,w,s0,j,rfl,od,o1,ok,hc,hg,ht,hn,hE,hQ⟩:=q;obtain ⟨p,m,hp,hm,hs,hl,hd⟩:=j.handOf o1;unfold BW;walk_at "ev";refine ⟨dd,_,1,_,rfl,rfl,j4.of od,rfl,?_⟩;walk_at "ev";refine ⟨_,_,rfl,Tg,s,A,M,h,p,j,rfl,rfl,hp,?_⟩;walk_at "ev";refine ⟨dd,_,2,_,rfl,rfl,j4.of od,rfl,?_⟩;refine bK (cF.of hd.o2) (aX (v:=oV (aB M h sl)) (by rw [bx,hs];rfl)) ?_;walk_at "ev";refine ⟨dd,_,2,_,rfl,rfl,j4.of od,rfl,?_⟩;refine ⟨p.2,_,_,sl,rfl,rfl,hd.o2,lu (by rw [bh];exact hl),?_⟩;obtain ⟨st1,j1⟩:=j.slot w s0 (k:=sl) (x:=none) hp hm;rw [pK hm] at j1;show bI _ _ _ (upd H p.2 (.lst ((m.2.map oV).set sl (oV none))));generalize upd H p.2 (.lst ((m.2.map oV).set sl (oV none)))=H1 at st1 j1 ⊢;obtain ⟨d1,ow⟩:=j1.jb.ow;walk_at "ev";refine aR ow T.cW T.X7 cB ?_;walk_at "ev";refine ⟨_,_,rfl,aB M h sl,rfl,Tg,s,A,_,j1,rfl,?_⟩;rw [kY];walk_at "ev";refine ⟨bu (by simp),fun l hl=>⟨bu (by simp),fun a ha=>?_⟩⟩;exact ev0 hQ (d:=.drop h sl) rfl rfl st1 j1 rfl hl ha
theorem Zbu {wo dd:Addr} (T:vB K X) (q:zX X rf Ip wo dd H Q E):BV K (cz X) (jO X) (bU X) (oF X) ⟨n,Q,bk,ct⟩ [some (.ref wo),some (.ref dd),none,none,none,none] H:=by
 obtain ⟨Tg,s,A,M,_,⟨h,sl,g,t,rfl⟩,w,s0,j,rfl,od,⟨o1,o2⟩,ok,hc,hg,ht,hn,hE,hQ⟩:=q;obtain ⟨p,m,hp,hm,hs,hl,hd⟩:=j.handOf o1;obtain ⟨p',m',hp',hm',hs',hl',hd'⟩:=j.handOf o2;unfold BV;walk_at "ev";refine ⟨dd,_,1,_,rfl,rfl,j4.of od,rfl,?_⟩;walk_at "ev";refine ⟨dd,_,3,_,rfl,rfl,j4.of od,rfl,?_⟩;walk_at "ev";refine ⟨_,_,rfl,Tg,s,A,M,h,p,j,rfl,rfl,hp,?_⟩;walk_at "ev";refine ⟨dd,_,2,_,rfl,rfl,j4.of od,rfl,?_⟩;refine bK (cF.of hd.o2) (aX (v:=oV (aB M h sl)) (by rw [bx,hs];rfl)) ?_;walk_at "ev";refine ⟨_,_,rfl,Tg,s,A,M,g,p',j,rfl,rfl,hp',?_⟩;walk_at "ev";refine ⟨dd,_,4,_,rfl,rfl,j4.of od,rfl,?_⟩;refine ⟨p'.2,_,_,t,rfl,rfl,hd'.o2,lu (by rw [bh];exact hl'),?_⟩;obtain ⟨st1,j1⟩:=j.slot w s0 (k:=t) (x:=aB M h sl) hp' hm';rw [pK hm'] at j1;generalize upd H p'.2 (.lst ((m'.2.map oV).set t (oV (aB M h sl))))=H1 at st1 j1 ⊢;walk_at "ev";refine ⟨_,_,_,rfl,Tg,s,A,_,h,j1,rfl,ht,rfl,fun l1 hl1=>?_⟩;rw [show (jT (setSlot M g t (aB M h sl)) && !bM (setSlot M g t (aB M h sl)) h)=(jT M && !bM M h) from rfl,Zhl];have s1:=aN hl1 (.lst ((if (jT M && !bM M h)=true then [aB M h sl] else []).map oV));have g1:upd H1 l1 (.lst ((if (jT M && !bM M h)=true then [aB M h sl] else []).map oV)) l1=some (.lst ((if (jT M && !bM M h)=true then [aB M h sl] else []).map oV)):=aq;generalize upd H1 l1 (.lst ((if (jT M && !bM M h)=true then [aB M h sl] else []).map oV))=H2 at s1 g1 ⊢;walk_at "ev";refine ⟨_,_,rfl,_,Tg,s,A,_,st1.wt.same s1,s0,j1.same s1,rfl,g1,st1.wt _ hl1,by cases (jT M && !bM M h)<;>simp,hg,fun H3 T3 l3 st3 j3 g3 nl3=>?_⟩;obtain ⟨d1,ow⟩:=j3.jb.ow;walk_at "ev";refine aR ow T.cW T.X7 cB ?_;walk_at "ev";refine ⟨_,_,rfl,aB M h sl,rfl,T3,s,A,_,j3,rfl,?_⟩;rw [xH,kY];walk_at "ev";refine ⟨bu (by simp),fun a ha=>?_⟩;exact ev1 (Stp.free st1 (s1.free nl3)) hQ (d:=.give h sl g t) rfl (st1.trans ((Stp.same st1.wt s1).trans st3)) j3 rfl g3 ha
theorem Zbt {wo dd CF:Addr} (T:vB K X) (hF:rf .full=CF) (q:zX X rf zM wo dd H Q E):BR K X.H (uD K X.C X.H CF) (cz X) (bU X) E ⟨n,Q,bk,ct⟩ [some (.ref wo),some (.ref dd),none,none,none,none] H:=by
 obtain ⟨Tg,s,A,M,_,⟨h,sl,many,bulk,rfl⟩,w,s0,j,rfl,od,⟨o1,m0,m1,b0⟩,ok,hc,hg,ht,hn,hE,hQ⟩:=q;obtain ⟨p,m,hp,hm,hs,hl,hd⟩:=j.handOf o1;obtain ⟨d1,ow⟩:=j.jb.ow;obtain ⟨d2,os⟩:=j.js.os;obtain ⟨th,tc,⟨d3,oh⟩,oc⟩:=j.jh;have hcs:A.cs.length≤900:=by rw [j.jc.lc];exact hc
 unfold BR;walk_at "ev";refine ⟨dd,_,1,_,rfl,rfl,j4.of od,rfl,?_⟩;walk_at "ev";refine ⟨_,_,rfl,Tg,s,A,M,h,p,j,rfl,rfl,hp,?_⟩;walk_at "ev";refine ⟨dd,_,3,_,rfl,rfl,j4.of od,rfl,?_⟩;walk_at "ev";refine ⟨dd,_,4,_,rfl,rfl,j4.of od,rfl,?_⟩;walk_at "ev";refine aR ow T.cW T.X7 cB ?_;refine ⟨A.hp,d3,_,rfl,oh,Qw,?_⟩;walk_at "ev";refine aR ow T.cW T.nWs eE ?_;walk_at "ev";refine aR os T.cS T.n1 nu ?_;walk_at "ev";refine ⟨_,_,_,_,rfl,A.ca,d3,_,_,_,_,oh,oc,?_,by rw [bh];omega,m0,m1,fun hf H' sm=>?_,fun hf pc fa H1 npc nfa fm a1 a2 co=>?_⟩
 ·intro y hy;obtain ⟨o,ho,rfl⟩:=List.mem_map.mp hy;cases o with
  | none=>exact .inl rfl
  | some g=>
   obtain ⟨i,hi,ei⟩:=List.getElem_of_mem ho;have e:=j.jc.ce i _ _ (bO hi) (bO (by rw [← j.jc.lc];exact hi));rw [ei] at e;cases hcc:M.cells[i]'(by rw [← j.jc.lc];exact hi) with
   | none=>rw [hcc] at e;exact e.elim
   | some c=>
    rw [hcc] at e;obtain ⟨_,_,⟨dx,o1⟩,_⟩:=(show Ri X.C H Tg s i g c from e);exact .inr ⟨g.1,X.C,dx,_,rfl,o1,T.c.dz,T.c.KY⟩
 ·rw [← hF];refine hE .full ?_ H' sm;show (if _ then _ else _)=_;rw [if_neg (by omega)]
 ·obtain ⟨⟨dp,c1⟩,c2⟩:=co;have npf:pc≠fa:=Dy c1 c2 (fun z=>by cases z);obtain ⟨T1,st1,j1⟩:=j.put w s0 (H':=H1) (dx:=d3) (used':=M.used + (1 + many + bulk)) (p:=pc) (fa:=fa) (c:=⟨M.born + 1,bulk,M.sw.sense,0,List.replicate many.toNat none⟩)
   (fun b o hb n1 n2=>fm b o hb (by simp [n1,n2])) a1 a2 npc nfa npf ⟨dp,c1⟩ (by rw [c2,List.map_replicate];rfl)
  have ei:((A.cs.map pV).idxOf V.non:Int)=(iu M.cells:Nat):=by rw [(YB Zgg A.cs).1,j.jc.fst]
  walk_at "ev";rw [ei];refine ⟨dd,_,2,_,rfl,rfl,j4.of (fm _ _ od ?_),rfl,?_⟩
  ·intro z;rcases List.mem_cons.mp z with z | z
   ·rw [z,oh] at od;cases od
   ·rw [List.mem_singleton.mp z,oc] at od;cases od
  have hd1:=j1.jd.hd h p m hp hm;refine ⟨p.2,_,_,sl,rfl,rfl,hd1.o2,lu (by rw [bh];exact hl),?_⟩;obtain ⟨st2,j2⟩:=j1.slot st1.wt s0 (k:=sl) (x:=some (iu M.cells:Nat)) hp hm;rw [pK (M:={ M with used:=M.used + (1 + many + bulk),born:=M.born + 1,cells:=jH M.cells ⟨M.born + 1,bulk,M.sw.sense,0,List.replicate many.toNat none⟩ }) hm] at j2;show bI _ _ _ (upd H1 p.2 (.lst ((m.2.map oV).set sl (oV (some (iu M.cells:Nat))))));generalize upd H1 p.2 (.lst ((m.2.map oV).set sl (oV (some (iu M.cells:Nat)))))=H2 at st2 j2 ⊢;obtain ⟨d5,ow2⟩:=j2.jb.ow;walk_at "ev";refine aR ow2 T.cW T.X7 cB ?_;walk_at "ev";refine ⟨_,_,rfl,some (iu M.cells:Nat),rfl,T1,s,_,_,j2,rfl,?_⟩;rw [kY];rw [show d8 { M with used:=M.used + (1 + many + bulk),born:=M.born + 1,cells:=jH M.cells ⟨M.born + 1,bulk,M.sw.sense,0,List.replicate many.toNat none⟩ } (some (iu M.cells:Nat))=some (M.born + 1) from by
   show (cellAt _ _).map _=_;rw [Cr];rfl]
  walk_at "ev";refine ⟨bu (by simp),fun l hl=>⟨bu (by simp),fun a ha=>?_⟩⟩;exact ev0 hQ (d:=.make h sl many bulk) (JV (by omega)) rfl (st1.trans st2) j2 rfl hl ha
end
theorem Zf9 {M:Wm}{h s t f:Nat} (e:cO M (aB M h t)=none):qb M (.get h s t f)=.error .empty:=by
 show (match aB M h t with | none=>_ | some x=>_)=_;cases hs:aB M h t with
 | none=>rfl
 | some x=>
  rw [hs] at e;show (match cellAt M x with | none=>_ | some c=>_)=_;rw [show cellAt M x=none from e]
theorem Zf7 {M:Wm}{h s t f:Nat} (e:cO M (aB M h t)=none):qb M (.put h t f s)=.error .empty:=by
 show (match aB M h t with | none=>_ | some x=>_)=_;cases hs:aB M h t with
 | none=>rfl
 | some x=>
  rw [hs] at e;show (match cellAt M x with | none=>_ | some c=>_)=_;rw [show cellAt M x=none from e]
theorem YL {M:Wm}{h t:Nat}{l:Int} (e:cO M (aB M h t)=none):qb M (.write h t l)=.error .empty:=by
 show (match aB M h t with | none=>_ | some x=>_)=_;cases hs:aB M h t with
 | none=>rfl
 | some x=>
  rw [hs] at e;show (match cellAt M x with | none=>_ | some c=>_)=_;rw [show cellAt M x=none from e]
theorem Zby {M:Wm}{h t:Nat} (e:cO M (aB M h t)=none):qb M (.read h t)=.error .empty:=by
 show (match aB M h t with | none=>_ | some x=>_)=_;cases hs:aB M h t with
 | none=>rfl
 | some x=>
  rw [hs] at e;show (match cellAt M x with | none=>_ | some c=>_)=_;rw [show cellAt M x=none from e]
theorem Zbz {M:Wm}{h t:Nat}{z:Str} (e:cO M (aB M h t)=none):qb M (.name h t z)=.error .empty:=by
 show (match aB M h t with | none=>_ | some x=>_)=_;cases hs:aB M h t with
 | none=>rfl
 | some x=>
  rw [hs] at e;show (match cellAt M x with | none=>_ | some c=>_)=_;rw [show cellAt M x=none from e]
theorem Zii {M:Wm}{h s t f:Nat}{i:Int}{c:Ce} (e0:aB M h t=some i) (ec:cellAt M i=some c) (hf:c.fl[f]? =none):qb M (.get h s t f)=.error .jz:=by
 show (match aB M h t with | none=>_ | some x=>_)=_;rw [e0];show (match cellAt M i with | none=>_ | some c=>_)=_;rw [ec];show (match c.fl[f]? with | none=>_ | some v=>_)=_;rw [hf]
theorem Zig {M:Wm}{h s t f:Nat}{i:Int}{c:Ce} (e0:aB M h t=some i) (ec:cellAt M i=some c) (hf:c.fl[f]? =none):qb M (.put h t f s)=.error .jz:=by
 show (match aB M h t with | none=>_ | some x=>_)=_;rw [e0];show (match cellAt M i with | none=>_ | some c=>_)=_;rw [ec];show (match c.fl[f]? with | none=>_ | some v=>_)=_;rw [hf]
theorem Zih {M:Wm}{h s t f:Nat}{i:Int}{c:Ce}{v:Option Int} (e0:aB M h t=some i) (ec:cellAt M i=some c) (hf:c.fl[f]? =some v):qb M (.get h s t f)=.ok (⟨"got",d8 M v,[]⟩,setSlot M h s v):=by
 show (match aB M h t with | none=>_ | some x=>_)=_;rw [e0];show (match cellAt M i with | none=>_ | some c=>_)=_;rw [ec];show (match c.fl[f]? with | none=>_ | some v=>_)=_;rw [hf]
def putL (M:Wm) (h s:Nat) (v:Option Int):List (Option Int):=(if old? M=true then [v] else []) ++ if (jT M && !bM M h)=true then [aB M h s] else []
theorem Zif {M:Wm}{h s t f:Nat}{i:Int}{c:Ce}{v:Option Int} (e0:aB M h t=some i) (ec:cellAt M i=some c) (hf:c.fl[f]? =some v):qb M (.put h t f s)=.ok (⟨"put",d8 M v,(bA (setCell M i { c with fl:=c.fl.set f (aB M h s) }) (putL M h s v)).1⟩,(bA (setCell M i { c with fl:=c.fl.set f (aB M h s) }) (putL M h s v)).2):=by
 show (match aB M h t with | none=>_ | some x=>_)=_;rw [e0];show (match cellAt M i with | none=>_ | some c=>_)=_;rw [ec];show (match c.fl[f]? with | none=>_ | some v=>_)=_;rw [hf];rfl
theorem Zbx {M:Wm}{h t:Nat}{l i:Int}{c:Ce} (e0:aB M h t=some i) (ec:cellAt M i=some c):qb M (.write h t l)=.ok (⟨"wrote",some c.load,[]⟩,setCell M i { c with load:=l }):=by
 show (match aB M h t with | none=>_ | some x=>_)=_;rw [e0];show (match cellAt M i with | none=>_ | some c=>_)=_;rw [ec]
theorem Zf6 {M:Wm}{h t:Nat}{i:Int}{c:Ce} (e0:aB M h t=some i) (ec:cellAt M i=some c):qb M (.read h t)=.ok (⟨"read",some c.load,[]⟩,M):=by
 show (match aB M h t with | none=>_ | some x=>_)=_;rw [e0];show (match cellAt M i with | none=>_ | some c=>_)=_;rw [ec]
theorem Zf8 {M:Wm}{h t:Nat}{z:Str}{i:Int}{c:Ce} (e0:aB M h t=some i) (ec:cellAt M i=some c):qb M (.name h t z)=.ok (⟨"named",some c.birth,[]⟩,{ M with names:=mR M.names z (i,c.birth) }):=by
 show (match aB M h t with | none=>_ | some x=>_)=_;rw [e0];show (match cellAt M i with | none=>_ | some c=>_)=_;rw [ec]
section
variable {X:Cs}{H H':Hp}{T T':Tg}{s:Nat}{A:Wa}{M:Wm}
theorem Zne {z:Str}{v:Int×Int}{t:Addr} (ht:NmO H T t (z,v)):∀ {ns:List Addr}{names:List (Str×(Int×Int))},Al (NmO H T) ns names→(∃ ns',(HR names ns).map (fun kv=>if kv.1=Sum.inr z then (kv.1,V.ref t) else kv)=HR (names.map fun m=>if m.1=z then (m.1,v) else m) ns'∧Al (NmO H T) ns' (names.map fun m=>if m.1=z then (m.1,v) else m))∧
  ((HR names ns).any fun kv=>decide (kv.1=Sum.inr z))=(names.any fun m=>decide (m.1=z))∧HR names ns ++ [(Sum.inr z,V.ref t)]=HR (names ++ [(z,v)]) (ns ++ [t])∧Al (NmO H T) (ns ++ [t]) (names ++ [(z,v)]):=by
 intro ns names h
 induction h with
 | nil=>exact ⟨⟨[],rfl,.nil⟩,rfl,rfl,.cons ht .nil⟩
 | @cons a m ns names h1 _ ih=>
  obtain ⟨⟨ns',e1,e2⟩,e3,e4,e5⟩:=ih;refine ⟨?_,?_,?_,.cons h1 e5⟩
  ·by_cases e:m.1=z
   ·refine ⟨t :: ns',?_,?_⟩
    ·show (if (Sum.inr m.1:Int ⊕ Str)=Sum.inr z then _ else _) :: _=_;rw [if_pos (by rw [e]),List.map_cons,if_pos e];show _ :: _=(Sum.inr m.1,V.ref t) :: HR _ ns';rw [← e1];rfl
    ·rw [List.map_cons,if_pos e];exact .cons (by rw [e];exact ht) e2
   ·refine ⟨a :: ns',?_,?_⟩
    ·show (if (Sum.inr m.1:Int ⊕ Str)=Sum.inr z then _ else _) :: _=_;rw [if_neg (fun w=>e (Sum.inr.inj w)),List.map_cons,if_neg e];show _ :: _=(Sum.inr m.1,V.ref a) :: HR _ ns';rw [← e1];rfl
    ·rw [List.map_cons,if_neg e];exact .cons h1 e2
  ·show (decide ((Sum.inr m.1:Int ⊕ Str)=Sum.inr z) || (HR names ns).any _)=(decide (m.1=z) || names.any _);rw [e3];congr 1
   by_cases e:m.1=z<;>simp [e]
  ·show (Sum.inr m.1,V.ref a) :: (HR names ns ++ _)=(Sum.inr m.1,V.ref a) :: HR (names ++ _) (ns ++ _);rw [e4]
theorem Znf {ns:List Addr}{names:List (Str×(Int×Int))} (h:Al (NmO H T) ns names):(HR names ns).length=names.length:=by
 induction h with
 | nil=>rfl
 | @cons a m ns names h1 _ ih=>show (_ :: HR names ns).length=_;rw [List.length_cons,List.length_cons,ih]
theorem WJ.named (j:WJ X H T s A M) (w:WT H T) (h0:s≠0) {z:Str}{v:Int×Int}{t:Addr} (ht:NmO H T t (z,v)):∃ ns',Stp s H (upd H A.nm (.dK (putK (HR M.names A.ns) (Sum.inr z) (.ref t)))) T T∧
  WJ X (upd H A.nm (.dK (putK (HR M.names A.ns) (Sum.inr z) (.ref t)))) T s { A with ns:=ns' } { M with names:=mR M.names z v }:=by
 obtain ⟨tm,om,nms⟩:=j.jn;obtain ⟨⟨n1,e1,e2⟩,e3,e4,e5⟩:=Zne ht nms;have f:yj s (·=6) H (upd H A.nm (.dK (putK (HR M.names A.ns) (Sum.inr z) (.ref t)))) T T:=yj.Cm tm;have mvn:∀ {ns:List Addr}{names:List (Str×(Int×Int))},Al (NmO H T) ns names→Al (NmO (upd H A.nm (.dK (putK (HR M.names A.ns) (Sum.inr z) (.ref t)))) T) ns names:=fun h=>h.mono fun t m ⟨z1,z2⟩=>⟨z1,pF h0 tm _ _ z2 z1⟩;have go:∀ ns',putK (HR M.names A.ns) (Sum.inr z) (.ref t)=HR (mR M.names z v) ns'→Al (NmO H T) ns' (mR M.names z v)→WJ X (upd H A.nm (.dK (putK (HR M.names A.ns) (Sum.inr z) (.ref t)))) T s { A with ns:=ns' } { M with names:=mR M.names z v }:=fun ns' g1 g2=>by
  refine ⟨?_,?_,⟨tm,by show upd _ A.nm _ A.nm=_;rw [aq,g1],mvn g2⟩,?_,j.jd.mv f fun _ _ _=>by omega,j.jc.mv f fun _ _=>by omega⟩
  ·obtain ⟨b1,b2,b3,b4,b5,b6,b7,b8⟩:=j.jb.mv f (pF h0 tm) (by omega) (by omega);exact ⟨b1,b2,b3,b4,b5,b6,b7,b8⟩
  ·obtain ⟨b1,b2,b3,b4⟩:=j.jh.mv f (by omega) (by omega);exact ⟨b1,b2,b3,b4⟩
  ·obtain ⟨b1,b2,b3,b4⟩:=j.js.mv f (by omega) (by omega);exact ⟨b1,b2,b3,b4⟩
 by_cases ha:(M.names.any fun m=>decide (m.1=z))=true
 ·refine ⟨n1,Stp.upd w om (by rw [tm]),go n1 ?_ ?_⟩
  ·unfold putK mR;rw [if_pos (e3.trans ha),if_pos ha,e1]
  ·unfold mR;rw [if_pos ha];exact e2
 ·refine ⟨A.ns ++ [t],Stp.upd w om (by rw [tm]),go _ ?_ ?_⟩
  ·unfold putK mR;rw [if_neg (fun y=>ha (e3.symm.trans y)),if_neg ha,e4]
  ·unfold mR;rw [if_neg ha];exact e5
end
section
variable {K:aG}{X:Cs}{H:Hp}{Q:VK}{E:XK}{n:St→Hp→Prop}{bk ct:St→Hp→Prop}{rf:Rf→Addr}{CE CF CN:Addr}
theorem Zf5 {wo dd:Addr} (T:vB K X) (hE':rf .empty=CE) (hF':rf .jz=CF) (q:zX X rf R0 wo dd H Q E):GZ K (cz X) (mq X CE CF) (bU X) E ⟨n,Q,bk,ct⟩ [some (.ref wo),some (.ref dd),none,none,none,none] H:=by
 obtain ⟨Tg,s,A,M,_,⟨h,sl,t,f,rfl⟩,w,s0,j,rfl,od,⟨o1,o2⟩,ok,hc,hg,ht,hn,hE,hQ⟩:=q;obtain ⟨p,m,hp,hm,hs,hl,hd⟩:=j.handOf o1;unfold GZ;walk_at "ev";refine ⟨dd,_,1,_,rfl,rfl,j4.of od,rfl,?_⟩;walk_at "ev";refine ⟨dd,_,3,_,rfl,rfl,j4.of od,rfl,?_⟩;walk_at "ev";refine ⟨dd,_,4,_,rfl,rfl,j4.of od,rfl,?_⟩;walk_at "ev";refine ⟨_,_,_,_,rfl,Tg,s,A,M,h,t,f,j,rfl,rfl,rfl,rfl,o2,fun e=>?_,fun i c e0 h0 ec hf=>?_,fun i c pc e0 h0 ec hpc ce hf=>?_⟩
 ·rw [← hE'];exact hE .empty (Zf9 e) H (bN.refl _)
 ·rw [← hF'];exact hE .jz (Zii e0 ec hf) H (bN.refl _)
 ·have hv:=bO hf;walk_at "ev";refine bK (cF.of ce.o2) (aX (v:=oV (c.fl[f])) (by rw [bx,hv];rfl)) ?_;walk_at "ev";refine ⟨_,_,rfl,Tg,s,A,M,h,p,j,rfl,rfl,hp,?_⟩;walk_at "ev";refine ⟨dd,_,2,_,rfl,rfl,j4.of od,rfl,?_⟩;refine ⟨p.2,_,_,sl,rfl,rfl,hd.o2,lu (by rw [bh];exact hl),?_⟩;obtain ⟨st1,j1⟩:=j.slot w s0 (k:=sl) (x:=c.fl[f]) hp hm;rw [pK hm] at j1;generalize upd H p.2 (.lst ((m.2.map oV).set sl (oV c.fl[f])))=H1 at st1 j1 ⊢;obtain ⟨d1,ow⟩:=j1.jb.ow;walk_at "ev";refine aR ow T.cW T.X7 cB ?_;walk_at "ev";refine ⟨_,_,rfl,c.fl[f],rfl,Tg,s,A,_,j1,rfl,?_⟩;rw [kY];walk_at "ev";refine ⟨bu (by simp),fun l hl=>⟨bu (by simp),fun a ha=>?_⟩⟩;exact ev0 hQ (d:=.get h sl t f) (Zih e0 ec hv) rfl st1 j1 rfl hl ha
theorem Zf4 {wo dd:Addr} (T:vB K X) (hE':rf .empty=CE) (hF':rf .jz=CF) (q:zX X rf RZ wo dd H Q E):GX K (cz X) (mq X CE CF) (jO X) (bU X) (oF X) (xR X) E ⟨n,Q,bk,ct⟩ [some (.ref wo),some (.ref dd),none,none,none,none,none,none] H:=by
 obtain ⟨Tg,s,A,M,_,⟨h,t,f,sl,rfl⟩,w,s0,j,rfl,od,⟨o2,o1⟩,ok,hc,hg,ht,hn,hE,hQ⟩:=q;obtain ⟨p,m,hp,hm,hs,hl,hd⟩:=j.handOf o1;unfold GX;walk_at "ev";refine ⟨dd,_,1,_,rfl,rfl,j4.of od,rfl,?_⟩;walk_at "ev";refine ⟨dd,_,3,_,rfl,rfl,j4.of od,rfl,?_⟩;walk_at "ev";refine ⟨dd,_,2,_,rfl,rfl,j4.of od,rfl,?_⟩;walk_at "ev";refine ⟨_,_,_,_,rfl,Tg,s,A,M,h,t,f,j,rfl,rfl,rfl,rfl,o2,fun e=>?_,fun i c e0 h0 ec hf=>?_,fun i c pc e0 h0 ec hpc ce hf=>?_⟩
 ·rw [← hE'];exact hE .empty (Zf7 e) H (bN.refl _)
 ·rw [← hF'];exact hE .jz (Zig e0 ec hf) H (bN.refl _)
 ·have hv:=bO hf;walk_at "ev";refine bK (cF.of ce.o2) (aX (v:=oV (c.fl[f])) (by rw [bx,hv];rfl)) ?_;walk_at "ev";refine ⟨_,_,rfl,Tg,s,A,M,h,p,j,rfl,rfl,hp,?_⟩;walk_at "ev";refine ⟨dd,_,4,_,rfl,rfl,j4.of od,rfl,?_⟩;refine bK (cF.of hd.o2) (aX (v:=oV (aB M h sl)) (by rw [bx,hs];rfl)) ?_;walk_at "ev";refine ⟨pc.2,_,_,f,rfl,rfl,ce.o2,lu (by rw [bh];exact hf),?_⟩;obtain ⟨st1,j1⟩:=j.field w s0 (k:=f) (x:=aB M h sl) hpc ce;have j1:WJ X _ Tg s A (setCell M i { c with fl:=c.fl.set f (aB M h sl) }):=j1;generalize upd H pc.2 (.lst ((c.fl.map oV).set f (oV (aB M h sl))))=H1 at st1 j1 ⊢;walk_at "ev";refine ⟨_,_,rfl,Tg,s,A,_,j1,rfl,ht,fun l1 hl1=>?_⟩;rw [show old? (setCell M i { c with fl:=c.fl.set f (aB M h sl) })=old? M from rfl,Zhl];have s1:=aN hl1 (.lst ((if old? M=true then [c.fl[f]] else []).map oV));have g1:upd H1 l1 (.lst ((if old? M=true then [c.fl[f]] else []).map oV)) l1=some (.lst ((if old? M=true then [c.fl[f]] else []).map oV)):=aq;generalize upd H1 l1 (.lst ((if old? M=true then [c.fl[f]] else []).map oV))=H2 at s1 g1 ⊢;walk_at "ev";refine ⟨_,_,_,rfl,Tg,s,A,_,h,j1.same s1,rfl,ht,rfl,fun l2 hl2=>?_⟩;rw [show (jT (setCell M i { c with fl:=c.fl.set f (aB M h sl) }) && !bM (setCell M i { c with fl:=c.fl.set f (aB M h sl) }) h)=(jT M && !bM M h) from rfl,Zhl];have s2:=aN hl2 (.lst ((if (jT M && !bM M h)=true then [aB M h sl] else []).map oV));have g2:upd H2 l2 (.lst ((if (jT M && !bM M h)=true then [aB M h sl] else []).map oV)) l2=some (.lst ((if (jT M && !bM M h)=true then [aB M h sl] else []).map oV)):=aq;generalize upd H2 l2 (.lst ((if (jT M && !bM M h)=true then [aB M h sl] else []).map oV))=H3 at s2 g2 ⊢;walk_at "ev";refine ⟨l1,l2,_,_,rfl,rfl,s2 _ _ g1,g2,?_,fun l3 hl3=>?_⟩
  ·refine bu ?_;cases old? M<;>cases (jT M && !bM M h)<;>simp
  rw [← List.map_append];have s3:=aN hl3 (.lst (((if old? M=true then [c.fl[f]] else []) ++ if (jT M && !bM M h)=true then [aB M h sl] else []).map oV));have g3:upd H3 l3 (.lst (((if old? M=true then [c.fl[f]] else []) ++ if (jT M && !bM M h)=true then [aB M h sl] else []).map oV)) l3=some (.lst ((putL M h sl c.fl[f]).map oV)):=aq;generalize upd H3 l3 (.lst (((if old? M=true then [c.fl[f]] else []) ++ if (jT M && !bM M h)=true then [aB M h sl] else []).map oV))=H4 at s3 g3 ⊢;have s14:=s1.trans (s2.trans s3);walk_at "ev";refine ⟨_,_,rfl,putL M h sl c.fl[f],Tg,s,A,_,st1.wt.same s14,s0,j1.same s14,rfl,g3,(st1.wt.same (s1.trans s2)) _ hl3,?_,hg,fun H5 T5 l5 Zn j5 g5 nl5=>?_⟩
  ·unfold putL;cases old? M<;>cases (jT M && !bM M h)<;>simp
  obtain ⟨d1,ow⟩:=j5.jb.ow;walk_at "ev";refine aR ow T.cW T.X7 cB ?_;walk_at "ev";refine ⟨_,_,rfl,c.fl[f],rfl,T5,s,A,_,j5,rfl,?_⟩;rw [xH,Jz (c':={ c with fl:=c.fl.set f (aB M h sl) }) ec rfl];walk_at "ev";refine ⟨bu (by simp),fun a ha=>?_⟩;exact ev1 (Stp.free st1 (s14.free nl5)) hQ (d:=.put h t f sl) (Zif e0 ec hv) (st1.trans ((Stp.same st1.wt s14).trans Zn)) j5 rfl g5 ha
theorem YK {wo dd:Addr} (T:vB K X) (hE':rf .empty=CE) (q:zX X rf z7 wo dd H Q E):yS K (jm X CE) E ⟨n,Q,bk,ct⟩ [some (.ref wo),some (.ref dd),none,none] H:=by
 obtain ⟨Tg,s,A,M,_,⟨h,t,load,rfl⟩,w,s0,j,rfl,od,o1,ok,hc,hg,ht,hn,hE,hQ⟩:=q;unfold yS;walk_at "ev";refine ⟨dd,_,1,_,rfl,rfl,j4.of od,rfl,?_⟩;walk_at "ev";refine ⟨dd,_,2,_,rfl,rfl,j4.of od,rfl,?_⟩;walk_at "ev";refine ⟨_,_,_,rfl,Tg,s,A,M,h,t,j,rfl,rfl,rfl,o1,fun e=>?_,fun i c pc e0 h0 ec hpc ce=>?_⟩
 ·rw [← hE'];exact hE .empty (YL e) H (bN.refl _)
 ·obtain ⟨t1,t2,⟨dx,oo1⟩,oo2⟩:=id ce;walk_at "ev";refine aR oo1 T.c.dz T.c.iM vz ?_;walk_at "ev";refine ⟨dd,_,3,_,rfl,rfl,j4.of od,rfl,?_⟩;walk_at "ev";refine ⟨pc.1,X.C,dx,_,rfl,oo1,T.c.dz,T.c.iM,by show 5 < 1000;decide,?_⟩;rw [Od];obtain ⟨st1,j1⟩:=j.cell w s0 (dx:=dx) (tone:=c.tone) (load:=load) hpc ce;generalize upd H pc.1 (.ins X.C dx (mV c.birth c.bulk c.tone load pc.2))=H1 at st1 j1 ⊢;walk_at "ev";refine ⟨bu (by simp),fun l hl=>⟨bu (by simp),fun a ha=>?_⟩⟩;exact ev0 hQ (d:=.write h t load) (Zbx e0 ec) rfl st1 j1 rfl hl ha
theorem Zbr {wo dd:Addr} (T:vB K X) (hE':rf .empty=CE) (q:zX X rf Il wo dd H Q E):BL K (jm X CE) E ⟨n,Q,bk,ct⟩ [some (.ref wo),some (.ref dd),none] H:=by
 obtain ⟨Tg,s,A,M,_,⟨h,t,rfl⟩,w,s0,j,rfl,od,o1,ok,hc,hg,ht,hn,hE,hQ⟩:=q;unfold BL;walk_at "ev";refine ⟨dd,_,1,_,rfl,rfl,j4.of od,rfl,?_⟩;walk_at "ev";refine ⟨dd,_,2,_,rfl,rfl,j4.of od,rfl,?_⟩;walk_at "ev";refine ⟨_,_,_,rfl,Tg,s,A,M,h,t,j,rfl,rfl,rfl,o1,fun e=>?_,fun i c pc e0 h0 ec hpc ce=>?_⟩
 ·rw [← hE'];exact hE .empty (Zby e) H (bN.refl _)
 ·obtain ⟨t1,t2,⟨dx,oo1⟩,oo2⟩:=id ce;walk_at "ev";refine aR oo1 T.c.dz T.c.iM vz ?_;walk_at "ev";refine ⟨bu (by simp),fun l hl=>⟨bu (by simp),fun a ha=>?_⟩⟩;exact ev0 hQ (d:=.read h t) (Zf6 e0 ec) rfl (Stp.refl w) j rfl hl ha
theorem Zbs {wo dd:Addr} (T:vB K X) (hE':rf .empty=CE) (q:zX X rf isName wo dd H Q E):BP K (jm X CE) (bU X) E ⟨n,Q,bk,ct⟩ [some (.ref wo),some (.ref dd),none,none,none] H:=by
 obtain ⟨Tg,s,A,M,_,⟨h,t,z,rfl⟩,w,s0,j,rfl,od,o1,ok,hc,hg,ht,hn,hE,hQ⟩:=q;obtain ⟨p,m,hp,hm,hs,hl,hd⟩:=j.handOf o1;unfold BP;walk_at "ev";refine ⟨dd,_,1,_,rfl,rfl,j4.of od,rfl,?_⟩;walk_at "ev";refine ⟨dd,_,2,_,rfl,rfl,j4.of od,rfl,?_⟩;walk_at "ev";refine ⟨_,_,_,rfl,Tg,s,A,M,h,t,j,rfl,rfl,rfl,o1,fun e=>?_,fun i c pc e0 h0 ec hpc ce=>?_⟩
 ·rw [← hE'];exact hE .empty (Zbz e) H (bN.refl _)
 ·obtain ⟨t1,t2,⟨dx,oo1⟩,oo2⟩:=id ce;walk_at "ev";refine aR oo1 T.c.dz T.c.eX jX ?_;walk_at "ev";refine ⟨_,_,rfl,Tg,s,A,M,h,p,j,rfl,rfl,hp,?_⟩;walk_at "ev";refine bK (cF.of hd.o2) (aX (v:=oV (aB M h t)) (by rw [bx,hs];rfl)) ?_;rw [e0];walk_at "ev";refine ⟨bu (by simp),fun tp htp=>?_⟩;have s1:=aN htp (.tup [oV (some i),.int c.birth]);have g1:upd H tp (.tup [oV (some i),.int c.birth]) tp=some (.tup [.int i,.int c.birth]):=aq;generalize upd H tp (.tup [oV (some i),.int c.birth])=H1 at s1 g1 ⊢;have j1:=j.same s1;have w1:=w.same s1;obtain ⟨d1,ow⟩:=j1.jb.ow;walk_at "ev";refine aR ow T.cW T.nWn nj ?_;walk_at "ev";refine ⟨dd,_,3,_,rfl,rfl,j4.of (s1 _ _ od),rfl,?_⟩;refine ⟨_,_,rfl,Zre j1.jn.om (by rw [Znf j1.jn.nms];exact Nat.lt_of_le_of_lt hn (by decide)),?_⟩;obtain ⟨ns',st2,j2⟩:=j1.named w1 s0 (z:=z) (v:=(i,c.birth)) (t:=tp) ⟨w _ htp,g1⟩;generalize upd H1 A.nm (.dK (putK (HR M.names A.ns) (Sum.inr z) (.ref tp)))=H2 at st2 j2 ⊢;walk_at "ev";refine ⟨bu (by simp),fun l hl=>⟨bu (by simp),fun a ha=>?_⟩⟩;exact ev0 hQ (d:=.name h t z) (Zf8 e0 ec) rfl ((Stp.same w s1).trans st2) j2 rfl hl ha
theorem Zbq {wo dd:Addr} (T:vB K X) (hN':rf .vg=CN) (q:zX X rf Ik wo dd H Q E):BK K (cz X) (jO X) (qC X CN) (bU X) E ⟨n,Q,bk,ct⟩ [some (.ref wo),some (.ref dd),none,none] H:=by
 obtain ⟨Tg,s,A,M,_,⟨h,sl,z,rfl⟩,w,s0,j,rfl,od,o1,ok,hc,hg,ht,hn,hE,hQ⟩:=q;obtain ⟨p,m,hp,hm,hs,hl,hd⟩:=j.handOf o1;unfold BK;walk_at "ev";refine ⟨dd,_,3,_,rfl,rfl,j4.of od,rfl,?_⟩;walk_at "ev";refine ⟨_,_,rfl,Tg,s,A,M,j,rfl,fun e=>?_,fun pl b e=>?_⟩
 ·rw [← hN'];refine hE .vg ?_ H (bN.refl _);show (match jW M.names z with | none=>_ | some (p,b)=>_)=_;rw [e]
 ·let x:Option Int:=if m8 M pl b=true then none else some pl
  have ex:(if m8 M pl b=true then V.non else .int pl)=oV x:=by
   show _=oV (if _ then _ else _);cases m8 M pl b<;>rfl
  rw [ex];have he:qb M (.seek h sl z)=.ok (⟨"sought",d8 M x,(bA (setSlot M h sl x) [x]).1⟩,(bA (setSlot M h sl x) [x]).2):=by
   show (match jW M.names z with | none=>_ | some (p,b)=>_)=_;rw [e];dsimp only;cases hgn:m8 M pl b with
   | true=>
    have:x=none:=by show (if _ then _ else _)=_;rw [hgn];rfl
    rw [this];rfl
   | false=>
    have hx:x=some pl:=by show (if _ then _ else _)=_;rw [hgn];rfl
    have:d8 M (some pl)=some b:=by
     unfold m8 at hgn;show (cellAt M pl).map _=_;cases hcc:cellAt M pl with
     | none=>rw [hcc] at hgn;cases hgn
     | some c=>
      rw [hcc] at hgn;dsimp only at hgn
      by_cases y:c.birth=b
      ·rw [← y];rfl
      ·rw [if_neg y] at hgn;cases hgn
    rw [hx,this];rfl
  clear_value x;walk_at "ev";refine ⟨dd,_,1,_,rfl,rfl,j4.of od,rfl,?_⟩;walk_at "ev";refine ⟨_,_,rfl,Tg,s,A,M,h,p,j,rfl,rfl,hp,?_⟩;walk_at "ev";refine ⟨dd,_,2,_,rfl,rfl,j4.of od,rfl,?_⟩;refine ⟨p.2,_,_,sl,rfl,rfl,hd.o2,lu (by rw [bh];exact hl),?_⟩;obtain ⟨st1,j1⟩:=j.slot w s0 (k:=sl) (x:=x) hp hm;rw [pK hm] at j1;generalize upd H p.2 (.lst ((m.2.map oV).set sl (oV x)))=H1 at st1 j1 ⊢;walk_at "ev";refine ⟨bu (by simp),fun l1 hl1=>?_⟩;have s1:=aN hl1 (.lst [oV x]);have g1:upd H1 l1 (.lst [oV x]) l1=some (.lst ([x].map oV)):=aq;generalize upd H1 l1 (.lst [oV x])=H2 at s1 g1 ⊢;walk_at "ev";refine ⟨_,_,rfl,[x],Tg,s,A,_,st1.wt.same s1,s0,j1.same s1,rfl,g1,st1.wt _ hl1,by simp,hg,fun H3 T3 l3 st3 j3 g3 nl3=>?_⟩;obtain ⟨d1,ow⟩:=j3.jb.ow;walk_at "ev";refine aR ow T.cW T.X7 cB ?_;walk_at "ev";refine ⟨_,_,rfl,x,rfl,T3,s,A,_,j3,rfl,?_⟩;rw [xH,kY];walk_at "ev";refine ⟨bu (by simp),fun a ha=>?_⟩;exact ev1 (Stp.free st1 (s1.free nl3)) hQ (d:=.seek h sl z) he (st1.trans ((Stp.same st1.wt s1).trans st3)) j3 rfl g3 ha
end
section
variable {K:aG}{X:Cs}{H:Hp}{Q:VK}{E:XK}{n:St→Hp→Prop}{bk ct:St→Hp→Prop}{rf:Rf→Addr}{f1 f2 f3 f4 f5 f6 f7 f8 f9 f10:Addr}
theorem Zrf {wo dd:Addr} (T:vB K X) (q:zX X rf (fun _=>True) wo dd H Q E):
  Zfv K f1 f2 f3 f4 f5 f6 f7 f8 f9 f10 (bY X rf Iu) (bY X rf Ir) (bY X rf R0) (bY X rf Ip) (bY X rf zM) (bY X rf isName) (bY X rf RZ) (bY X rf Il) (bY X rf Ik) (bY X rf z7) E ⟨n,Q,bk,ct⟩ [some (.ref wo),some (.ref dd),none] H:=by
 obtain ⟨Tg,s,A,M,d,_,w,s0,j,rfl,od,r⟩:=q;unfold Zfv;cases d with
 | make h s' many bulk=>
  walk_at "ev";refine ⟨dd,_,0,_,rfl,rfl,j4.of od,rfl,?_⟩;refine ⟨_,f5,rfl,rfl,?_⟩;walk_at "ev";refine qx (bY X rf zM) rfl (by simp) ?_;walk_at "ev";exact ⟨_,_,rfl,Tg,s,A,M,_,⟨_,_,_,_,rfl⟩,w,s0,j,rfl,od,r⟩
 | get h s' t f=>
  walk_at "ev";refine ⟨dd,_,0,_,rfl,rfl,j4.of od,rfl,?_⟩;refine ⟨_,f3,rfl,rfl,?_⟩;walk_at "ev";refine qx (bY X rf R0) rfl (by simp) ?_;walk_at "ev";exact ⟨_,_,rfl,Tg,s,A,M,_,⟨_,_,_,_,rfl⟩,w,s0,j,rfl,od,r⟩
 | put h t f s'=>
  walk_at "ev";refine ⟨dd,_,0,_,rfl,rfl,j4.of od,rfl,?_⟩;refine ⟨_,f7,rfl,rfl,?_⟩;walk_at "ev";refine qx (bY X rf RZ) rfl (by simp) ?_;walk_at "ev";exact ⟨_,_,rfl,Tg,s,A,M,_,⟨_,_,_,_,rfl⟩,w,s0,j,rfl,od,r⟩
 | copy h s' t=>
  walk_at "ev";refine ⟨dd,_,0,_,rfl,rfl,j4.of od,rfl,?_⟩;refine ⟨_,f1,rfl,rfl,?_⟩;walk_at "ev";refine qx (bY X rf Iu) rfl (by simp) ?_;walk_at "ev";exact ⟨_,_,rfl,Tg,s,A,M,_,⟨_,_,_,rfl⟩,w,s0,j,rfl,od,r⟩
 | drop h s'=>
  walk_at "ev";refine ⟨dd,_,0,_,rfl,rfl,j4.of od,rfl,?_⟩;refine ⟨_,f2,rfl,rfl,?_⟩;walk_at "ev";refine qx (bY X rf Ir) rfl (by simp) ?_;walk_at "ev";exact ⟨_,_,rfl,Tg,s,A,M,_,⟨_,_,rfl⟩,w,s0,j,rfl,od,r⟩
 | give h s' g t=>
  walk_at "ev";refine ⟨dd,_,0,_,rfl,rfl,j4.of od,rfl,?_⟩;refine ⟨_,f4,rfl,rfl,?_⟩;walk_at "ev";refine qx (bY X rf Ip) rfl (by simp) ?_;walk_at "ev";exact ⟨_,_,rfl,Tg,s,A,M,_,⟨_,_,_,_,rfl⟩,w,s0,j,rfl,od,r⟩
 | write h t load=>
  walk_at "ev";refine ⟨dd,_,0,_,rfl,rfl,j4.of od,rfl,?_⟩;refine ⟨_,f10,rfl,rfl,?_⟩;walk_at "ev";refine qx (bY X rf z7) rfl (by simp) ?_;walk_at "ev";exact ⟨_,_,rfl,Tg,s,A,M,_,⟨_,_,_,rfl⟩,w,s0,j,rfl,od,r⟩
 | read h t=>
  walk_at "ev";refine ⟨dd,_,0,_,rfl,rfl,j4.of od,rfl,?_⟩;refine ⟨_,f8,rfl,rfl,?_⟩;walk_at "ev";refine qx (bY X rf Il) rfl (by simp) ?_;walk_at "ev";exact ⟨_,_,rfl,Tg,s,A,M,_,⟨_,_,rfl⟩,w,s0,j,rfl,od,r⟩
 | name h t z=>
  walk_at "ev";refine ⟨dd,_,0,_,rfl,rfl,j4.of od,rfl,?_⟩;refine ⟨_,f6,rfl,rfl,?_⟩;walk_at "ev";refine qx (bY X rf isName) rfl (by simp) ?_;walk_at "ev";exact ⟨_,_,rfl,Tg,s,A,M,_,⟨_,_,_,rfl⟩,w,s0,j,rfl,od,r⟩
 | seek h s' z=>
  walk_at "ev";refine ⟨dd,_,0,_,rfl,rfl,j4.of od,rfl,?_⟩;refine ⟨_,f9,rfl,rfl,?_⟩;walk_at "ev";refine qx (bY X rf Ik) rfl (by simp) ?_;walk_at "ev";exact ⟨_,_,rfl,Tg,s,A,M,_,⟨_,_,_,rfl⟩,w,s0,j,rfl,od,r⟩
end
def mC (X:Cs):Sp:=fun vs H Q E=>∃ hp sl,vs=[.ref hp,.ref sl]∧∃ T s A M,∃ xs:List (Option Int),WJ X H T s A M∧A.hp=hp∧H sl=some (.lst (xs.map oV))∧xs.length≤1000∧∀ l,H l=none→Q (.ref l) (upd H l (.lst ((xs.map (d8 M)).map oV)))
def Ff (X:Cs):Sp:=fun vs H Q E=>∃ wo,vs=[.ref wo]∧∃ T s A M,WJ X H T s A M∧A.wo=wo∧M.cells.length≤1000∧(∀ m∈M.hands,m.2.length≤1000)∧∀ (l:Addr) (ls:List Addr) H',bN H H'→H' l=some (.lst (ls.map V.ref))→ls.length=(rowsOf M).length→(∀ (j:Nat) r x,ls[j]? =some r→(rowsOf M)[j]? =some x→H' r=some (.lst (x.map oV)))→Q (.ref l) H'
section
variable {K:aG}{X:Cs}{H:Hp}{Q:VK}{E:XK}{n:St→Hp→Prop}{bk ct:St→Hp→Prop}
theorem Wq {hp sl:Addr} (T:vB K X) (q:∃ T s A M,∃ xs:List (Option Int),WJ X H T s A M∧A.hp=hp∧H sl=some (.lst (xs.map oV))∧xs.length≤1000∧∀ l,H l=none→Q (.ref l) (upd H l (.lst ((xs.map (d8 M)).map oV)))):
  wN K (cz X) ⟨n,Q,bk,ct⟩ [some (.ref hp),some (.ref sl)] H:=by
 obtain ⟨Tg,s,A,M,xs,j,rfl,o,hx,q⟩:=q;unfold wN;walk_at "ev";refine Nu ?_;walk_at "ev";refine ⟨_,rfl,⟨_,cF.of o⟩,?_⟩;refine Zkr (cF.of o) (fun i=>(xs[i]?).map fun x=>oV (d8 M x)) (by rw [bh];omega) (fun i x hx=>?_) ?_
 ·rw [bx] at hx;obtain ⟨y,hy,rfl⟩:=Option.map_eq_some_iff.mp hx;refine ⟨fun q hq=>?_,fun z q hz hq=>?_⟩
  ·rw [hy] at hq;exact zP hq
  ·rw [hy] at hz;cases hz;walk_at "caps";walk_at "ev";exact ⟨_,_,rfl,y,rfl,Tg,s,A,M,j,rfl,hq⟩
 ·intro p hp;have:(List.range (xs.map oV).length).filterMap (fun i=>(xs[i]?).map fun x=>oV (d8 M x))=(xs.map (d8 M)).map oV:=by
   rw [bh,List.map_map];clear q o hx
   induction xs with
   | nil=>rfl
   | cons a l ih=>
    rw [List.length_cons,List.range_succ_eq_map,List.filterMap_cons];simp only [List.getElem?_cons_zero,Option.map_some,List.map_cons,List.filterMap_map];congr 1
  rw [this];exact q p hp
theorem Oh {wo:Addr} (T:vB K X) (q:∃ T s A M,WJ X H T s A M∧A.wo=wo∧M.cells.length≤1000∧(∀ m∈M.hands,m.2.length≤1000)∧∀ (l:Addr) (ls:List Addr) H',bN H H'→H' l=some (.lst (ls.map V.ref))→ls.length=(rowsOf M).length→(∀ (j:Nat) r x,ls[j]? =some r→(rowsOf M)[j]? =some x→H' r=some (.lst (x.map oV)))→Q (.ref l) H'):
  tH K (mC X) ⟨n,Q,bk,ct⟩ [some (.ref wo)] H:=by
 obtain ⟨Tg,s,A,M,j,rfl,hc,hh,q⟩:=q;obtain ⟨d1,ow⟩:=j.jb.ow;have l5:=j.jd.l5;unfold tH;walk_at "ev";refine Nu ?_;walk_at "ev";refine aR ow T.cW T.nWd lC ?_;refine ⟨_,rfl,⟨_,cF.of j.jb.on⟩,?_⟩;refine Ng (cF.of j.jb.on) (by rw [bh];omega) (fun i r Hx=>∃ x,(rowsOf M)[i]? =some x∧Hx r=some (.lst (x.map oV))) (fun _ _ _ _ ⟨x,e,z⟩ s=>⟨x,e,s _ _ z⟩) (fun _ _ _ ⟨_,_,z⟩=>⟨_,z⟩) (fun x H1 q hq=>zP hq) (fun i x H1 hi s1 q' hq=>?_) ?_
 ·rw [bx] at hi;obtain ⟨p,hp,rfl⟩:=Option.map_eq_some_iff.mp hi;have j1:=j.same s1;obtain ⟨m,hm,hd⟩:=j1.hand hp;obtain ⟨dx,o1⟩:=hd.o1;obtain ⟨d2,ow1⟩:=j1.jb.ow;walk_at "caps";walk_at "ev";refine aR ow1 T.cW T.X7 cB ?_;walk_at "ev";refine aR o1 T.cD T.nDs zR ?_;walk_at "ev";refine ⟨_,_,rfl,Tg,s,A,M,m.2,j1,rfl,hd.o2,hh m (List.mem_of_getElem? hm),fun l hl=>?_⟩;exact hq l _ (aN hl _) hl ⟨_,by unfold rowsOf;rw [bx,hm];rfl,aq⟩
 ·intro rs H' s1 hl _ _ hr p hp;have s2:=aN hp (.lst (rs.map V.ref));refine q p rs _ (s1.trans s2) aq ?_ fun j' r x e1 e2=>?_
  ·rw [hl,bh];unfold rowsOf;rw [bh,j.jd.lh]
  ·obtain ⟨y,e3,z⟩:=hr j' r e1;rw [e2] at e3;cases e3;exact s2 _ _ z
end
def uG (CD:Addr):Sp:=fun vs H Q E=>∃ p nm many,vs=[.ref p,.str nm,.int many]∧∃ dx,H p=some (.ins CD dx [])∧0≤many∧many≤1000∧
 ∀ sa H',H sa=none→H' p=some (.ins CD dx (Yz nm sa))→H' sa=some (.lst (List.replicate many.toNat V.non))→(∀ b o,H b=some o→b≠p→H' b=some o)→Q .non H'
def pH (CS:Addr):Sp:=fun vs H Q E=>∃ p,vs=[.ref p]∧∃ dx,H p=some (.ins CS dx [])∧
 ∀ gr H',H gr=none→H' p=some (.ins CS dx (dY 0 "rest" gr 0 0 0 0 0 0 0 .non))→H' gr=some (.lst [])→(∀ b o,H b=some o→b≠p→H' b=some o)→Q .non H'
section
variable {K:aG}{X:Cs}{H:Hp}{Q:VK}{E:XK}{n:St→Hp→Prop}{bk ct:St→Hp→Prop}
theorem Jp {p:Addr}{nm:Str}{many:Int} (T:vB K X) (q:∃ dx,H p=some (.ins X.D dx [])∧0≤many∧many≤1000∧
 ∀ sa H',H sa=none→H' p=some (.ins X.D dx (Yz nm sa))→H' sa=some (.lst (List.replicate many.toNat V.non))→(∀ b o,H b=some o→b≠p→H' b=some o)→Q .non H'):
  pW K ⟨fun _ H'=>Q .non H',Q,bk,ct⟩ [some (.ref p),some (.str nm),some (.int many)] H:=by
 obtain ⟨dx,hp,h0,h1,h⟩:=q;unfold pW;walk_at "ev";refine ⟨p,X.D,dx,[],rfl,hp,T.cD,T.nDn,by decide,?_⟩;walk_at "ev";refine ⟨by decide,fun l0 hl0=>?_⟩;walk_at "ev";refine ⟨l0,many,_,rfl,rfl,aq,by omega,by omega,?_,fun fa hfa=>?_⟩
 ·show 1 * many.toNat≤sizeLine;exact bu (by omega)
 have npl:p≠l0:=aD aq hl0;have npf:p≠fa:=aD (by rw [aA npl];exact aq) hfa;have Zr0:H fa=none:=by
  by_cases z:fa=l0
  ·rw [z,aq] at hfa;cases hfa
  ·rw [aA z,aA (fun e=>npf e.symm)] at hfa;exact hfa
 have Ztm:H l0=none:=by rw [aA (fun e=>npl e.symm)] at hl0;exact hl0
 walk_at "ev";refine ⟨p,X.D,dx,_,rfl,by rw [aA npf,aA npl];exact aq,T.cD,T.nDs,by show 1 < 1000;decide,?_⟩;refine h fa _ Zr0 ?_ ?_ fun b o hb nb=>?_
 ·rw [aq,Zhw]
 ·rw [aA npf.symm,aq];congr 2;generalize many.toNat=k
  induction k with
  | zero=>rfl
  | succ k ih=>rw [List.replicate_succ,List.replicate_succ,List.flatten_cons,ih];rfl
 ·rw [aA nb,aA (aD hb Zr0),aA (aD hb Ztm),aA nb];exact hb
theorem Aq {p:Addr} (T:vB K X) (q:∃ dx,H p=some (.ins X.S dx [])∧
 ∀ gr H',H gr=none→H' p=some (.ins X.S dx (dY 0 "rest" gr 0 0 0 0 0 0 0 .non))→H' gr=some (.lst [])→(∀ b o,H b=some o→b≠p→H' b=some o)→Q .non H'):
  mX K ⟨fun _ H'=>Q .non H',Q,bk,ct⟩ [some (.ref p)] H:=by
 obtain ⟨dx,hp,h⟩:=q;unfold mX;walk_at "ev";refine ⟨p,X.S,dx,[],rfl,hp,T.cS,T.n1,by decide,?_⟩;walk_at "ev";refine ⟨p,X.S,dx,_,rfl,aq,T.cS,T.n2,by show 1 < 1000;decide,?_⟩;rw [eF];walk_at "ev";refine ⟨by decide,fun gr hgr=>?_⟩;have npg:p≠gr:=aD aq hgr;have Zhr:H gr=none:=by rw [aA npg.symm] at hgr;exact hgr
 walk_at "ev";refine ⟨p,X.S,dx,_,rfl,by rw [aA npg];exact aq,T.cS,T.n3,by show 2 < 1000;decide,?_⟩;walk_at "ev";refine ⟨p,X.S,dx,_,rfl,aq,T.cS,T.n4,by show 3 < 1000;decide,?_⟩;rw [eF];walk_at "ev";refine ⟨p,X.S,dx,_,rfl,aq,T.cS,T.n5,by show 4 < 1000;decide,?_⟩;rw [eF];walk_at "ev";refine ⟨p,X.S,dx,_,rfl,aq,T.cS,T.n6,by show 5 < 1000;decide,?_⟩;rw [eF];walk_at "ev";refine ⟨p,X.S,dx,_,rfl,aq,T.cS,T.n7,by show 6 < 1000;decide,?_⟩;rw [eF];walk_at "ev";refine ⟨p,X.S,dx,_,rfl,aq,T.cS,T.n8,by show 7 < 1000;decide,?_⟩;rw [eF];walk_at "ev";refine ⟨p,X.S,dx,_,rfl,aq,T.cS,T.n9,by show 8 < 1000;decide,?_⟩;rw [eF];walk_at "ev";refine ⟨p,X.S,dx,_,rfl,aq,T.cS,T.n10,by show 9 < 1000;decide,?_⟩;rw [eF];walk_at "ev";refine ⟨p,X.S,dx,_,rfl,aq,T.cS,T.n11,by show 10 < 1000;decide,?_⟩;rw [eF];refine h gr _ Zhr ?_ ?_ fun b o hb nb=>?_
 ·rw [aq,Zdf]
 ·rw [aA npg.symm,aq]
 ·rw [aA nb,aA (aD hb Zhr),aA nb];exact hb
end
def wd (w:Int):Str:=if w=0 then "first" else if w=1 then "each" else "last"
def tlS (t:Int):Str:=if t=0 then "" else if t=1 then " old" else if t=2 then " new" else " old new"
def words (w t:Int):Str:=wd w ++ tlS t
theorem Zdb {w t w' t':Int} (w0:0≤w) (w1:w < 3) (t0:0≤t) (t1:t < 4) (a0:0≤w') (a1:w' < 3) (b0:0≤t') (b1:t' < 4) (e:words w t=words w' t'):w=w'∧t=t':=by
 have key:∀ a∈[(0:Int),1,2],∀ b∈[(0:Int),1,2,3],∀ a'∈[(0:Int),1,2],∀ b'∈[(0:Int),1,2,3],words a b=words a' b'→a=a'∧b=b':=by decide +kernel
 exact key w (by simp;omega) t (by simp;omega) w' (by simp;omega) t' (by simp;omega) e
theorem Zfi (w:Int):(wd w).length≤5:=by
 unfold wd
 by_cases h:w=0
 ·rw [if_pos h];decide
 ·rw [if_neg h]
  by_cases h:w=1
  ·rw [if_pos h];decide
  ·rw [if_neg h];decide
structure KdO (X:Cs) (H:Hp) (ki lk:Addr) (w t:Int):Prop where
 ok:∃ dx,H ki=some (.ins X.K dx (Ej lk t))
 ol:∃ dx,(w=0∧H lk=some (.ins X.F dx []))∨(w=1∧H lk=some (.ins X.E dx []))∨(w=2∧H lk=some (.ins X.L dx []))
theorem KdO.same {X:Cs}{H H':Hp}{ki lk:Addr}{w t:Int} (k:KdO X H ki lk w t) (s:bN H H'):KdO X H' ki lk w t:=by
 obtain ⟨⟨d1,a⟩,⟨d2,b⟩⟩:=k;refine ⟨⟨d1,s _ _ a⟩,⟨d2,?_⟩⟩;rcases b with ⟨z,e⟩ | ⟨z,e⟩ | ⟨z,e⟩
 ·exact .inl ⟨z,s _ _ e⟩
 ·exact .inr (.inl ⟨z,s _ _ e⟩)
 ·exact .inr (.inr ⟨z,s _ _ e⟩)
def Ac (X:Cs):Sp:=fun vs H Q E=>∃ z,vs=[.str z]∧∃ w t,0≤w∧w < 3∧0≤t∧t < 4∧z=words w t∧∀ ki lk H',bN H H'→H ki=none→H lk=none→KdO X H' ki lk w t→Q (.ref ki) H'
def HS (room:Int) (hands:List (Str×Int)) (w t:Int):Wm:=⟨room,0,0,[],hands.map fun m=>(m.1,List.replicate m.2.toNat none),[],w,t,⟨0,"rest",[],0,0,0,0,0,0,0,.non⟩⟩
def rZ (X:Cs):Sp:=fun vs H Q E=>∃ p room ki hl0,vs=[.ref p,.int room,.ref ki,.ref hl0]∧∃ dx T s lk w t ts hands,H p=some (.ins X.W dx [])∧WT H T∧s≠0∧KdO X H ki lk w t∧T ki=(0,0)∧T lk=(0,0)∧ki≠p∧lk≠p∧H hl0=some (.lst (ts.map V.ref))∧
 Al (fun (t:Addr) (m:Str×Int)=>H t=some (.tup [.str m.1,.int m.2])∧0≤m.2∧m.2≤1000) ts hands∧hands.length≤30∧
 ∀ H' T' A,(∀ b o,H b=some o→b≠p→H' b=some o)→(∀ b o,H b=some o→b≠p→T' b=T b)→WT H' T'→A.wo=p→WJ X H' T' s A (HS room hands w t)→Q .non H'
def uC (CK:Addr):Sp:=fun vs H Q E=>∃ p l t,vs=[.ref p,.ref l,.int t]∧∃ dx,H p=some (.ins CK dx [])∧∀ H',H' p=some (.ins CK dx (Ej l t))→(∀ b o,H b=some o→b≠p→H' b=some o)→Q .non H'
def rG (v:V):Sp:=fun vs H Q E=>∃ a,vs=[.ref a]∧Q v H
def K1 (X:Cs):Sp:=fun vs H Q E=>∃ ki,vs=[.ref ki]∧∃ lk w t,KdO X H ki lk w t∧0≤t∧t < 4∧∀ H',bN H H'→Q (.str (words w t)) H'
section
variable {K:aG}{X:Cs}{H:Hp}{Q:VK}{E:XK}{n:St→Hp→Prop}{bk ct:St→Hp→Prop}
theorem Rg {a:Addr} (T:vB K X) (q:Q (.str "first") H):uX ⟨n,Q,bk,ct⟩ [some (.ref a)] H:=by
 unfold uX;walk_at "ev";exact q
theorem W9 {a:Addr} (T:vB K X) (q:Q (.str "each") H):w6 ⟨n,Q,bk,ct⟩ [some (.ref a)] H:=by
 unfold w6;walk_at "ev";exact q
theorem WX {a:Addr} (T:vB K X) (q:Q (.str "last") H):wX ⟨n,Q,bk,ct⟩ [some (.ref a)] H:=by
 unfold wX;walk_at "ev";exact q
theorem Jm {p l:Addr}{t:Int} (T:vB K X) (q:∃ dx,H p=some (.ins X.K dx [])∧∀ H',H' p=some (.ins X.K dx (Ej l t))→(∀ b o,H b=some o→b≠p→H' b=some o)→Q .non H'):
  pR K ⟨fun _ H'=>Q .non H',Q,bk,ct⟩ [some (.ref p),some (.ref l),some (.int t)] H:=by
 obtain ⟨dx,hp,h⟩:=q;unfold pR;walk_at "ev";refine ⟨p,X.K,dx,[],rfl,hp,T.cK,T.nKl,by decide,?_⟩;walk_at "ev";refine ⟨p,X.K,dx,_,rfl,aq,T.cK,T.nKt,by show 1 < 1000;decide,?_⟩;rw [eF];refine h _ ?_ fun b o hb nb=>?_
 ·rw [aq,Zhh]
 ·rw [aA nb];exact hb
theorem w0 {w:Int} (hw:w=0∨w=1∨w=2):words w 0=wd w:=by rcases hw with rfl | rfl | rfl<;>decide +kernel
theorem w3 {w:Int} (hw:w=0∨w=1∨w=2):words w 3=(wd w ++ " old") ++ " new":=by rcases hw with rfl | rfl | rfl<;>decide +kernel
theorem w3l {w:Int} (hw:w=0∨w=1∨w=2):(wd w ++ " old":Str).length≤20:=by rcases hw with rfl | rfl | rfl<;>decide +kernel
theorem Ln {p lk:Addr}{dx:Addr}{w t:Int} (hw:w=0∨w=1∨w=2) (T:vB K X) (hp:H p=some (.ins X.K dx (Ej lk t))) (t0:0≤t) (t1:t < 4) (q:Q (.str (words w t)) H):
  (aK (cZ (bR (aY (rNe) (aY (pJ fun i j=>.int (Builtin.bitAnd i j)) (cA K (aj 0) "tells") (tC (.int 1))) (tC (.int 0)))) (bB (aY (G.Dk) (aj 1) (tC (.str " old"))) (aO 1)) bT)
   (aK (cZ (bR (aY (rNe) (aY (pJ fun i j=>.int (Builtin.bitAnd i j)) (cA K (aj 0) "tells") (tC (.int 2))) (tC (.int 0)))) (bB (aY (G.Dk) (aj 1) (tC (.str " new"))) (aO 1)) bT)
   (bI (aj 1)))) ⟨n,Q,bk,ct⟩ [some (.ref p),some (.str (wd w))] H:=by
 have lw:=Zfi w;have ht:t=0∨t=1∨t=2∨t=3:=by omega
 walk_at "ev";refine aR hp T.cK T.nKt jt ?_;walk_at "ev";rcases ht with rfl | rfl | rfl | rfl
 ·refine vO (fun z=>absurd (by decide) z) (fun _=>?_);walk_at "ev";refine aR hp T.cK T.nKt jt ?_;walk_at "ev";refine vO (fun z=>absurd (by decide) z) (fun _=>?_);walk_at "ev";rw [w0 hw] at q;exact q
 ·refine vO (fun _=>?_) (fun z=>absurd z (by decide));walk_at "ev";refine Nv (bu (by have:(" old":Str).length=4:=rfl;omega)) ?_;walk_at "ev";refine aR hp T.cK T.nKt jt ?_;walk_at "ev";refine vO (fun z=>absurd (by decide) z) (fun _=>?_);walk_at "ev";exact q
 ·refine vO (fun z=>absurd (by decide) z) (fun _=>?_);walk_at "ev";refine aR hp T.cK T.nKt jt ?_;walk_at "ev";refine vO (fun _=>?_) (fun z=>absurd z (by decide));walk_at "ev";refine Nv (bu (by have:(" new":Str).length=4:=rfl;omega)) ?_;walk_at "ev";exact q
 ·refine vO (fun _=>?_) (fun z=>absurd z (by decide));walk_at "ev";refine Nv (bu (by have:(" old":Str).length=4:=rfl;omega)) ?_;walk_at "ev";refine aR hp T.cK T.nKt jt ?_;walk_at "ev";refine vO (fun _=>?_) (fun z=>absurd z (by decide));walk_at "ev";refine Nv (bu (by have:(" new":Str).length=4:=rfl;have:=w3l hw;omega)) ?_;walk_at "ev";rw [w3 hw] at q;exact q
theorem Q8 {p:Addr} (T:vB K X) (q:∃ lk w t,KdO X H p lk w t∧0≤t∧t < 4∧∀ H',bN H H'→Q (.str (words w t)) H'):
  uV K X.E X.F X.L (rG (.str "each")) (rG (.str "first")) (rG (.str "last")) ⟨n,Q,bk,ct⟩ [some (.ref p),none] H:=by
 obtain ⟨lk,w,t,⟨⟨dx,hp⟩,⟨dl,ol⟩⟩,t0,t1,h⟩:=q;have h:=h H (bN.refl _);unfold uV;refine Zct ?_;walk_at "es";rcases ol with ⟨rfl,o⟩ | ⟨rfl,o⟩ | ⟨rfl,o⟩
 ·refine Zcu ?_;walk_at "ev";refine aR hp T.cK T.nKl jj ?_;walk_at "es";refine ⟨lk,dl,_,rfl,o,rfl,?_⟩;walk_at "es";refine ⟨lk,rfl,?_⟩;walk_at "es";exact Ln (w:=0) (by decide) T hp t0 t1 h
 ·refine R1 (Zcu ?_);walk_at "ev";refine aR hp T.cK T.nKl jj ?_;walk_at "es";refine ⟨lk,dl,_,rfl,o,rfl,?_⟩;walk_at "es";refine ⟨lk,rfl,?_⟩;walk_at "es";exact Ln (w:=1) (by decide) T hp t0 t1 h
 ·refine R1 (R1 ?_);walk_at "ev";refine aR hp T.cK T.nKl jj ?_;walk_at "es";refine ⟨lk,dl,_,rfl,o,rfl,?_⟩;walk_at "es";refine ⟨lk,rfl,?_⟩;walk_at "es";exact Ln (w:=2) (by decide) T hp t0 t1 h
theorem Zb2 {z:Str} (T:vB K X) (q:∃ w t,0≤w∧w < 3∧0≤t∧t < 4∧z=words w t∧∀ ki lk H',bN H H'→H ki=none→H lk=none→KdO X H' ki lk w t→Q (.ref ki) H'):
  BJ K X.E X.F X.K X.L (uC X.K) (K1 X) ⟨n,Q,bk,ct⟩ [some (.str z),none,none,none] H:=by
 obtain ⟨wq,tq,wq0,wq1,tq0,tq1,ez,hq⟩:=q;unfold BJ;walk_at "ev";intro af df n1 m1 e1;have s1:bN H (upd (upd H df (.own af)) af (.ins X.F df [])):=fun b o hb=>by rw [aA (aD hb n1),aA (aD hb m1)];exact hb
 have o1:upd (upd H df (.own af)) af (.ins X.F df []) af=some (.ins X.F df []):=aq;generalize upd (upd H df (.own af)) af (.ins X.F df [])=H1 at s1 o1 ⊢;walk_at "ev";intro ae de n2 m2 e2;have s2:bN H1 (upd (upd H1 de (.own ae)) ae (.ins X.E de [])):=fun b o hb=>by rw [aA (aD hb n2),aA (aD hb m2)];exact hb
 have o2:upd (upd H1 de (.own ae)) ae (.ins X.E de []) ae=some (.ins X.E de []):=aq;generalize upd (upd H1 de (.own ae)) ae (.ins X.E de [])=H2 at s2 o2 ⊢;walk_at "ev";intro al dl n3 m3 e3;have s3:bN H2 (upd (upd H2 dl (.own al)) al (.ins X.L dl [])):=fun b o hb=>by rw [aA (aD hb n3),aA (aD hb m3)];exact hb
 have o3:upd (upd H2 dl (.own al)) al (.ins X.L dl []) al=some (.ins X.L dl []):=aq;generalize upd (upd H2 dl (.own al)) al (.ins X.L dl [])=H3 at s3 o3 ⊢;walk_at "ev";refine ⟨bu (by simp),fun lp hlp=>?_⟩;have s4:=aN hlp (.lst [.ref af,.ref ae,.ref al]);have g4:upd H3 lp (.lst [.ref af,.ref ae,.ref al]) lp=some (.lst [.ref af,.ref ae,.ref al]):=aq;generalize upd H3 lp (.lst [.ref af,.ref ae,.ref al])=H4 at s4 g4 ⊢;have of4:=s4 _ _ (s3 _ _ (s2 _ _ o1));have oe4:=s4 _ _ (s3 _ _ o2);have ol4:=s4 _ _ o3;have s04:=s1.trans (s2.trans (s3.trans s4));have lko:∀ {i:Nat}{x:V},([.ref af,.ref ae,.ref al]:List V)[i]? =some x→i < 3∧∃ lk,x=.ref lk∧H lk=none∧∃ dx,((i:Int)=0∧H4 lk=some (.ins X.F dx []))∨((i:Int)=1∧H4 lk=some (.ins X.E dx []))∨((i:Int)=2∧H4 lk=some (.ins X.L dx [])):=by
  intro i x hx
  match i,hx with
  | 0,hx=>cases hx;exact ⟨by omega,af,rfl,n1,df,.inl ⟨rfl,of4⟩⟩
  | 1,hx=>cases hx;exact ⟨by omega,ae,rfl,s1.free n2,de,.inr (.inl ⟨rfl,oe4⟩)⟩
  | 2,hx=>cases hx;exact ⟨by omega,al,rfl,(s1.trans s2).free n3,dl,.inr (.inr ⟨rfl,ol4⟩)⟩
  | k + 3,hx=>cases hx
 clear s1 s2 s3 s4 of4 oe4 ol4;refine ⟨lp,rfl,⟨_,cF.of g4⟩,forL [.ref af,.ref ae,.ref al] (fun i σ Hx=>∃ v1 v2 v3,σ=[some (.str z),v1,v2,v3]∧bN H4 Hx∧∀ (w:Nat) (t:Int),w < i→0≤t→t < 4→z≠words w t) ⟨_,_,_,rfl,bN.refl _,fun w t hw=>absurd hw (Nat.not_lt_zero _)⟩ (fun _ _ _ _ ⟨_,_,_,_,s,_⟩=>cF.of (s _ _ g4)) ?_ ?_⟩
 ·rintro i x σ H5 hi ⟨v1,v2,v3,rfl,s5,hn⟩;obtain ⟨hi3,lk,rfl,nlk,dlk,ol⟩:=lko hi;walk_at "ev";refine ⟨4,rfl,by omega,by omega,?_⟩;refine forR (fun k σ Hx=>∃ v2 v3,σ=[some (.str z),some (.ref lk),v2,v3]∧bN H4 Hx∧∀ (t:Int),0≤t→t < k→z≠words i t) ⟨_,_,rfl,s5,fun t h0 h1=>absurd h1 (by omega)⟩ ?_ ?_
  ·rintro k σ H6 hk ⟨v2,v3,rfl,s6,hn2⟩;have hk4:k < 4:=hk;have e0:(0:Int) + (k:Int)=k:=by omega
   rw [e0];walk_at "ev";intro p dx np ndx ned;refine ⟨p,lk,k,rfl,dx,aq,fun H7 k1 k2=>⟨rfl,?_⟩⟩;have s7:bN H6 H7:=fun b o hb=>by
    refine k2 b o ?_ (aD hb np);rw [aA (aD hb np),aA (aD hb ndx)];exact hb
   have kd:KdO X H7 p lk i k:=⟨⟨dx,k1⟩,⟨dlk,by
    rcases ol with ⟨e,o⟩ | ⟨e,o⟩ | ⟨e,o⟩
    ·exact .inl ⟨e,s7 _ _ (s6 _ _ o)⟩
    ·exact .inr (.inl ⟨e,s7 _ _ (s6 _ _ o)⟩)
    ·exact .inr (.inr ⟨e,s7 _ _ (s6 _ _ o)⟩)⟩⟩
   walk_at "ev";refine ⟨p,dx,_,rfl,k1,Ni,?_⟩;walk_at "ev";refine ⟨p,rfl,lk,i,k,kd,by omega,by omega,fun H8 s8=>?_⟩;walk_at "ev";refine sO (fun e=>?_) (fun e=>?_)
   ·walk_at "ev";obtain ⟨rfl,rfl⟩:=Zdb wq0 wq1 tq0 tq1 (by omega) (by omega) (by omega) (by omega) (ez.symm.trans e.symm);refine hq p lk _ (s04.trans (s6.trans (s7.trans s8))) ((s04.trans s6).free np) nlk ⟨⟨dx,s8 _ _ k1⟩,?_⟩;obtain ⟨_,⟨d,od⟩⟩:=kd;refine ⟨d,?_⟩;rcases od with ⟨e,o⟩ | ⟨e,o⟩ | ⟨e,o⟩
    ·exact .inl ⟨e,s8 _ _ o⟩
    ·exact .inr (.inl ⟨e,s8 _ _ o⟩)
    ·exact .inr (.inr ⟨e,s8 _ _ o⟩)
   ·walk_at "ev";refine ⟨_,_,rfl,s6.trans (s7.trans s8),fun t t0 t1=>?_⟩
    by_cases ht:t=k
    ·rw [ht];exact fun w=>e w.symm
    ·exact hn2 t t0 (by omega)
  ·rintro σ H3 ⟨v2,v3,rfl,s3,hn2⟩;refine ⟨_,_,_,rfl,s3,fun w t hw t0 t1=>?_⟩
   by_cases hwi:w=i
   ·rw [hwi];exact hn2 t t0 t1
   ·exact hn w t (by omega) t0 t1
 ·rintro σ H2 ⟨v1,v2,v3,rfl,s2,hn⟩
  exfalso
  have:=hn wq.toNat tq (by show wq.toNat < 3;omega) tq0 tq1;have e:((wq.toNat:Nat):Int)=wq:=by omega
  rw [e] at this;exact this ez
end
structure Ex (p:Addr) (H H':Hp) (T T':Tg):Prop where
 kp:∀ b o,H b=some o→b≠p→H' b=some o
 al:∀ b o,H b=some o→∃ o',H' b=some o'
 tg:∀ b o,H b=some o→T' b=T b
 wt:WT H' T'
section
variable {p:Addr}{H H1 H2 H':Hp}{T T1 T2 T':Tg}
theorem Ex.trans (a:Ex p H H1 T T1) (b:Ex p H1 H2 T1 T2):Ex p H H2 T T2 where
 kp:=fun x o h n=>b.kp x o (a.kp x o h n) n
 al:=fun x o h=>by obtain ⟨o1,h1⟩:=a.al x o h;exact b.al x o1 h1
 tg:=fun x o h=>by obtain ⟨o1,h1⟩:=a.al x o h;rw [b.tg x o1 h1,a.tg x o h]
 wt:=b.wt
theorem Zpk (w:WT H T) (al:∀ b o,H b=some o→∃ o',H' b=some o'):WT H' T:=fun b h=>w b (by
 cases z:H b with
 | none=>rfl
 | some o=>obtain ⟨o',e⟩:=al b o z;rw [h] at e;cases e)
theorem Lj {a:Addr}{o:HO}{v:Nat×Nat} (w:WT H T) (h:H a=some o):WT H (fG T a v):=fun b hb=>by
 rw [fO (fun e=>by rw [e,h] at hb;cases hb)];exact w b hb
theorem Ex.Zfk {o o0:HO} (w:WT H T) (h:H p=some o0):Ex p H (upd H p o) T T where
 kp:=fun x u hx n=>by rw [aA n];exact hx
 al:=fun x u hx=>by
  by_cases e:x=p
  ·exact ⟨o,by rw [e,aq]⟩
  ·exact ⟨u,by rw [aA e];exact hx⟩
 tg:=fun _ _ _=>rfl
 wt:=Zpk w fun x u hx=>by
  by_cases e:x=p
  ·exact ⟨o,by rw [e,aq]⟩
  ·exact ⟨u,by rw [aA e];exact hx⟩
theorem Ex.news {vs:List (Addr×(Nat×Nat))} (w:WT H T) (s:bN H H') (hn:∀ v∈vs,H v.1=none∧∃ o,H' v.1=some o):Ex p H H' T (vs.foldr (fun v t=>fG t v.1 v.2) T):=by
 have tg:∀ b o,H b=some o→(vs.foldr (fun v t=>fG t v.1 v.2) T) b=T b:=by
  intro b o hb
  induction vs with
  | nil=>rfl
  | cons v vs ih=>
   show fG _ v.1 v.2 b=_;rw [fO (aD hb (hn v List.mem_cons_self).1)];exact ih fun u hu=>hn u (List.mem_cons_of_mem _ hu)
 refine ⟨fun b o hb _=>s _ _ hb,fun b o hb=>⟨o,s _ _ hb⟩,tg,?_⟩;clear tg
 induction vs with
 | nil=>exact w.same s
 | cons v vs ih=>
  obtain ⟨o,ho⟩:=(hn v List.mem_cons_self).2;exact Lj (ih fun u hu=>hn u (List.mem_cons_of_mem _ hu)) ho
end
section
variable {K:aG}{X:Cs}{H:Hp}{Q:VK}{E:XK}{n:St→Hp→Prop}{bk ct:St→Hp→Prop}
theorem Fb {p ki hl0:Addr}{room:Int} (T:vB K X) (q:∃ dx T s lk w t,∃ ts:List Addr,∃ hands,H p=some (.ins X.W dx [])∧WT H T∧s≠0∧KdO X H ki lk w t∧T ki=(0,0)∧T lk=(0,0)∧ki≠p∧lk≠p∧H hl0=some (.lst (ts.map V.ref))∧
 Al (fun (t:Addr) (m:Str×Int)=>H t=some (.tup [.str m.1,.int m.2])∧0≤m.2∧m.2≤1000) ts hands∧hands.length≤30∧
 ∀ H' T' A,(∀ b o,H b=some o→b≠p→H' b=some o)→(∀ b o,H b=some o→b≠p→T' b=T b)→WT H' T'→A.wo=p→WJ X H' T' s A (HS room hands w t)→Q .non H'):
  oW K X.D X.H X.S (uG X.D) (uE X.H) (pH X.S) ⟨fun _ H'=>Q .non H',Q,bk,ct⟩ [some (.ref p),some (.int room),some (.ref ki),some (.ref hl0)] H:=by
 obtain ⟨dx,T0,s,lk,w,t,ts,hands,hp,wt0,s0,kd,tki,tlk,nki,nlk,oh0,al,hn,hQ⟩:=q;have x0:WT H (fG T0 p (s,0)):=Lj wt0 hp;have tp:fG T0 p (s,0) p=(s,0):=fB;have to0:∀ b o,H b=some o→b≠p→fG T0 p (s,0) b=T0 b:=fun b _ _ hb=>fO hb;generalize hT:fG T0 p (s,0)=Ta at x0 tp to0;unfold oW;walk_at "ev";intro hq dh nh ndh neh;refine ⟨hq,room,rfl,dh,aq,fun ca H1 nca a1 a2 k1=>⟨rfl,?_⟩⟩;have Znj:H ca=none:=by
  by_cases z:ca=hq
  ·rw [z,aq] at nca;cases nca
  ·rw [aA z] at nca
   by_cases y:ca=dh
   ·rw [y,aq] at nca;cases nca
   ·rw [aA y] at nca;exact nca
 have sm1:bN H H1:=fun b o hb=>k1 b o (by rw [aA (aD hb nh),aA (aD hb ndh)];exact hb) (aD hb nh);have e1:Ex p H H1 Ta _:=Ex.news (vs:=[(hq,(s,1)),(ca,(s,2))]) x0 sm1 (by
  intro v hv;simp only [List.mem_cons,List.not_mem_nil,or_false] at hv;rcases hv with rfl | rfl
  ·exact ⟨nh,_,a1⟩
  ·exact ⟨Znj,_,a2⟩)
 have nhc:hq≠ca:=Dy a1 a2 (fun z=>by cases z);have th1:([(hq,(s,1)),(ca,(s,2))].foldr (fun v t=>fG t v.1 v.2) Ta) hq=(s,1):=fB;have tc1:([(hq,(s,1)),(ca,(s,2))].foldr (fun v t=>fG t v.1 v.2) Ta) ca=(s,2):=(fO nhc.symm).trans fB;generalize ([(hq,(s,1)),(ca,(s,2))]:List (Addr×(Nat×Nat))).foldr (fun v t=>fG t v.1 v.2) Ta=Tb at e1 th1 tc1;have hp1:=sm1 _ _ hp;have nph:hq≠p:=fun z=>by rw [z,hp] at nh;cases nh
 have npc:ca≠p:=fun z=>by rw [z,hp] at Znj;cases Znj
 clear k1 nca;walk_at "ev";refine ⟨p,X.W,dx,[],rfl,hp1,T.cW,T.X7,by decide,?_⟩;have e2:=e1.trans (Ex.Zfk (o:=.ins X.W dx (cj "heap" (.ref hq) [])) e1.wt hp1);have g2:upd H1 p (.ins X.W dx (cj "heap" (.ref hq) [])) p=some (.ins X.W dx (cj "heap" (.ref hq) [])):=aq;have a1:=(aA (o:=.ins X.W dx (cj "heap" (.ref hq) [])) nph).trans a1;have a2:=(aA (o:=.ins X.W dx (cj "heap" (.ref hq) [])) npc).trans a2;generalize upd H1 p (.ins X.W dx (cj "heap" (.ref hq) []))=H2 at e2 g2 a1 a2 ⊢;walk_at "ev";refine ⟨p,X.W,dx,_,rfl,g2,T.cW,T.nWk,by show 1 < 1000;decide,?_⟩;have e3:=e2.trans (Ex.Zfk (o:=.ins X.W dx (cj "kind" (.ref ki) (cj "heap" (.ref hq) []))) e2.wt g2);have g3:upd H2 p (.ins X.W dx (cj "kind" (.ref ki) (cj "heap" (.ref hq) []))) p=some (.ins X.W dx (cj "kind" (.ref ki) (cj "heap" (.ref hq) []))):=aq;have a1:=(aA (o:=.ins X.W dx (cj "kind" (.ref ki) (cj "heap" (.ref hq) []))) nph).trans a1;have a2:=(aA (o:=.ins X.W dx (cj "kind" (.ref ki) (cj "heap" (.ref hq) []))) npc).trans a2;generalize upd H2 p (.ins X.W dx (cj "kind" (.ref ki) (cj "heap" (.ref hq) [])))=H3 at e3 g3 a1 a2 ⊢;generalize hF3:(cj "kind" (.ref ki) (cj "heap" (.ref hq) []))=F3 at g3 ⊢;have lF3:F3.length=2:=by rw [← hF3];rfl
 have oh3:H3 hl0=some (.lst (ts.map V.ref)):=e3.kp _ _ oh0 (fun z=>by rw [z,hp] at oh0;cases oh0);have ltl:ts.length=hands.length:=al.length;have Zry:∀ (i:Nat) a,ts[i]? =some a→∃ m,hands[i]? =some m∧H3 a=some (.tup [.str m.1,.int m.2])∧0≤m.2∧m.2≤1000:=fun i a ha=>by
  have hl:i < hands.length:=by rw [← ltl];exact (cI ha).1
  obtain ⟨a',ha',z1,z2,z3⟩:=al.get (bO hl);rw [ha] at ha';cases ha';exact ⟨_,bO hl,e3.kp _ _ z1 (fun z=>by rw [z,hp] at z1;cases z1),z2,z3⟩
 have lo:=e3.wt;walk_at "ev";refine ⟨_,rfl,⟨_,cF.of oh3⟩,Zkp ?_⟩;refine ⟨fun i m ys Hx=>i≤ts.length∧m=ts.length - i∧∃ (hs:List (Addr×Addr)) (Tx:Tg),ys=hs.map (fun q=>V.ref q.1)∧hs.length=i∧bN H3 Hx∧Ex p H3 Hx Tb Tx∧∀ (j:Nat) q m,hs[j]? =some q→hands[j]? =some m→HdO X.D Hx Tx s j q (m.1,List.replicate m.2.toNat none)∧q.1≠p∧q.2≠p,
  ⟨ts.length,Nat.zero_le _,rfl,[],Tb,rfl,rfl,bN.refl _,⟨fun _ _ h _=>h,fun _ o h=>⟨o,h⟩,fun _ _ _=>rfl,lo⟩,fun j q m e=>by simp at e⟩,?_⟩
 rintro i m ys Hx ⟨hi,rfl,hs,Tx,rfl,hl,sx,ex,hds⟩
 by_cases hk:i=ts.length
 ·refine .inl ⟨⟨_,cF.of (sx _ _ oh3),by rw [bh];omega⟩,fun hla nhl=>?_⟩;have Zzq:H3 hla=none:=sx.free nhl;have s4:=aN nhl (.lst (hs.map fun q=>V.ref q.1));have e4:Ex p Hx _ Tx _:=Ex.news (p:=p) (vs:=[(hla,(s,5))]) ex.wt s4 (by
   intro v hv;rw [List.mem_singleton.mp hv];exact ⟨nhl,_,aq⟩)
  have t4:([(hla,(s,5))].foldr (fun v t=>fG t v.1 v.2) Tx) hla=(s,5):=fB;have o4:upd Hx hla (.lst (hs.map fun q=>V.ref q.1)) hla=some (.lst (hs.map fun q=>V.ref q.1)):=aq;have hpx:=sx _ _ g3;have nhp:hla≠p:=fun z=>by rw [z,hpx] at nhl;cases nhl
  have hp4:=s4 _ _ hpx;generalize upd Hx hla (.lst (hs.map fun q=>V.ref q.1))=H4 at s4 e4 o4 hp4 ⊢;generalize ([(hla,(s,5))]:List (Addr×(Nat×Nat))).foldr (fun v t=>fG t v.1 v.2) Tx=T4 at e4 t4;walk_at "ev";refine ⟨p,X.W,dx,_,rfl,hp4,T.cW,T.nWd,by rw [lF3];decide,?_⟩;have e5:=Ex.Zfk (p:=p) (o:=.ins X.W dx (cj "hands" (.ref hla) F3)) e4.wt hp4;have hp5:upd H4 p (.ins X.W dx (cj "hands" (.ref hla) F3)) p=some (.ins X.W dx (cj "hands" (.ref hla) F3)):=aq;generalize upd H4 p (.ins X.W dx (cj "hands" (.ref hla) F3))=H5 at e5 hp5 ⊢;walk_at "ev";intro nm hnm;have nnp:nm≠p:=fun z=>by rw [z,hp5] at hnm;cases hnm
  have s6:=aN hnm (.dK []);have e6:Ex p H5 _ T4 _:=Ex.news (p:=p) (vs:=[(nm,(s,6))]) e5.wt s6 (by
   intro v hv;rw [List.mem_singleton.mp hv];exact ⟨hnm,_,aq⟩)
  have t6:([(nm,(s,6))].foldr (fun v t=>fG t v.1 v.2) T4) nm=(s,6):=fB;have o6:upd H5 nm (.dK []) nm=some (.dK []):=aq;have hp6:=s6 _ _ hp5;generalize upd H5 nm (.dK [])=H6 at s6 e6 o6 hp6 ⊢;generalize ([(nm,(s,6))]:List (Addr×(Nat×Nat))).foldr (fun v t=>fG t v.1 v.2) T4=T6 at e6 t6;walk_at "ev";refine ⟨p,X.W,dx,_,rfl,hp6,T.cW,T.nWn,by rw [← hF3];show 3 < 1000;decide,?_⟩;have e7:=Ex.Zfk (p:=p) (o:=.ins X.W dx (cj "names" (.ref nm) (cj "hands" (.ref hla) F3))) e6.wt hp6;have hp7:upd H6 p (.ins X.W dx (cj "names" (.ref nm) (cj "hands" (.ref hla) F3))) p=some (.ins X.W dx (cj "names" (.ref nm) (cj "hands" (.ref hla) F3))):=aq;generalize upd H6 p (.ins X.W dx (cj "names" (.ref nm) (cj "hands" (.ref hla) F3)))=H7 at e7 hp7 ⊢;walk_at "ev";intro sw ds nsw nds nes;refine ⟨sw,rfl,ds,aq,fun gr H8 ngr b1 b2 k8=>⟨rfl,?_⟩⟩;have Znh:H7 gr=none:=by
   by_cases z:gr=sw
   ·rw [z,aq] at ngr;cases ngr
   ·rw [aA z] at ngr
    by_cases y:gr=ds
    ·rw [y,aq] at ngr;cases ngr
    ·rw [aA y] at ngr;exact ngr
  have s8:bN H7 H8:=fun b o hb=>k8 b o (by rw [aA (aD hb nsw),aA (aD hb nds)];exact hb) (aD hb nsw);have e8:Ex p H7 H8 T6 _:=Ex.news (p:=p) (vs:=[(sw,(s,7)),(gr,(s,8))]) e7.wt s8 (by
   intro v hv;simp only [List.mem_cons,List.not_mem_nil,or_false] at hv;rcases hv with rfl | rfl
   ·exact ⟨nsw,_,b1⟩
   ·exact ⟨Znh,_,b2⟩)
  have nsg:sw≠gr:=Dy b1 b2 (fun z=>by cases z);have ts8:([(sw,(s,7)),(gr,(s,8))].foldr (fun v t=>fG t v.1 v.2) T6) sw=(s,7):=fB;have tg8:([(sw,(s,7)),(gr,(s,8))].foldr (fun v t=>fG t v.1 v.2) T6) gr=(s,8):=(fO nsg.symm).trans fB;generalize ([(sw,(s,7)),(gr,(s,8))]:List (Addr×(Nat×Nat))).foldr (fun v t=>fG t v.1 v.2) T6=T8 at e8 ts8 tg8;have hp8:=s8 _ _ hp7;have nsp:sw≠p:=fun z=>by rw [z,hp7] at nsw;cases nsw
  have ngp:gr≠p:=fun z=>by rw [z,hp7] at Znh;cases Znh
  clear k8 ngr;walk_at "ev";refine ⟨p,X.W,dx,_,rfl,hp8,T.cW,T.nWs,by rw [← hF3];show 4 < 1000;decide,?_⟩;have e9:=Ex.Zfk (p:=p) (o:=.ins X.W dx (cj "sweeper" (.ref sw) (cj "names" (.ref nm) (cj "hands" (.ref hla) F3)))) e8.wt hp8;have hp9:upd H8 p (.ins X.W dx (cj "sweeper" (.ref sw) (cj "names" (.ref nm) (cj "hands" (.ref hla) F3)))) p=some (.ins X.W dx (yr hq ki hla nm sw)):=by
   rw [aq,← hF3,Zd9]
  generalize upd H8 p (.ins X.W dx (cj "sweeper" (.ref sw) (cj "names" (.ref nm) (cj "hands" (.ref hla) F3))))=H9 at e9 hp9 ⊢;have f89:=e9;have f69:=e7.trans (e8.trans e9);have f49:=e5.trans (e6.trans f69);have fx9:=e4.trans f49;have f39:=ex.trans fx9;have f09:=e3.trans f39;obtain ⟨⟨dk,ok⟩,⟨dl,ol⟩⟩:=kd;have hlk:∃ o,H lk=some o:=by
   rcases ol with ⟨_,z⟩ | ⟨_,z⟩ | ⟨_,z⟩
   ·exact ⟨_,z⟩
   ·exact ⟨_,z⟩
   ·exact ⟨_,z⟩
  obtain ⟨olk,elk⟩:=hlk;refine hQ H9 T8 ⟨p,hq,ca,ki,lk,hla,nm,sw,gr,hs,[],[]⟩ f09.kp (fun b o hb nb=>(f09.tg b o hb).trans (to0 b o hb nb)) f09.wt rfl ⟨⟨(f09.tg _ _ hp).trans tp,(f09.tg _ _ ok).trans ((to0 _ _ ok nki).trans tki),(f09.tg _ _ elk).trans ((to0 _ _ elk nlk).trans tlk),(f49.tg _ _ o4).trans t4,⟨dx,hp9⟩,⟨dk,f09.kp _ _ ok nki⟩,⟨dl,?_⟩,f49.kp _ _ o4 nhp⟩,
   ⟨(f39.tg _ _ a1).trans th1,(f39.tg _ _ a2).trans tc1,⟨dh,f39.kp _ _ a1 nph⟩,f39.kp _ _ a2 npc⟩,⟨(f69.tg _ _ o6).trans t6,f69.kp _ _ o6 nnp,.nil⟩,
   ⟨(f89.tg _ _ b1).trans ts8,(f89.tg _ _ b2).trans tg8,⟨ds,f89.kp _ _ b1 nsp⟩,f89.kp _ _ b2 ngp⟩,⟨?_,by show hs.length≤30;rw [hl,hk,ltl];exact hn,?_⟩,⟨rfl,fun i q c z=>by simp at z⟩⟩
  ·rcases ol with ⟨z,y⟩ | ⟨z,y⟩ | ⟨z,y⟩
   ·exact .inl ⟨z,f09.kp _ _ y nlk⟩
   ·exact .inr (.inl ⟨z,f09.kp _ _ y nlk⟩)
   ·exact .inr (.inr ⟨z,f09.kp _ _ y nlk⟩)
  ·show hs.length=(hands.map _).length;rw [bh,hl,hk,ltl]
  ·intro j q m z1 z2;have z2:(hands.map fun m=>(m.1,List.replicate m.2.toNat none))[j]? =some m:=z2;rw [bx] at z2;obtain ⟨m0,y1,rfl⟩:=Option.map_eq_some_iff.mp z2;obtain ⟨⟨u1,u2,⟨du,u3⟩,u4⟩,v1,v2⟩:=hds j q m0 z1 y1;exact ⟨(fx9.tg _ _ u3).trans u1,(fx9.tg _ _ u4).trans u2,⟨du,fx9.kp _ _ u3 v1⟩,fx9.kp _ _ u4 v2⟩
 ·have hlt:i < ts.length:=by omega
  refine .inr ⟨⟨_,_,cF.of (sx _ _ oh3),by rw [bx,bO hlt];rfl⟩,?_,fun x H' y=>?_⟩
  ·rw [bh,hl];exact Nat.lt_of_lt_of_le hlt (bu (by omega))
  obtain ⟨y1,y2⟩:=y;subst y1;have ey:=y2 _ (cF.of (sx _ _ oh3));rw [bx,bO hlt] at ey;have ey:x=.ref ts[i]:=(Option.some.inj ey).symm;subst ey;obtain ⟨m,hm,ot,m0,m1⟩:=Zry i _ (bO hlt);refine zP (Zel ⟨ts[i],.str m.1,.int m.2,_,rfl,j4.of (sx _ _ ot),?_⟩);walk_at "caps";walk_at "ev";intro q1 dq nq ndq neq;refine ⟨q1,m.1,m.2,rfl,dq,aq,m0,m1,fun sa Hy nsa b1 b2 k=>⟨rfl,?_⟩⟩;have Znc:H' sa=none:=by
   by_cases z:sa=q1
   ·rw [z,aq] at nsa;cases nsa
   ·rw [aA z] at nsa
    by_cases y:sa=dq
    ·rw [y,aq] at nsa;cases nsa
    ·rw [aA y] at nsa;exact nsa
  have sy:bN H' Hy:=fun b o hb=>k b o (by rw [aA (aD hb nq),aA (aD hb ndq)];exact hb) (aD hb nq);have ey:Ex p H' Hy Tx _:=Ex.news (p:=p) (vs:=[(q1,(s,20 + 2 * i)),(sa,(s,21 + 2 * i))]) ex.wt sy (by
   intro v hv;simp only [List.mem_cons,List.not_mem_nil,or_false] at hv;rcases hv with rfl | rfl
   ·exact ⟨nq,_,b1⟩
   ·exact ⟨Znc,_,b2⟩)
  have nqs:q1≠sa:=Dy b1 b2 (fun z=>by cases z);have hpx:=sx _ _ g3;refine ⟨ts.length - (i + 1),by omega,by omega,rfl,hs ++ [(q1,sa)],_,by rw [List.map_append];rfl,by rw [List.length_append,hl];rfl,sx.trans sy,ex.trans ey,fun j q m' z1 z2=>?_⟩
  by_cases hj:j < hs.length
  ·rw [List.getElem?_append_left hj] at z1;obtain ⟨⟨u1,u2,⟨du,u3⟩,u4⟩,v1,v2⟩:=hds j q m' z1 z2;exact ⟨⟨(ey.tg _ _ u3).trans u1,(ey.tg _ _ u4).trans u2,⟨du,sy _ _ u3⟩,sy _ _ u4⟩,v1,v2⟩
  ·have hj':=(cI z1).1;rw [List.length_append,List.length_singleton] at hj';have ej:j=hs.length:=by omega
   subst ej;rw [List.getElem?_append_right (Nat.le_refl _),Nat.sub_self] at z1;cases z1;rw [hl] at z2 ⊢;rw [hm] at z2;cases z2;exact ⟨⟨fB,(fO nqs.symm).trans fB,⟨dq,b1⟩,by rw [b2,List.map_replicate];rfl⟩,(fun z=>by rw [show q1=p from z,hpx] at nq;cases nq),(fun z=>by rw [show sa=p from z,hpx] at Znc;cases Znc)⟩
end
theorem Zpl {w:Int} (h0:0≤w) (h1:w < 3):Y8 [V.str "first",.str "each",.str "last"] w=some (.str (wd w)):=by
 have:w=0∨w=1∨w=2:=by omega
 rcases this with rfl | rfl | rfl<;>rfl
theorem Zpo {w:Int} (h0:0≤w) (h1:w < 4):Y8 [V.str "",.str " old",.str " new",.str " old new"] w=some (.str (tlS w)):=by
 have:w=0∨w=1∨w=2∨w=3:=by omega
 rcases this with rfl | rfl | rfl | rfl<;>rfl
theorem Zj1 (w:Int):(tlS w).length≤8:=by
 unfold tlS
 by_cases h:w=0
 ·rw [if_pos h];decide
 ·rw [if_neg h]
  by_cases h:w=1
  ·rw [if_pos h];decide
  ·rw [if_neg h]
   by_cases h:w=2
   ·rw [if_pos h];decide
   ·rw [if_neg h];decide
def Zlx (K:aG):Sp:=fun vs H Q E=>∃ a k,vs=[.ref a,.int k]∧∃ ns:List Int,cF K H a (ns.map V.int)∧0≤k∧∀ z:Int,Q (.int z) H
def Vg (c f:Int):Int:=(c * f + 12345) % 2147483647 * ((c * f + 12345) % 2147483647) % 2147483629 / 3
def pG:Sp:=fun vs H Q E=>∃ c f,vs=[.int c,.int f]∧0≤f∧f < 2 ^ 31∧∀ z:Int,0≤z→z=Vg c f→Q (.int z) H
def K9:Sp:=fun vs H Q E=>∃ c,vs=[.int c]∧∀ w t H',0≤w→w < 3→0≤t→t < 4→bN H H'→Q (.str (words w t)) H'
section
variable {K:aG}{H:Hp}{Q:VK}{E:XK}{n:St→Hp→Prop}{bk ct:St→Hp→Prop}
theorem Za {c f:Int} (q:0≤f∧f < 2 ^ 31∧∀ z:Int,0≤z→z=Vg c f→Q (.int z) H):yV ⟨n,Q,bk,ct⟩ [some (.int c),some (.int f),none] H:=by
 obtain ⟨h0,h1,h⟩:=q;unfold yV;walk_at "ev";refine h _ ?_ rfl;generalize (c * f + 12345) % 2147483647=d;have:=Int.emod_nonneg (d * d) (show (2147483629:Int)≠0 by decide);generalize d * d % 2147483629=e at this ⊢;omega
theorem Kq {a:Addr}{k:Int} (q:∃ ns:List Int,cF K H a (ns.map V.int)∧0≤k∧∀ z:Int,Q (.int z) H):qZ K ⟨n,Q,bk,ct⟩ [some (.ref a),some (.int k)] H:=by
 obtain ⟨ns,hS,h0,h⟩:=q;unfold qZ;walk_at "ev";refine jV hS ?_;walk_at "ev";refine sO (fun h1=>?_) (fun h1=>?_)
 ·walk_at "ev";rw [bh] at h1;have hk:k.toNat < ns.length:=by omega
  exact bK hS (z8 h0 (by rw [bx,bO hk]<;>rfl)) (h _)
 ·walk_at "ev";exact h _
theorem Wy {c:Int} (q:∀ w t H',0≤w→w < 3→0≤t→t < 4→bN H H'→Q (.str (words w t)) H'):wV K pG ⟨n,Q,bk,ct⟩ [some (.int c),none] H:=by
 unfold wV;walk_at "ev";refine ⟨bu (by simp),fun l1 h1=>?_⟩;have s1:=aN h1 (.lst [.str "first",.str "each",.str "last"]);have g1:upd H l1 (.lst [.str "first",.str "each",.str "last"]) l1=some (.lst [.str "first",.str "each",.str "last"]):=aq;generalize upd H l1 (.lst [.str "first",.str "each",.str "last"])=H1 at s1 g1 ⊢;walk_at "ev";refine ⟨_,_,rfl,by decide,by decide,fun z hz _=>?_⟩;walk_at "ev";have z0:0≤z % 3:=by omega
 have z1:z % 3 < 3:=by omega
 generalize z % 3=w at z0 z1 ⊢;refine bK (cF.of g1) (Zpl z0 z1) ?_;walk_at "ev";refine ⟨bu (by simp),fun l2 h2=>?_⟩;have s2:=aN h2 (.lst [.str "",.str " old",.str " new",.str " old new"]);have g2:upd H1 l2 (.lst [.str "",.str " old",.str " new",.str " old new"]) l2=some (.lst [.str "",.str " old",.str " new",.str " old new"]):=aq;generalize upd H1 l2 (.lst [.str "",.str " old",.str " new",.str " old new"])=H2 at s2 g2 ⊢;walk_at "ev";refine ⟨_,_,rfl,by decide,by decide,fun y hy _=>?_⟩;walk_at "ev";have y0:0≤y % 4:=by omega
 have y1:y % 4 < 4:=by omega
 generalize y % 4=t at y0 y1 ⊢;refine bK (cF.of g2) (Zpo y0 y1) ?_;walk_at "ev";have a1:=Zfi w;have a2:=Zj1 t;refine Nv (bu (by omega)) ?_;exact q w t H2 z0 z1 y0 y1 (s1.trans s2)
end
def DW (M:Wm) (i:Int) (c:Ce):Str:=if M.sw.phase="rest" then "kept" else if M.sw.phase="give" then (if c.tone=M.sw.sense then "kept" else "doomed") else if c.tone=M.sw.sense then (if i∈M.sw.grey then "grey" else "dark") else "pale"
def oO (M:Wm):List (Int×Ce):=(List.range M.cells.length).filterMap fun (i:Nat)=>((M.cells[i]?).join).map fun c=>((i:Int),c)
def Ab (X:Cs):Sp:=fun vs H Q E=>∃ wo i,vs=[.ref wo,.int i]∧∃ T s A M c,WJ X H T s A M∧A.wo=wo∧0≤i∧M.cells[i.toNat]? =some (some c)∧Q (.str (DW M i c)) H
def TcO (M:Wm) (H:Hp) (p:Addr×Addr) (t:Int×Ce):Prop:=H p.1=some (.tup [.int t.1,.int t.2.birth,.int t.2.bulk,.int t.2.load,.ref p.2,.str (DW M t.1 t.2)])∧H p.2=some (.lst ((t.2.fl.map (d8 M)).map oV))
def uz (X:Cs):Sp:=fun vs H Q E=>∃ wo i,vs=[.ref wo,.int i]∧∃ T s A M c,WJ X H T s A M∧A.wo=wo∧0≤i∧M.cells[i.toNat]? =some (some c)∧c.fl.length≤1000∧∀ a l H',bN H H'→H a=none→TcO M H' (a,l) (i,c)→Q (.ref a) H'
def WK (X:Cs):Sp:=fun vs H Q E=>∃ wo,vs=[.ref wo]∧∃ T s A M,WJ X H T s A M∧A.wo=wo∧M.cells.length≤1000∧(∀ c,some c∈M.cells→c.fl.length≤1000)∧
 ∀ (l:Addr) (ls:List Addr) H',bN H H'→H' l=some (.lst (ls.map V.ref))→ls.length=(oO M).length→(∀ (j:Nat) r t,ls[j]? =some r→(oO M)[j]? =some t→∃ f,TcO M H' (r,f) t)→Q (.ref l) H'
theorem Zg6 {X:Cs}{H:Hp}{T:Tg}{s:Nat}{A:Wa}{M:Wm} (j:WJ X H T s A M):plc (A.cs.map pV)=(oO M).map (·.1):=by
 have key:∀ i,i < M.cells.length→(decide ((A.cs.map pV)[i]? =some V.non)=true↔(M.cells[i]?).join=none):=fun i hi=>by
  rw [decide_eq_true_iff,bx];cases hc:M.cells[i]? with
  | none=>rw [List.getElem?_eq_none_iff] at hc;omega
  | some y=>cases y with
   | none=>rw [j.jc.at0 hc];simp [pV]
   | some c=>
    obtain ⟨p,hp,_⟩:=j.jc.at hc;rw [hp];simp [pV]
 unfold plc oO;rw [bh,j.jc.lc];generalize hn:M.cells.length=n at key;clear hn
 induction n with
 | zero=>rfl
 | succ n ih=>
  rw [List.range_succ,List.filter_append,List.map_append,List.filterMap_append,List.map_append,ih fun i hi=>key i (by omega)];congr 1;have k:=key n (by omega);cases hc:(M.cells[n]?).join with
  | none=>
   have:decide ((A.cs.map pV)[n]? =some V.non)=true:=k.mpr hc;simp only [List.filter_cons,this,Bool.not_true,List.filter_nil,List.filterMap_cons,hc,Option.map_none,List.filterMap_nil];rfl
  | some c=>
   have:decide ((A.cs.map pV)[n]? =some V.non)=false:=by
    cases hd:decide ((A.cs.map pV)[n]? =some V.non) with
    | false=>rfl
    | true=>rw [k.mp hd] at hc;cases hc
   simp only [List.filter_cons,this,Bool.not_false,List.filter_nil,List.filterMap_cons,hc,Option.map_some,List.filterMap_nil];rfl
theorem Zj0 {M:Wm}{j:Nat}{t:Int×Ce} (h:(oO M)[j]? =some t):0≤t.1∧M.cells[t.1.toNat]? =some (some t.2):=by
 have hm:=List.mem_of_getElem? h;unfold oO at hm;obtain ⟨i,hi,e⟩:=List.mem_filterMap.mp hm;obtain ⟨c,hc,rfl⟩:=Option.map_eq_some_iff.mp e;refine ⟨by show (0:Int)≤(i:Nat);omega,?_⟩;show M.cells[((i:Nat):Int).toNat]? =some (some c);rw [Int.toNat_natCast];cases hx:M.cells[i]? with
 | none=>rw [hx] at hc;cases hc
 | some y=>rw [hx] at hc;rw [show y=some c from hc]
section
variable {K:aG}{X:Cs}{H:Hp}{Q:VK}{E:XK}{n:St→Hp→Prop}{bk ct:St→Hp→Prop}
theorem Zhk {i:Int}{l:List Int}:inV (.int i) (l.map V.int)=decide (i∈l):=by
 unfold inV
 induction l with
 | nil=>rfl
 | cons a l ih=>
  rw [List.map_cons,List.any_cons,ih]
  by_cases e:i=a
  ·subst e;simp [eqV]
  ·have e':¬ a=i:=fun z=>e z.symm;simp [eqV,e,e']
theorem Zas {wo:Addr}{i:Int} (T:vB K X) (q:∃ T s A M c,WJ X H T s A M∧A.wo=wo∧0≤i∧M.cells[i.toNat]? =some (some c)∧Q (.str (DW M i c)) H):By K (jf X) ⟨n,Q,bk,ct⟩ [some (.ref wo),some (.int i),none,none] H:=by
 obtain ⟨Tg,s,A,M,c,j,rfl,h0,hc,q⟩:=q;obtain ⟨d1,ow⟩:=j.jb.ow;obtain ⟨d2,os⟩:=j.js.os;obtain ⟨th,tc,⟨d3,oh⟩,oc⟩:=j.jh;obtain ⟨p,hp,ce⟩:=j.jc.at hc;unfold By;walk_at "ev";refine aR ow T.cW T.nWs eE ?_;walk_at "ev";refine aR ow T.cW T.X7 cB ?_;refine aR oh T.c.dH T.c.cH dM ?_;walk_at "ev";refine bK (cF.of oc) (z8 (v:=.ref p.1) h0 (by rw [bx,hp];rfl)) ?_;walk_at "ev";refine ⟨_,_,rfl,Tg,s,A,M,_,p,c,j,rfl,ce,rfl,?_⟩;walk_at "ev";refine aR os T.cS T.n2 nA ?_;walk_at "ev";unfold DW at q;refine sO (fun z=>?_) (fun z=>?_)
 ·rw [if_pos z] at q;walk_at "ev";exact q
 ·rw [if_neg z] at q;walk_at "ev";refine aR os T.cS T.n2 nA ?_;walk_at "ev";refine sO (fun y=>?_) (fun y=>?_)
  ·rw [if_pos y] at q;walk_at "ev";refine sO (fun x=>?_) (fun x=>?_)
   ·rw [if_pos x] at q;walk_at "ev";exact q
   ·rw [if_neg x] at q;walk_at "ev";exact q
  ·rw [if_neg y] at q;walk_at "ev";refine vO (fun x=>?_) (fun x=>?_)
   ·rw [if_neg x] at q;walk_at "ev";exact q
   ·rw [if_pos x] at q;walk_at "ev";refine aR os T.cS T.n3 sW ?_;refine ⟨_,_,rfl,.inl (cF.of j.js.og),rfl,?_,?_⟩
    ·rw [List.all_map,List.all_eq_true];intro a _;rfl
    rw [if_neg (by decide),Zhk];walk_at "ev";refine sO (fun y=>?_) (fun y=>?_)
    ·rw [if_pos y] at q;walk_at "ev";exact q
    ·rw [if_neg y] at q;walk_at "ev";exact q
theorem S7 {wo:Addr}{i:Int} (T:vB K X) (q:∃ T s A M c,WJ X H T s A M∧A.wo=wo∧0≤i∧M.cells[i.toNat]? =some (some c)∧c.fl.length≤1000∧∀ a l H',bN H H'→H a=none→TcO M H' (a,l) (i,c)→Q (.ref a) H'):
  wJ K (mC X) (Ab X) ⟨n,Q,bk,ct⟩ [some (.ref wo),some (.int i),none,none] H:=by
 obtain ⟨Tg,s,A,M,c,j,rfl,h0,hc,hl,q⟩:=q;obtain ⟨d1,ow⟩:=j.jb.ow;obtain ⟨th,tc,⟨d3,oh⟩,oc⟩:=j.jh;obtain ⟨p,hp,ce⟩:=j.jc.at hc;obtain ⟨t1,t2,⟨dx,o1⟩,o2⟩:=id ce;unfold wJ;walk_at "ev";refine aR ow T.cW T.X7 cB ?_;refine aR oh T.c.dH T.c.cH dM ?_;walk_at "ev";refine bK (cF.of oc) (z8 (v:=.ref p.1) h0 (by rw [bx,hp];rfl)) ?_;walk_at "ev";refine aR ow T.cW T.X7 cB ?_;walk_at "ev";refine aR o1 T.c.dz T.c.fH nR ?_;walk_at "ev";refine ⟨_,_,rfl,Tg,s,A,M,c.fl,j,rfl,o2,hl,fun l nl=>?_⟩;have s1:=aN nl (.lst ((c.fl.map (d8 M)).map oV));have g1:upd H l (.lst ((c.fl.map (d8 M)).map oV)) l=some (.lst ((c.fl.map (d8 M)).map oV)):=aq;generalize upd H l (.lst ((c.fl.map (d8 M)).map oV))=H1 at s1 g1 ⊢;walk_at "ev";refine aR (s1 _ _ o1) T.c.dz T.c.eX jX ?_;walk_at "ev";refine aR (s1 _ _ o1) T.c.dz T.c.kJ Bm ?_;walk_at "ev";refine aR (s1 _ _ o1) T.c.dz T.c.iM vz ?_;walk_at "ev";refine ⟨_,_,rfl,Tg,s,A,M,c,j.same s1,rfl,h0,hc,?_⟩;walk_at "ev";refine ⟨bu (by simp),fun a na=>?_⟩;have s2:=aN na (.tup [.int i,.int c.birth,.int c.bulk,.int c.load,.ref l,.str (DW M i c)]);exact q a l _ (s1.trans s2) (s1.free na) ⟨aq,s2 _ _ g1⟩
theorem Ov {wo:Addr} (T:vB K X) (q:∃ T s A M,WJ X H T s A M∧A.wo=wo∧M.cells.length≤1000∧(∀ c,some c∈M.cells→c.fl.length≤1000)∧
 ∀ (l:Addr) (ls:List Addr) H',bN H H'→H' l=some (.lst (ls.map V.ref))→ls.length=(oO M).length→(∀ (j:Nat) r t,ls[j]? =some r→(oO M)[j]? =some t→∃ f,TcO M H' (r,f) t)→Q (.ref l) H'):
  uN K X.H (sr X.H) (uz X) ⟨n,Q,bk,ct⟩ [some (.ref wo)] H:=by
 obtain ⟨Tg,s,A,M,j,rfl,hc,hf,q⟩:=q;obtain ⟨d1,ow⟩:=j.jb.ow;obtain ⟨th,tc,⟨d3,oh⟩,oc⟩:=j.jh;have hl:(oO M).length≤1000:=by
  have:=List.length_filterMap_le (fun (i:Nat)=>((M.cells[i]?).join).map fun c=>((i:Int),c)) (List.range M.cells.length);rw [List.length_range] at this;exact Nat.le_trans this hc
 unfold uN;walk_at "ev";refine Nu ?_;walk_at "ev";refine aR ow T.cW T.X7 cB ?_;refine ⟨A.hp,d3,_,rfl,oh,Nz,?_⟩;walk_at "ev";refine ⟨_,rfl,_,_,_,_,_,j.hpO,by rw [bh,j.jc.lc];exact hc,fun l0 nl0=>?_⟩;rw [Zg6 j];have s1:=aN nl0 (.lst (((oO M).map (·.1)).map V.int));have g1:upd H l0 (.lst (((oO M).map (·.1)).map V.int)) l0=some (.lst (((oO M).map (·.1)).map V.int)):=aq;generalize upd H l0 (.lst (((oO M).map (·.1)).map V.int))=H1 at s1 g1 ⊢;refine ⟨_,rfl,⟨_,cF.of g1⟩,?_⟩;refine Ng (cF.of g1) (by rw [bh,bh];omega) (fun i r Hx=>∃ t f,(oO M)[i]? =some t∧TcO M Hx (r,f) t) (fun _ _ _ _ ⟨t,f,e,z1,z2⟩ s=>⟨t,f,e,s _ _ z1,s _ _ z2⟩) (fun _ _ _ ⟨_,_,_,z,_⟩=>⟨_,z⟩) (fun x H1 q hq=>zP hq) (fun i x H2 hi s2 q' hq=>?_) ?_
 ·rw [bx,bx] at hi;cases ht:(oO M)[i]? with
  | none=>rw [ht] at hi;cases hi
  | some t=>
   rw [ht] at hi;cases hi;obtain ⟨t0,tc'⟩:=Zj0 ht;walk_at "caps";walk_at "ev";refine ⟨_,_,rfl,Tg,s,A,M,t.2,j.same (s1.trans s2),rfl,t0,tc',hf _ (List.mem_of_getElem? tc'),fun a l H3 s3 na tco=>?_⟩;exact hq a H3 s3 na ⟨t,l,ht,tco⟩
 ·intro rs H' s2 hl2 _ _ hr p hp;have s3:=aN hp (.lst (rs.map V.ref));refine q p rs _ (s1.trans (s2.trans s3)) aq (by rw [hl2,bh,bh]) fun k r t e1 e2=>?_;obtain ⟨t',f,e3,z1,z2⟩:=hr k r e1;rw [e2] at e3;cases e3;exact ⟨f,s3 _ _ z1,s3 _ _ z2⟩
end
def Sm (H:Hp):Nat→V→V→Prop
 | 0,x,y=>x=y∧rK x=true
 | d + 1,x,y=>(x=y∧rK x=true)∨∃ a b xs ys,x=.ref a∧y=.ref b∧((H a=some (.lst xs)∧H b=some (.lst ys))∨(H a=some (.tup xs)∧H b=some (.tup ys)))∧xs.length≤1000000∧G.Al (Sm H d) xs ys
def oG (d:Nat):Sp:=fun vs H Q E=>∃ x y,vs=[x,y]∧Sm H d x y∧Q (.bl true) H
def WQ:Sp:=fun vs H Q E=>∃ x y:V,vs=[x,y]∧False
section
variable {K:aG}{H:Hp}{Q:VK}{n:St→Hp→Prop}{bk ct:St→Hp→Prop}
theorem RK {sp:Sp}{x:V} (hf:rK x=true) (q:Q (.bl true) H):jG K sp ⟨n,Q,bk,ct⟩ [some x,some x,none] H:=by
 unfold jG;cases x with
 | non=>
  walk_at "ev";exact q
 | bl b=>
  walk_at "ev";cases b with
  | true=>
   refine Zb6 ?_;walk_at "ev";exact q
  | false=>
   refine zQ ?_;walk_at "ev";refine Zb6 ?_;walk_at "ev";exact q
 | int i=>
  walk_at "ev";refine zQ ?_;walk_at "ev";refine zQ ?_;walk_at "ev";rw [decide_eq_true rfl];exact q
 | str z=>
  walk_at "ev";refine zQ ?_;walk_at "ev";refine zQ ?_;walk_at "ev";rw [decide_eq_true rfl];exact q
 | _=>exact absurd (show false=true from hf) Bool.false_ne_true
theorem Zfs {sp:Sp}{a b:Addr}{xs ys:List V} (hl:xs.length=ys.length) (Zzl:xs.length≤1000000) (hab:(H a=some (.lst xs)∧H b=some (.lst ys))∨(H a=some (.tup xs)∧H b=some (.tup ys)))
  (hs:∀ (i:Nat) (x y:V),xs[i]? =some x→ys[i]? =some y→∀ Q' E',Q' (.bl true) H→sp [x,y] H Q' E') (q:Q (.bl true) H):jG K sp ⟨n,Q,bk,ct⟩ [some (.ref a),some (.ref b),none] H:=by
 unfold jG;walk_at "ev";refine zQ ?_;walk_at "ev";refine zQ ?_;walk_at "ev";have lp:∀ (T:TE),True:=fun _=>trivial;rcases hab with ⟨ha,hb⟩ | ⟨ha,hb⟩
 ·refine Zbc hb ?_;walk_at "ev";refine Zbb hb ?_;walk_at "ev";refine JT hb ?_;walk_at "ev";refine JT ha ?_;walk_at "ev";refine VN hb ?_;walk_at "ev";refine jV (cF.of ha) ?_;walk_at "ev";refine jV (cF.of hb) ?_;walk_at "ev";rw [hl];refine vO (fun z=>absurd rfl z) (fun _=>?_);walk_at "ev";refine jV (cF.of hb) ?_;walk_at "ev";refine ⟨_,rfl,by omega,by omega,?_⟩;refine forR (fun _ σ Hx=>∃ v,σ=[some (.ref a),some (.ref b),v]∧Hx=H) ⟨_,rfl,rfl⟩ ?_ ?_
  ·rintro i σ Hx hi ⟨v,rfl,rfl⟩;have e0:(0:Int) + (i:Int)=i:=by omega
   rw [e0];have hy:i < ys.length:=by omega
   have hx:i < xs.length:=by omega
   walk_at "ev";refine .inl (bK (cF.of ha) (aX (bO hx)) ?_);walk_at "ev";refine .inl (bK (cF.of hb) (aX (bO hy)) ?_);walk_at "ev";refine hs i _ _ (bO hx) (bO hy) _ _ ?_;walk_at "ev";exact ⟨_,rfl,rfl⟩
  ·rintro σ Hx ⟨v,rfl,rfl⟩;walk_at "ev";exact q
 ·refine Zb8 hb ?_;walk_at "ev";refine Zb7 hb ?_;walk_at "ev";refine Yw hb ?_;walk_at "ev";refine Er hb ?_;walk_at "ev";refine Er ha ?_;walk_at "ev";refine ⟨a,xs,rfl,.inr (j4.of ha),?_⟩;walk_at "ev";refine ⟨b,ys,rfl,.inr (j4.of hb),?_⟩;walk_at "ev";rw [hl];refine vO (fun z=>absurd rfl z) (fun _=>?_);walk_at "ev";refine ⟨b,ys,rfl,.inr (j4.of hb),?_⟩;walk_at "ev";refine ⟨_,rfl,by omega,by omega,?_⟩;refine forR (fun _ σ Hx=>∃ v,σ=[some (.ref a),some (.ref b),v]∧Hx=H) ⟨_,rfl,rfl⟩ ?_ ?_
  ·rintro i σ Hx hi ⟨v,rfl,rfl⟩;have e0:(0:Int) + (i:Int)=i:=by omega
   rw [e0];have hy:i < ys.length:=by omega
   have hx:i < xs.length:=by omega
   walk_at "ev";refine .inr (.inl ⟨a,xs,i,_,rfl,rfl,j4.of ha,aX (bO hx),?_⟩);walk_at "ev";refine .inr (.inl ⟨b,ys,i,_,rfl,rfl,j4.of hb,aX (bO hy),?_⟩);walk_at "ev";refine hs i _ _ (bO hx) (bO hy) _ _ ?_;walk_at "ev";exact ⟨_,rfl,rfl⟩
  ·rintro σ Hx ⟨v,rfl,rfl⟩;walk_at "ev";exact q
theorem Q4 {x y:V} (q:Sm H 0 x y∧Q (.bl true) H):jG K WQ ⟨n,Q,bk,ct⟩ [some x,some y,none] H:=by
 obtain ⟨⟨rfl,hf⟩,q⟩:=q;exact RK hf q
theorem Wu {d:Nat}{x y:V} (q:Sm H (d + 1) x y∧Q (.bl true) H):jG K (oG d) ⟨n,Q,bk,ct⟩ [some x,some y,none] H:=by
 obtain ⟨h | ⟨a,b,xs,ys,rfl,rfl,hab,hz,al⟩,q⟩:=q
 ·obtain ⟨rfl,hf⟩:=h;exact RK hf q
 ·refine Zfs al.length hz hab (fun i x y e1 e2 Q' E' hq=>?_) q;obtain ⟨x',e3,hs⟩:=al.get e2;rw [e1] at e3;cases e3;exact ⟨x,y,rfl,hs,hq⟩
end
structure Rw (H:Hp) (T:Tg) (lr:Addr) (rs:List Addr) (rows:List (List (Option Int))):Prop where
 tl:T lr=(2,0)
 ol:H lr=some (.lst (rs.map V.ref))
 ln:rs.length=rows.length
 at_:∀ (j:Nat) r x,rs[j]? =some r→rows[j]? =some x→T r=(2,1 + j)∧H r=some (.lst (x.map oV))
section
variable {H H':Hp}{T T':Tg}{lr:Addr}{rs:List Addr}{rows:List (List (Option Int))}
theorem Yv:∀ {rs:List Addr}{j:Nat}{r:Addr},rs.Nodup→rs[j]? =some r→rs.idxOf r=j:=by
 intro rs
 induction rs with
 | nil=>intro j r _ e;simp at e
 | cons a rs ih=>
  intro j r nd e;obtain ⟨n1,n2⟩:=List.nodup_cons.mp nd;rw [List.idxOf_cons];cases j with
  | zero=>simp at e;subst e;simp
  | succ j=>
   have e':rs[j]? =some r:=by simpa using e
   have hne:a≠r:=fun z=>n1 (by rw [z];exact List.mem_of_getElem? e');have hb:(a == r)=false:=beq_eq_false_iff_ne.mpr hne;rw [hb];show rs.idxOf r + 1=j + 1;rw [ih n2 e']
end
theorem Zcw (x:Option Int):rK (oV x)=true:=by cases x<;>rfl
theorem qi {H:Hp}{d:Nat}{x:V} (h:rK x=true):Sm H d x x:=by
 cases d with
 | zero=>exact ⟨rfl,h⟩
 | succ d=>exact .inl ⟨rfl,h⟩
theorem yw {H:Hp}{d:Nat}:∀ {xs:List V},xs.all rK=true→Al (Sm H d) xs xs
 | [],_=>.nil
 | x :: xs,h=>by
  rw [List.all_cons,Bool.and_eq_true] at h;exact .cons (qi h.1) (yw h.2)
theorem Zis (l:List (Option Int)):(l.map oV).all rK=true:=by
 rw [List.all_eq_true];intro x hx;obtain ⟨i,_,rfl⟩:=List.mem_map.mp hx;exact Zcw i
theorem Zit {α β:Type}{P:α→β→Prop}:∀ {xs:List α}{ys:List β},xs.length=ys.length→(∀ (i:Nat) x y,xs[i]? =some x→ys[i]? =some y→P x y)→Al P xs ys
 | [],[],_,_=>.nil
 | [],_ :: _,h,_=>by simp at h
 | _ :: _,[],h,_=>by simp at h
 | x :: xs,y :: ys,h,p=>.cons (p 0 x y rfl rfl) (Zit (by simpa using h) fun i a b h1 h2=>p (i + 1) a b (by simpa using h1) (by simpa using h2))
theorem Zj7 {H:Hp}{l lr:Addr}{ls rs:List Addr}{rows:List (List (Option Int))} (h1:H l=some (.lst (ls.map V.ref))) (h2:H lr=some (.lst (rs.map V.ref))) (n1:ls.length=rows.length) (n2:rs.length=rows.length) (hb:rows.length≤1000) (hr:∀ x∈rows,x.length≤1000)
  (g1:∀ (j:Nat) r x,ls[j]? =some r→rows[j]? =some x→H r=some (.lst (x.map oV))) (g2:∀ (j:Nat) r x,rs[j]? =some r→rows[j]? =some x→H r=some (.lst (x.map oV))):Sm H 3 (.ref l) (.ref lr):=by
 refine .inr ⟨l,lr,_,_,rfl,rfl,.inl ⟨h1,h2⟩,by rw [bh];omega,Zit (by rw [bh,bh];omega) fun i x y e1 e2=>?_⟩;rw [bx] at e1 e2;cases c1:ls[i]? with
 | none=>rw [c1] at e1;cases e1
 | some r1=>
  cases c2:rs[i]? with
  | none=>rw [c2] at e2;cases e2
  | some r2=>
   rw [c1] at e1;rw [c2] at e2;cases e1;cases e2;have hi:i < rows.length:=by rw [← n1];exact (cI c1).1
   refine .inr ⟨r1,r2,_,_,rfl,rfl,.inl ⟨g1 i r1 _ c1 (bO hi),g2 i r2 _ c2 (bO hi)⟩,?_,yw (Zis _)⟩;rw [bh];have:=hr _ (List.getElem_mem hi);omega
theorem Za5 {M:Wm}{h k:Nat}{x:Option Int}{r:List (Option Int)} (hr:(rowsOf M)[h]? =some r):rowsOf (setSlot M h k x)=(rowsOf M).set h (r.set k (d8 M x)):=by
 unfold rowsOf at hr;rw [bx] at hr;cases hm:M.hands[h]? with
 | none=>rw [hm] at hr;cases hr
 | some m=>
  rw [hm] at hr;have e:m.2.map (d8 M)=r:=Option.some.inj hr;rw [Xw hm,e]
theorem toN {x:Int} (h:0≤x):∃ k:Nat,x=k:=⟨x.toNat,by omega⟩
def rY (w:Int) (h:Nat):Int:=if w=0 then 2 ^ h - 1 else 0
def Jg (M:Wm):Wm:={ M with sw:={ M.sw with sense:=1 - M.sw.sense,phase:="walk",grey:=[],looked:=rY M.w M.hands.length,turn:=M.sw.turn + 1,walks:=0,looks:=0,passes:=0 } }
def Fg:Sp:=fun vs H Q E=>∃ h,vs=[.int h]∧0≤h∧h≤30∧Q (.int (2 ^ h.toNat - 1)) H
def mD (k:Nat):Sp:=fun vs H Q E=>∃ a h,vs=[.ref a,.int h]∧0≤h∧h≤30∧Q (.int (if k=0 then 2 ^ h.toNat - 1 else 0)) H
def Lb (X:Cs):Sp:=fun vs H Q E=>∃ wo,vs=[.ref wo]∧∃ T s A M,WT H T∧s≠0∧WJ X H T s A M∧A.wo=wo∧∀ H' T' A',Stp s H H' T T'→WJ X H' T' s A' (Jg M)→A'.wo=wo→Q .non H'
section
variable {X:Cs}{H H':Hp}{T T':Tg}{s:Nat}{A:Wa}{M:Wm}
theorem WJ.Zkj (j:WJ X H T s A M) (w:WT H T) (h0:s≠0) {dx l:Addr} (S:Sw) (hl:H l=none) (e9:S.grey=[]):
  Stp s H (upd (upd H l (.lst [])) A.sw (.ins X.S dx (dY S.sense S.phase l S.looked S.turn S.at' S.stop S.walks S.looks S.passes S.loss))) T (fG T l (s,8))∧
  WJ X (upd (upd H l (.lst [])) A.sw (.ins X.S dx (dY S.sense S.phase l S.looked S.turn S.at' S.stop S.walks S.looks S.passes S.loss))) (fG T l (s,8)) s { A with gr:=l } { M with sw:=S }:=by
 obtain ⟨ts,tg,⟨dd,os⟩,og⟩:=id j.js;have nls:l≠A.sw:=(aD os hl).symm;have w1:WT (upd H l (.lst [])) (fG T l (s,8)):=Lj (w.same (aN hl _)) aq;have st1:Stp s H (upd H l (.lst [])) T (fG T l (s,8)):=⟨fun b o h _=>(aN hl _) _ _ h,fun b o h=>⟨o,(aN hl _) _ _ h⟩,fun b o h=>fO (aD h hl),w1⟩;have j1:WJ X (upd H l (.lst [])) (fG T l (s,8)) s A M:=j.fresh hl;obtain ⟨ts1,tg1,⟨dd1,os1⟩,og1⟩:=id j1.js;refine ⟨st1.trans (Stp.upd w1 os1 (by rw [ts1])),?_⟩;have f:yj s (·=7) (upd H l (.lst [])) (upd (upd H l (.lst [])) A.sw (.ins X.S dx (dY S.sense S.phase l S.looked S.turn S.at' S.stop S.walks S.looks S.passes S.loss))) (fG T l (s,8)) (fG T l (s,8)):=yj.Cm ts1;have b1:=j1.jb.mv f (pF h0 ts1) (by omega) (by omega);have b2:=j1.jh.mv f (by omega) (by omega);have b3:=j1.jn.mv f (pF h0 ts1) (by omega);have b5:=j1.jd.mv f fun _ _ _=>by omega
 have b6:=j1.jc.mv f fun _ _=>by omega
 obtain ⟨x1,x2,x3,x4,x5,x6,x7,x8⟩:=b1;obtain ⟨y1,y2,y3,y4⟩:=b2;obtain ⟨z1,z2,z3⟩:=b3;exact ⟨⟨x1,x2,x3,x4,x5,x6,x7,x8⟩,⟨y1,y2,y3,y4⟩,⟨z1,z2,z3⟩,⟨ts1,fB,⟨dx,aq⟩,by rw [aA nls,aq,e9];rfl⟩,b5,b6⟩
end
section
variable {K:aG}{X:Cs}{H:Hp}{Q:VK}{E:XK}{n:St→Hp→Prop}{bk ct:St→Hp→Prop}
theorem Zri {j:Int} (h0:0≤j) (h1:j≤1000):Rj 1 j:=⟨h0,by omega,by decide⟩
theorem Zfd {h:Int} (q:0≤h∧h≤30∧Q (.int (2 ^ h.toNat - 1)) H):Hf ⟨n,Q,bk,ct⟩ [some (.int h)] H:=by
 obtain ⟨h0,h1,q⟩:=q;unfold Hf;walk_at "ev";refine ⟨_,_,rfl,rfl,Zri h0 (by omega),?_⟩;walk_at "ev";rw [Int.one_mul];exact q
theorem Av {a:Addr}{h:Int} (q:0≤h∧h≤30∧Q (.int (if (1:Nat)=0 then 2 ^ h.toNat - 1 else 0)) H):mY ⟨n,Q,bk,ct⟩ [some (.ref a),some (.int h)] H:=by
 unfold mY;walk_at "ev";exact q.2.2
theorem Fq {a:Addr}{h:Int} (q:0≤h∧h≤30∧Q (.int (if (0:Nat)=0 then 2 ^ h.toNat - 1 else 0)) H):oX Fg ⟨n,Q,bk,ct⟩ [some (.ref a),some (.int h)] H:=by
 obtain ⟨h0,h1,q⟩:=q;unfold oX;walk_at "ev";exact ⟨h,rfl,h0,h1,q⟩
theorem Zir {wo:Addr} (Tx:vB K X) (q:∃ T s A M,WT H T∧s≠0∧WJ X H T s A M∧A.wo=wo∧∀ H' T' A',Stp s H H' T T'→WJ X H' T' s A' (Jg M)→A'.wo=wo→Q .non H'):
  Mr K X.E X.F X.L (mD 0) (mD 1) ⟨fun _ H'=>Q .non H',Q,bk,ct⟩ [some (.ref wo),none] H:=by
 obtain ⟨T,s,A,M,w,h0,j,rfl,q⟩:=q;obtain ⟨dw,ow⟩:=j.jb.ow;obtain ⟨ds,os⟩:=j.js.os;obtain ⟨dk,ok⟩:=j.jb.ok;obtain ⟨dl,ol⟩:=j.jb.ol;have on:=j.jb.on;have lh:=j.jd.lh;have l5:=j.jd.l5;unfold Mr;walk_at "ev";refine aR ow Tx.cW Tx.nWs eE ?_;walk_at "ev";refine aR os Tx.cS Tx.n1 nu ?_;walk_at "ev";refine ⟨A.sw,X.S,ds,_,rfl,os,Tx.cS,Tx.n1,by show 11 < 1000;decide,?_⟩;rw [FZ];walk_at "ev";refine aR aq Tx.cS Tx.n5 LC ?_;walk_at "ev";refine ⟨A.sw,X.S,ds,_,rfl,aq,Tx.cS,Tx.n5,by show 11 < 1000;decide,?_⟩;rw [J7,eF];walk_at "ev";refine ⟨A.sw,X.S,ds,_,rfl,aq,Tx.cS,Tx.n2,by show 11 < 1000;decide,?_⟩;rw [Ga,eF];walk_at "ev";refine ⟨by decide,fun gr hgr=>?_⟩;have nsg:A.sw≠gr:=aD aq hgr;have Zhr:H gr=none:=by rw [aA nsg.symm] at hgr;exact hgr
 walk_at "ev";refine ⟨A.sw,X.S,ds,_,rfl,by rw [aA nsg];exact aq,Tx.cS,Tx.n3,by show 11 < 1000;decide,?_⟩;rw [J8];have sw2:∀ (a b:HO) (o:HO),upd (upd (upd H A.sw a) gr o) A.sw b=upd (upd H gr o) A.sw b:=fun a b o=>by
  funext x
  by_cases z:x=A.sw
  ·rw [z,aq,aq]
  ·rw [aA z,aA z]
   by_cases y:x=gr
   ·rw [y,aq,aq]
   ·rw [aA y,aA y,aA z]
 rw [sw2];have fin:∀ {lo:Int}{σ:St},σ=[some (.ref A.wo),some (.ref A.sw)]→lo=rY M.w M.hands.length→∀ (H3:Hp),H3=upd (upd H gr (.lst [])) A.sw (.ins X.S ds (dY (1 - M.sw.sense) "walk" gr M.sw.looked (M.sw.turn + 1) M.sw.at' M.sw.stop M.sw.walks M.sw.looks M.sw.passes M.sw.loss))→
   (∃ a C dx fs,V.ref A.sw=.ref a∧H3 a=some (.ins C dx fs)∧Bo K C∧bG K C "looked"∧fs.length < 1000∧(aK (jC K (aj 1) (tC (.int 0)) "walks") (aK (jC K (aj 1) (tC (.int 0)) "looks") (jC K (aj 1) (tC (.int 0)) "passes"))) ⟨fun _ H'=>Q .non H',Q,bk,ct⟩ σ (upd H3 a (.ins C dx (cj "looked" (.int lo) fs)))):=by
  rintro lo σ rfl elo H3 rfl;refine ⟨A.sw,X.S,ds,_,rfl,aq,Tx.cS,Tx.n4,by show 11 < 1000;decide,?_⟩;rw [CT,eF];walk_at "ev";refine ⟨A.sw,X.S,ds,_,rfl,aq,Tx.cS,Tx.n8,by show 11 < 1000;decide,?_⟩;rw [FW,eF];walk_at "ev";refine ⟨A.sw,X.S,ds,_,rfl,aq,Tx.cS,Tx.n9,by show 11 < 1000;decide,?_⟩;rw [Gb,eF];walk_at "ev";refine ⟨A.sw,X.S,ds,_,rfl,aq,Tx.cS,Tx.n10,by show 11 < 1000;decide,?_⟩;rw [CQ,eF];obtain ⟨st,j'⟩:=j.Zkj w h0 (dx:=ds) (l:=gr) { M.sw with sense:=1 - M.sw.sense,phase:="walk",grey:=[],looked:=rY M.w M.hands.length,turn:=M.sw.turn + 1,walks:=0,looks:=0,passes:=0 } Zhr rfl;subst elo;exact q _ _ _ st j' rfl
 have kp:∀ b o,H b=some o→b≠A.sw→upd (upd H gr (.lst [])) A.sw (.ins X.S ds (dY (1 - M.sw.sense) "walk" gr M.sw.looked (M.sw.turn + 1) M.sw.at' M.sw.stop M.sw.walks M.sw.looks M.sw.passes M.sw.loss)) b=some o:=fun b o hb nb=>by
  rw [aA nb,aA (aD hb Zhr)];exact hb
 have dS:∀ {a:Addr}{C d:Addr}{fs:List (Str×V)},H a=some (.ins C d fs)→fs.length < 11→a≠A.sw:=fun e hl z=>by
  rw [z,os] at e;have:=Option.some.inj e
  injection this with _ _ e3
  rw [← e3] at hl;exact absurd hl (by show ¬ 11 < 11;decide)
 have ow3:=kp _ _ ow (dS ow (by show 5 < 11;decide));have ok3:=kp _ _ ok (dS ok (by show 2 < 11;decide));have on3:=kp _ _ on (Dy on os (fun z=>by cases z));generalize hH3:upd (upd H gr (.lst [])) A.sw (.ins X.S ds (dY (1 - M.sw.sense) "walk" gr M.sw.looked (M.sw.turn + 1) M.sw.at' M.sw.stop M.sw.walks M.sw.looks M.sw.passes M.sw.loss))=H3 at kp ow3 ok3 on3 ⊢;have Znn:((A.hs.map fun p=>V.ref p.1).length:Int)=(M.hands.length:Int):=by rw [bh,lh]
 refine Zct ?_;walk_at "es";rcases ol with ⟨ew,o⟩ | ⟨ew,o⟩ | ⟨ew,o⟩
 ·have o3:=kp _ _ o (dS o (by show 0 < 11;decide));refine Zcu ?_;walk_at "es";refine aR ow3 Tx.cW Tx.nWk lR ?_;refine aR ok3 Tx.cK Tx.nKl jj ?_;walk_at "es";refine ⟨A.lk,dl,_,rfl,o3,rfl,?_⟩;walk_at "es";refine aR ow3 Tx.cW Tx.nWd lC ?_;walk_at "es";refine jV (cF.of on3) ?_;rw [Znn];walk_at "es";refine ⟨A.lk,_,rfl,by omega,by omega,?_⟩;walk_at "es";exact fin rfl (by unfold rY;rw [if_pos ew,if_pos rfl,Int.toNat_natCast]) _ hH3.symm
 ·have o3:=kp _ _ o (dS o (by show 0 < 11;decide));refine R1 (Zcu ?_);walk_at "es";refine aR ow3 Tx.cW Tx.nWk lR ?_;refine aR ok3 Tx.cK Tx.nKl jj ?_;walk_at "es";refine ⟨A.lk,dl,_,rfl,o3,rfl,?_⟩;walk_at "es";refine aR ow3 Tx.cW Tx.nWd lC ?_;walk_at "es";refine jV (cF.of on3) ?_;rw [Znn];walk_at "es";refine ⟨A.lk,_,rfl,by omega,by omega,?_⟩;walk_at "es";exact fin rfl (by unfold rY;rw [if_neg (show ¬ (1:Nat)=0 by decide),if_neg (by omega)]) _ hH3.symm
 ·have o3:=kp _ _ o (dS o (by show 0 < 11;decide));refine R1 (R1 ?_);walk_at "es";refine aR ow3 Tx.cW Tx.nWk lR ?_;refine aR ok3 Tx.cK Tx.nKl jj ?_;walk_at "es";refine ⟨A.lk,dl,_,rfl,o3,rfl,?_⟩;walk_at "es";refine aR ow3 Tx.cW Tx.nWd lC ?_;walk_at "es";refine jV (cF.of on3) ?_;rw [Znn];walk_at "es";refine ⟨A.lk,_,rfl,by omega,by omega,?_⟩;walk_at "es";exact fin rfl (by unfold rY;rw [if_neg (show ¬ (1:Nat)=0 by decide),if_neg (by omega)]) _ hH3.symm
end
def K7:Sp:=fun vs H Q E=>∃ c m,vs=[.int c,.int m]∧(0≤m∧m≤100)∧∀ (l:Addr) (ws:List Str) H',bN H H'→H' l=some (.lst (ws.map V.str))→ws.length=m.toNat→H l=none→Q (.ref l) H'
variable {K:aG}{X:Cs}{rf:Rf→Addr}{H:Hp}{Q:VK}{E:XK}{n:St→Hp→Prop}{bk ct:St→Hp→Prop}
section
theorem Zcd (c:Nat):(⟨#[c]⟩:Str).length=1:=rfl
theorem Zm4 (a b:Str):(a ++ b).length=a.length + b.length:=by
 show (a.cps ++ b.cps).size=_;rw [Array.size_append];rfl
theorem Q6 {c m:Int} (q:(0≤m∧m≤100)∧∀ (l:Addr) (ws:List Str) H',bN H H'→H' l=some (.lst (ws.map V.str))→ws.length=m.toNat→H l=none→Q (.ref l) H'):
  uT K pG ⟨n,Q,bk,ct⟩ [some (.int c),some (.int m),none,none,none,none,none,none,none,none] H:=by
 obtain ⟨⟨m0,m1⟩,q⟩:=q;unfold uT;walk_at "ev";refine ⟨_,_,rfl,by decide,by decide,fun z1 h1 _=>?_⟩;walk_at "ev";have c1:=Int.emod_nonneg z1 (show (12:Int)≠0 by decide);have c2:=Int.emod_lt_of_pos z1 (show (0:Int) < 12 by decide);obtain ⟨size,es⟩:=toN (x:=1 + z1 % 12) (by omega);have hs:1≤size∧size≤12:=by omega
 rw [es];refine ⟨_,rfl,by omega,by omega,?_⟩;refine forR (fun k σ Hx=>Hx=H∧∃ (w:Str) (v5:Option V),σ=[some (.int c),some (.int m),some (.str "abcdefghijklmnopqrstuvwxyz"),some (.int size),some (.str w),v5,none,none,none,none]∧w.length≤k) ⟨rfl,_,_,rfl,Nat.le_refl _⟩ ?_ ?_
 ·rintro k σ Hx hk ⟨rfl,w,v5,rfl,hw⟩;have Zqz:k≤12:=by omega
  have hii:(k:Int) * k≤144:=by
   have:=Nat.mul_le_mul Zqz Zqz;have e:((k * k:Nat):Int)=(k:Int) * k:=by push_cast;rfl
   omega
  have hi0:0≤(k:Int) * k:=Int.mul_nonneg (by omega) (by omega);rw [Int.zero_add];walk_at "ev";refine ⟨_,_,rfl,by omega,by omega,fun z2 h2 _=>?_⟩;walk_at "ev";have d1:=Int.emod_nonneg z2 (show (26:Int)≠0 by decide);have d2:=Int.emod_lt_of_pos z2 (show (0:Int) < 26 by decide);refine Zb5 (by decide) d1 (by show z2 % 26 < 26;exact d2) fun ch=>?_;walk_at "ev";refine ⟨w,⟨#[ch]⟩,rfl,rfl,by rw [Zcd];exact bu (by omega),?_⟩;walk_at "ev";exact ⟨rfl,_,_,rfl,by rw [Zm4,Zcd];omega⟩
 ·rintro σ Hx ⟨rfl,w,v5,rfl,hw⟩;have hw:w.length≤12:=by omega
  walk_at "ev";refine ⟨_,_,rfl,by decide,by decide,fun z3 h3 _=>?_⟩;walk_at "ev";refine ⟨_,_,rfl,by decide,by decide,fun z4 h4 _=>?_⟩;walk_at "ev";have e1:=Int.emod_nonneg z3 (show (size:Int)≠0 by omega);have f1:=Int.emod_nonneg z4 (show (26:Int)≠0 by decide);generalize z3 % (size:Int)=at' at e1 ⊢;generalize z4 % 26=start at f1 ⊢;refine ⟨by decide,fun wl nwl=>?_⟩;have s1:=aN nwl (.lst []);have g1:upd Hx wl (.lst []) wl=some (.lst (([]:List Str).map V.str)):=aq;generalize upd Hx wl (.lst [])=H1 at s1 g1 ⊢;walk_at "ev";refine ⟨_,rfl,by omega,by omega,?_⟩;refine forR (fun k σ H2=>∃ (ws:List Str) (v5 v9:Option V),σ=[some (.int c),some (.int m),some (.str "abcdefghijklmnopqrstuvwxyz"),some (.int size),some (.str w),v5,some (.int at'),some (.int start),some (.ref wl),v9]∧bN Hx H2∧H2 wl=some (.lst (ws.map V.str))∧ws.length=k) ⟨[],_,_,rfl,s1,g1,rfl⟩ ?_ ?_
  ·rintro k σ H2 hk ⟨ws,v5,v9,rfl,s2,g2,hl⟩;have hk:k < 101:=by omega
   rw [Int.zero_add];have fin:∀ (one:Str) (v5:Option V),∀ (nn:St→Hp→Prop) (rr:VK) (bb cc:St→Hp→Prop),(∀ σ H',(∃ (ws:List Str) (v5 v9:Option V),σ=[some (.int c),some (.int m),some (.str "abcdefghijklmnopqrstuvwxyz"),some (.int size),some (.str w),v5,some (.int at'),some (.int start),some (.ref wl),v9]∧bN Hx H'∧H' wl=some (.lst (ws.map V.str))∧ws.length=k + 1)→nn σ H')→
     rH (ZF K "list" mJ (aj 8) (ak (aj 9) aL)) ⟨nn,rr,bb,cc⟩ [some (.int c),some (.int m),some (.str "abcdefghijklmnopqrstuvwxyz"),some (.int size),some (.str w),v5,some (.int at'),some (.int start),some (.ref wl),some (.str one)] H2:=by
    intro one v5 nn rr bb cc hD;walk_at "ev";refine ⟨.inl ⟨rfl,_,cF.of g2⟩,?_⟩;walk_at "ev";refine ⟨wl,_,_,rfl,rfl,g2,?_,?_⟩
    ·rw [bh];exact Nat.lt_of_le_of_lt (show _≤1000 by omega) (by decide)
    rw [show ws.map V.str ++ [V.str one]=(ws ++ [one]).map V.str from by rw [List.map_append];rfl];walk_at "ev";exact hD _ _ ⟨ws ++ [one],_,_,rfl,fun b o hb=>by rw [aA (aD hb nwl)];exact s2 _ _ hb,aq,by rw [List.length_append,hl];rfl⟩
   have l1:=zU w none (some at');have l2:=zU w (some (at' + 1)) none;walk_at "ev";refine Zma (bu (by omega)) ?_;walk_at "ev";have d1:=Int.emod_nonneg (start + k) (show (26:Int)≠0 by decide);have d2:=Int.emod_lt_of_pos (start + k) (show (0:Int) < 26 by decide);refine Zb5 (by decide) d1 (by show (start + k) % 26 < 26;exact d2) fun ch=>?_;walk_at "ev";refine ⟨_,⟨#[ch]⟩,rfl,rfl,by rw [Zcd];exact bu (by omega),?_⟩;walk_at "ev";refine Zma (bu (by omega)) ?_;walk_at "ev";refine ⟨_,_,rfl,rfl,by rw [Zm4,Zcd];exact bu (by omega),?_⟩;walk_at "ev";refine sO (fun _=>?_) (fun _=>?_)
   ·refine Zmb ?_;refine i_C ?_;refine Zqo ?_;exact fin _ _ _ _ _ _ fun σ H' h=>h
   ·refine Nr ?_;exact fin _ _ _ _ _ _ fun σ H' h=>h
  ·rintro σ H2 ⟨ws,v5,v9,rfl,s2,g2,hl⟩;walk_at "ev";exact q wl ws H2 s2 g2 hl nwl
end
def zK (ks:List Str) (vs:List V):List (L2.Key×V):=List.zipWith (fun z v=>((Sum.inr z:L2.Key),v)) ks vs
theorem Zpj {k:Str}{v:V}:∀ {ks:List Str}{vs:List V}{i:Nat},ks[i]? =some k→((ks.take i).all fun z=>!decide (z=k))=true→vs[i]? =some v→oK (zK ks vs) (Sum.inr k)=some v
 | [],_,_,h,_,_=>by simp at h
 | _ :: _,[],_,_,_,h=>by simp at h
 | a :: ks,b :: vs,0,h1,_,h3=>by
  have e1:a=k:=by simpa using h1
  have e3:b=v:=by simpa using h3
  subst e1 e3;exact sV (p:=((Sum.inr a:L2.Key),b)) rfl
 | a :: ks,b :: vs,i + 1,h1,h2,h3=>by
  rw [List.take_succ_cons,List.all_cons,Bool.and_eq_true] at h2;have ne:¬ a=k:=by simpa using h2.1
  refine (qD (p:=((Sum.inr a:L2.Key),b)) (fun e=>ne (Sum.inr.inj e))).trans ?_;exact Zpj (by simpa using h1) h2.2 (by simpa using h3)
theorem Zm1 {k:Str}:∀ {ks:List Str}{vs:List V},(ks.all fun z=>!decide (z=k))=true→oK (zK ks vs) (Sum.inr k)=none
 | [],_,_=>rfl
 | _ :: _,[],_=>rfl
 | a :: ks,b :: vs,h=>by
  rw [List.all_cons,Bool.and_eq_true] at h;have ne:¬ a=k:=by simpa using h.1
  exact (qD (p:=((Sum.inr a:L2.Key),b)) (fun e=>ne (Sum.inr.inj e))).trans (Zm1 h.2)
theorem Zrx {ks:List Str}{vs:List V}{k:Str}{v:V} (hl:ks.length=vs.length) (h:(ks.all fun z=>!decide (z=k))=true):putK (zK ks vs) (Sum.inr k) v=zK (ks ++ [k]) (vs ++ [v]):=by
 rw [Mu _ (Zm1 h)];unfold zK;rw [List.zipWith_append hl];rfl
theorem Xe {H:Hp}{d:Addr}{ks:List Str}{vs:List V}{k:Str}{v:V}{i:Nat} (hd:H d=some (.dK (zK ks vs))) (h1:ks[i]? =some k) (h2:((ks.take i).all fun z=>!decide (z=k))=true) (h3:vs[i]? =some v):qg H d (.str k) (some v):=by
 have:=qg.k (k:=Sum.inr k) hd;rw [Zpj h1 h2 h3] at this;exact this
theorem Zrw {ks:List Str}{vs:List V}{k:Str}{v:V}{i:Nat} (h1:ks[i]? =some k) (nd:ks.Nodup) (hl:ks.length=vs.length):putK (zK ks vs) (Sum.inr k) v=zK ks (vs.set i v):=by
 have hi:i < ks.length:=(cI h1).1;have hk:∀ j,ks[j]? =some k→j=i:=fun j hj=>((List.getElem?_inj hi nd).mp (h1.trans hj.symm)).symm;unfold putK;rw [if_pos]
 ·apply List.ext_getElem?;intro j;unfold zK;rw [bx,List.getElem?_zipWith,List.getElem?_zipWith]
  by_cases e:j=i
  ·subst e;rw [h1,List.getElem?_set_self (by omega),bO (show j < vs.length by omega)];simp
  ·rw [List.getElem?_set_ne (Ne.symm e)];cases hj:ks[j]? with
   | none=>rfl
   | some z=>
    cases vs[j]? with
    | none=>rfl
    | some u=>
     have ne:¬ z=k:=fun ez=>e (hk j (by rw [hj,ez]));simp [ne]
 ·rw [List.any_eq_true];refine ⟨(Sum.inr k,vs[i]'(by omega)),?_,by simp⟩;refine List.mem_of_getElem? (i:=i) ?_;unfold zK;rw [List.getElem?_zipWith,h1,bO (show i < vs.length by omega)]
theorem Zpi {H:Hp}{d:Addr}{ks:List Str}{vs:List V}{k:Str}{v:V}{i:Nat} (hd:H d=some (.dK (zK ks vs))) (h1:ks[i]? =some k) (nd:ks.Nodup) (hl:ks.length=vs.length) (h20:ks.length≤20):zY H d (.str k) v (upd H d (.dK (zK ks (vs.set i v)))):=by
 have:=zY.k (k:=Sum.inr k) (v:=v) hd (by
  unfold zK;rw [List.length_zipWith];exact Nat.lt_of_le_of_lt (show _≤20 by omega) (by decide))
 rw [Zrw h1 nd hl] at this;exact this
structure Sc where
 un:Int
 ld:Int
 fl:List (Option Int)
structure Cw where
 room:Int
 used:Int
 born:Int
 rows:List (List (Option Int))
 cells:List Sc
 words:List (Str×Int)
structure Sa where
 d:Addr
 lr:Addr
 dc:Addr
 dw:Addr
 rs:List Addr
 cs:List (Addr×Addr)
def stN:List Str:=["room","used","born","rows","cells","words"]
def stV (room used born:Int) (lr dc dw:Addr):List V:=[.int room,.int used,.int born,.ref lr,.ref dc,.ref dw]
def Sx (cs:List (Addr×Addr)):List (L2.Key×V):=cs.zipIdx.map fun x=>(Sum.inl ((x.2:Int) + 1),V.ref x.1.1)
def wdK (ws:List (Str×Int)):List (L2.Key×V):=ws.map fun m=>(Sum.inr m.1,V.int m.2)
structure lH (H:Hp) (T:Tg) (r:Nat) (A:Sa) (S:Cw):Prop where
 td:T A.d=(r,0)
 od:H A.d=some (.dK (zK stN (stV S.room S.used S.born A.lr A.dc A.dw)))
 tr:T A.lr=(r,1)
 orr:H A.lr=some (.lst (A.rs.map V.ref))
 rl:A.rs.length=S.rows.length
 r5:A.rs.length≤30
 rr:∀ (j:Nat) a x,A.rs[j]? =some a→S.rows[j]? =some x→T a=(r,10 + j)∧H a=some (.lst (x.map oV))
 tc:T A.dc=(r,2)
 oc:H A.dc=some (.dK (Sx A.cs))
 cl:A.cs.length=S.cells.length
 cc:∀ (i:Nat) p c,A.cs[i]? =some p→S.cells[i]? =some c→T p.1=(r,100 + 2 * i)∧T p.2=(r,101 + 2 * i)∧H p.1=some (.lst [.int c.un,.int c.ld,.ref p.2])∧H p.2=some (.lst (c.fl.map oV))
 tw:T A.dw=(r,3)
 ow:H A.dw=some (.dK (wdK S.words))
structure qz (r:Nat) (H H':Hp) (T T':Tg):Prop extends Stp r H H' T T' where
 tk:∀ b xs,H b=some (.tup xs)→H' b=some (.tup xs)
theorem qz.trans {r:Nat}{H H1 H2:Hp}{T T1 T2:Tg} (a:qz r H H1 T T1) (b:qz r H1 H2 T1 T2):qz r H H2 T T2:=⟨a.toStp.trans b.toStp,fun c xs h=>b.tk c xs (a.tk c xs h)⟩
theorem qz.same {r:Nat}{H H':Hp}{T:Tg} (w:WT H T) (e:bN H H'):qz r H H' T T:=⟨Stp.same w e,fun c xs h=>e _ _ h⟩
theorem qz.refl {r:Nat}{H:Hp}{T:Tg} (w:WT H T):qz r H H T T:=⟨Stp.refl w,fun _ _ h=>h⟩
theorem qz.upd {r:Nat}{H:Hp}{T:Tg}{a:Addr}{o o0:HO} (w:WT H T) (h:H a=some o0) (t:(T a).1=r) (hn:∀ xs,o0≠.tup xs):qz r H (L2.upd H a o) T T:=⟨Stp.upd w h t,fun b xs q=>by
 rw [aA (fun z=>by rw [z,h] at q;exact hn xs (Option.some.inj q))];exact q⟩
section
variable {H H':Hp}{T T':Tg}{r:Nat}{A:Sa}{S:Cw}
theorem lH.keep (s:lH H T r A S) (hk:∀ b o,H b=some o→(T b).1=r→H' b=some o) (ht:∀ b o,H b=some o→T' b=T b):lH H' T' r A S:=by
 obtain ⟨a1,a2,a3,a4,a5,a6,a7,a8,a9,a10,a11,a12,a13⟩:=s;refine ⟨(ht _ _ a2).trans a1,hk _ _ a2 (by rw [a1]),(ht _ _ a4).trans a3,hk _ _ a4 (by rw [a3]),a5,a6,fun j a x e1 e2=>?_,(ht _ _ a9).trans a8,hk _ _ a9 (by rw [a8]),a10,fun i p c e1 e2=>?_,(ht _ _ a13).trans a12,hk _ _ a13 (by rw [a12])⟩
 ·obtain ⟨b1,b2⟩:=a7 j a x e1 e2;exact ⟨(ht _ _ b2).trans b1,hk _ _ b2 (by rw [b1])⟩
 ·obtain ⟨b1,b2,b3,b4⟩:=a11 i p c e1 e2;exact ⟨(ht _ _ b3).trans b1,(ht _ _ b4).trans b2,hk _ _ b3 (by rw [b1]),hk _ _ b4 (by rw [b2])⟩
theorem lH.same (s:lH H T r A S) (e:bN H H'):lH H' T r A S:=s.keep (fun b o h _=>e b o h) fun _ _ _=>rfl
theorem lH.other {q:Nat} (s:lH H T r A S) (st:Stp q H H' T T') (n:r≠q):lH H' T' r A S:=s.keep (fun b o h t=>st.kp b o h (by rw [t];exact n)) st.tg
theorem lH.room (s:lH H T r A S):qg H A.d (.str "room") (some (.int S.room)):=Xe (i:=0) s.od rfl (by decide +kernel) rfl
theorem lH.used (s:lH H T r A S):qg H A.d (.str "used") (some (.int S.used)):=Xe (i:=1) s.od rfl (by decide +kernel) rfl
theorem lH.born (s:lH H T r A S):qg H A.d (.str "born") (some (.int S.born)):=Xe (i:=2) s.od rfl (by decide +kernel) rfl
theorem lH.rows (s:lH H T r A S):qg H A.d (.str "rows") (some (.ref A.lr)):=Xe (i:=3) s.od rfl (by decide +kernel) rfl
theorem lH.cells (s:lH H T r A S):qg H A.d (.str "cells") (some (.ref A.dc)):=Xe (i:=4) s.od rfl (by decide +kernel) rfl
theorem lH.words (s:lH H T r A S):qg H A.d (.str "words") (some (.ref A.dw)):=Xe (i:=5) s.od rfl (by decide +kernel) rfl
theorem lH.row (s:lH H T r A S) {h:Nat}{x:List (Option Int)} (hx:S.rows[h]? =some x):∃ a,A.rs[h]? =some a∧T a=(r,10 + h)∧H a=some (.lst (x.map oV)):=by
 have hl:h < A.rs.length:=by rw [s.rl];exact (cI hx).1
 exact ⟨_,bO hl,s.rr h _ x (bO hl) hx⟩
theorem lH.cell (s:lH H T r A S) {i:Nat}{c:Sc} (hc:S.cells[i]? =some c):∃ p,A.cs[i]? =some p∧T p.1=(r,100 + 2 * i)∧T p.2=(r,101 + 2 * i)∧H p.1=some (.lst [.int c.un,.int c.ld,.ref p.2])∧H p.2=some (.lst (c.fl.map oV)):=by
 have hl:i < A.cs.length:=by rw [s.cl];exact (cI hc).1
 exact ⟨_,bO hl,s.cc i _ c (bO hl) hc⟩
theorem Zio {cs:List (Addr×Addr)}{i:Nat}{p:Addr×Addr} (h:cs[i]? =some p):oK (Sx cs) (Sum.inl ((i:Int) + 1))=some (.ref p.1):=by
 have go:∀ (cs:List (Addr×Addr)) (n i:Nat),cs[i]? =some p→oK ((cs.zipIdx n).map fun x=>((Sum.inl ((x.2:Int) + 1):L2.Key),V.ref x.1.1)) (Sum.inl (((n + i:Nat):Int) + 1))=some (.ref p.1):=by
  intro cs
  induction cs with
  | nil=>intro n i h;simp at h
  | cons a cs ih=>
   intro n i h;rw [List.zipIdx_cons,List.map_cons];cases i with
   | zero=>
    have e:a=p:=by simpa using h
    subst e;exact sV rfl
   | succ i=>
    refine (qD (fun e=>?_)).trans ?_
    ·have:=Sum.inl.inj e;dsimp only at this;omega
    ·have:=ih (n + 1) i (by simpa using h);rw [show n + (i + 1)=n + 1 + i from by omega];exact this
 have:=go cs 0 i h;rw [Nat.zero_add] at this;exact this
theorem Zin {cs:List (Addr×Addr)}{b:Int} (h:(cs.length:Int) < b):oK (Sx cs) (Sum.inl b)=none:=by
 cases e:oK (Sx cs) (Sum.inl b) with
 | none=>rfl
 | some v=>
  have hm:=Zca e;unfold Sx at hm;rw [List.map_map] at hm;obtain ⟨x,hx,ex⟩:=List.mem_map.mp hm;have e2:((x.2:Int) + 1)=b:=Sum.inl.inj ex;have:=List.snd_lt_of_mem_zipIdx hx;omega
theorem Zim (cs:List (Addr×Addr)) (p:Addr×Addr):Sx (cs ++ [p])=Sx cs ++ [(Sum.inl ((cs.length:Int) + 1),V.ref p.1)]:=by
 unfold Sx;rw [List.zipIdx_append,List.map_append];simp
theorem Zd3 (cs:List (Addr×Addr)):(Sx cs).length=cs.length:=by unfold Sx;rw [bh,List.length_zipIdx]
theorem lH.JX (s:lH H T r A S) {i:Nat}{p:Addr×Addr} (hp:A.cs[i]? =some p):qg H A.dc (.int ((i:Int) + 1)) (some (.ref p.1)):=by
 have:=qg.k (k:=Sum.inl ((i:Int) + 1)) s.oc;rw [Zio hp] at this;exact this
theorem lH.Zs9 (s:lH H T r A S) (w:WT H T) (used:Int):qz r H (upd H A.d (.dK (zK stN (stV S.room used S.born A.lr A.dc A.dw)))) T T∧lH (upd H A.d (.dK (zK stN (stV S.room used S.born A.lr A.dc A.dw)))) T r A { S with used:=used }:=by
 refine ⟨qz.upd w s.od (by rw [s.td]) (fun _ z=>by cases z),?_⟩;have ne:∀ b m,T b=(r,m)→m≠0→b≠A.d:=fun b m t hm z=>hm (by rw [z,s.td] at t;exact (congrArg Prod.snd t).symm);refine ⟨s.td,aq,s.tr,(aA (ne _ _ s.tr (by decide))).trans s.orr,s.rl,s.r5,fun j a x e1 e2=>?_,s.tc,(aA (ne _ _ s.tc (by decide))).trans s.oc,s.cl,fun i p c e1 e2=>?_,s.tw,(aA (ne _ _ s.tw (by decide))).trans s.ow⟩
 ·obtain ⟨b1,b2⟩:=s.rr j a x e1 e2;exact ⟨b1,(aA (ne _ _ b1 (by omega))).trans b2⟩
 ·obtain ⟨b1,b2,b3,b4⟩:=s.cc i p c e1 e2;exact ⟨b1,b2,(aA (ne _ _ b1 (by omega))).trans b3,(aA (ne _ _ b2 (by omega))).trans b4⟩
theorem lH.setB (s:lH H T r A S) (w:WT H T) (born:Int):qz r H (upd H A.d (.dK (zK stN (stV S.room S.used born A.lr A.dc A.dw)))) T T∧lH (upd H A.d (.dK (zK stN (stV S.room S.used born A.lr A.dc A.dw)))) T r A { S with born:=born }:=by
 refine ⟨qz.upd w s.od (by rw [s.td]) (fun _ z=>by cases z),?_⟩;have ne:∀ b m,T b=(r,m)→m≠0→b≠A.d:=fun b m t hm z=>hm (by rw [z,s.td] at t;exact (congrArg Prod.snd t).symm);refine ⟨s.td,aq,s.tr,(aA (ne _ _ s.tr (by decide))).trans s.orr,s.rl,s.r5,fun j a x e1 e2=>?_,s.tc,(aA (ne _ _ s.tc (by decide))).trans s.oc,s.cl,fun i p c e1 e2=>?_,s.tw,(aA (ne _ _ s.tw (by decide))).trans s.ow⟩
 ·obtain ⟨b1,b2⟩:=s.rr j a x e1 e2;exact ⟨b1,(aA (ne _ _ b1 (by omega))).trans b2⟩
 ·obtain ⟨b1,b2,b3,b4⟩:=s.cc i p c e1 e2;exact ⟨b1,b2,(aA (ne _ _ b1 (by omega))).trans b3,(aA (ne _ _ b2 (by omega))).trans b4⟩
theorem lH.Zdn (s:lH H T r A S) (w:WT H T) {h k:Nat}{a:Addr}{x:List (Option Int)}{y:Option Int} (ha:A.rs[h]? =some a) (hx:S.rows[h]? =some x):
  qz r H (upd H a (.lst ((x.map oV).set k (oV y)))) T T∧lH (upd H a (.lst ((x.map oV).set k (oV y)))) T r A { S with rows:=S.rows.set h (x.set k y) }:=by
 obtain ⟨ta,oa⟩:=s.rr h a x ha hx;have hl:h < A.rs.length:=(cI ha).1;have h30:=s.r5;have hl':h < S.rows.length:=by rw [← s.rl];exact hl
 refine ⟨qz.upd w oa (by rw [ta]) (fun _ z=>by cases z),?_⟩;have ne:∀ b m,T b=(r,m)→m≠10 + h→b≠a:=fun b m t hm z=>hm (by rw [z,ta] at t;exact (congrArg Prod.snd t).symm);refine ⟨s.td,(aA (ne _ _ s.td (by omega))).trans s.od,s.tr,(aA (ne _ _ s.tr (by omega))).trans s.orr,by rw [List.length_set];exact s.rl,s.r5,fun j b z e1 e2=>?_,s.tc,(aA (ne _ _ s.tc (by omega))).trans s.oc,s.cl,fun i p c e1 e2=>?_,s.tw,(aA (ne _ _ s.tw (by omega))).trans s.ow⟩
 ·dsimp only at e2
  by_cases hj:j=h
  ·subst hj;rw [List.getElem?_set_self hl'] at e2;rw [ha] at e1;cases e1;cases e2;exact ⟨ta,by rw [aq,List.map_set]⟩
  ·rw [List.getElem?_set_ne (Ne.symm hj)] at e2;obtain ⟨b1,b2⟩:=s.rr j b z e1 e2;exact ⟨b1,(aA (ne _ _ b1 (by omega))).trans b2⟩
 ·obtain ⟨b1,b2,b3,b4⟩:=s.cc i p c e1 e2;exact ⟨b1,b2,(aA (ne _ _ b1 (by omega))).trans b3,(aA (ne _ _ b2 (by omega))).trans b4⟩
theorem lH.Zs8 (s:lH H T r A S) (w:WT H T) (ws:List (Str×Int)):qz r H (upd H A.dw (.dK (wdK ws))) T T∧lH (upd H A.dw (.dK (wdK ws))) T r A { S with words:=ws }:=by
 refine ⟨qz.upd w s.ow (by rw [s.tw]) (fun _ z=>by cases z),?_⟩;have ne:∀ b m,T b=(r,m)→m≠3→b≠A.dw:=fun b m t hm z=>hm (by rw [z,s.tw] at t;exact (congrArg Prod.snd t).symm);refine ⟨s.td,(aA (ne _ _ s.td (by decide))).trans s.od,s.tr,(aA (ne _ _ s.tr (by decide))).trans s.orr,s.rl,s.r5,fun j a x e1 e2=>?_,s.tc,(aA (ne _ _ s.tc (by decide))).trans s.oc,s.cl,fun i p c e1 e2=>?_,s.tw,aq⟩
 ·obtain ⟨b1,b2⟩:=s.rr j a x e1 e2;exact ⟨b1,(aA (ne _ _ b1 (by omega))).trans b2⟩
 ·obtain ⟨b1,b2,b3,b4⟩:=s.cc i p c e1 e2;exact ⟨b1,b2,(aA (ne _ _ b1 (by omega))).trans b3,(aA (ne _ _ b2 (by omega))).trans b4⟩
theorem lH.Zsa (s:lH H T r A S) (w:WT H T) {i:Nat}{p:Addr×Addr}{c:Sc}{l:Int} (hp:A.cs[i]? =some p) (hc:S.cells[i]? =some c):
  qz r H (upd H p.1 (.lst [.int c.un,.int l,.ref p.2])) T T∧lH (upd H p.1 (.lst [.int c.un,.int l,.ref p.2])) T r A { S with cells:=S.cells.set i { c with ld:=l } }:=by
 obtain ⟨t1,t2,o1,o2⟩:=s.cc i p c hp hc;have hl':i < S.cells.length:=(cI hc).1;refine ⟨qz.upd w o1 (by rw [t1]) (fun _ z=>by cases z),?_⟩;have ne:∀ b m,T b=(r,m)→m≠100 + 2 * i→b≠p.1:=fun b m t hm z=>hm (by rw [z,t1] at t;exact (congrArg Prod.snd t).symm);have h30:=s.r5;refine ⟨s.td,(aA (ne _ _ s.td (by omega))).trans s.od,s.tr,(aA (ne _ _ s.tr (by omega))).trans s.orr,s.rl,s.r5,fun j b z e1 e2=>?_,s.tc,(aA (ne _ _ s.tc (by omega))).trans s.oc,by rw [List.length_set];exact s.cl,fun k q c' e1 e2=>?_,s.tw,(aA (ne _ _ s.tw (by omega))).trans s.ow⟩
 ·obtain ⟨b1,b2⟩:=s.rr j b z e1 e2;have:=(cI e1).1;exact ⟨b1,(aA (ne _ _ b1 (by omega))).trans b2⟩
 ·dsimp only at e2
  by_cases hk:k=i
  ·subst hk;rw [List.getElem?_set_self hl'] at e2;rw [hp] at e1;cases e1;cases e2;exact ⟨t1,t2,aq,(aA (ne _ _ t2 (by omega))).trans o2⟩
  ·rw [List.getElem?_set_ne (Ne.symm hk)] at e2;obtain ⟨b1,b2,b3,b4⟩:=s.cc k q c' e1 e2;exact ⟨b1,b2,(aA (ne _ _ b1 (by omega))).trans b3,(aA (ne _ _ b2 (by omega))).trans b4⟩
theorem lH.Zsb (s:lH H T r A S) (w:WT H T) {i k:Nat}{p:Addr×Addr}{c:Sc}{y:Option Int} (hp:A.cs[i]? =some p) (hc:S.cells[i]? =some c):
  qz r H (upd H p.2 (.lst ((c.fl.map oV).set k (oV y)))) T T∧lH (upd H p.2 (.lst ((c.fl.map oV).set k (oV y)))) T r A { S with cells:=S.cells.set i { c with fl:=c.fl.set k y } }:=by
 obtain ⟨t1,t2,o1,o2⟩:=s.cc i p c hp hc;have hl':i < S.cells.length:=(cI hc).1;refine ⟨qz.upd w o2 (by rw [t2]) (fun _ z=>by cases z),?_⟩;have ne:∀ b m,T b=(r,m)→m≠101 + 2 * i→b≠p.2:=fun b m t hm z=>hm (by rw [z,t2] at t;exact (congrArg Prod.snd t).symm);have h30:=s.r5;refine ⟨s.td,(aA (ne _ _ s.td (by omega))).trans s.od,s.tr,(aA (ne _ _ s.tr (by omega))).trans s.orr,s.rl,s.r5,fun j b z e1 e2=>?_,s.tc,(aA (ne _ _ s.tc (by omega))).trans s.oc,by rw [List.length_set];exact s.cl,fun k' q c' e1 e2=>?_,s.tw,(aA (ne _ _ s.tw (by omega))).trans s.ow⟩
 ·obtain ⟨b1,b2⟩:=s.rr j b z e1 e2;have:=(cI e1).1;exact ⟨b1,(aA (ne _ _ b1 (by omega))).trans b2⟩
 ·dsimp only at e2
  by_cases hk:k'=i
  ·subst hk;rw [List.getElem?_set_self hl'] at e2;rw [hp] at e1;cases e1;cases e2;exact ⟨t1,t2,(aA (ne _ _ t1 (by omega))).trans o1,by rw [aq,List.map_set]⟩
  ·rw [List.getElem?_set_ne (Ne.symm hk)] at e2;obtain ⟨b1,b2,b3,b4⟩:=s.cc k' q c' e1 e2;exact ⟨b1,b2,(aA (ne _ _ b1 (by omega))).trans b3,(aA (ne _ _ b2 (by omega))).trans b4⟩
theorem lH.Zzh (s:lH H T r A S) (w:WT H T) {p:Addr×Addr}{c:Sc} (sm:bN H H') (n1:H p.1=none) (n2:H p.2=none) (Zsl:p.1≠p.2) (o1:H' p.1=some (.lst [.int c.un,.int c.ld,.ref p.2])) (o2:H' p.2=some (.lst (c.fl.map oV))):
  ∃ T',qz r H (upd H' A.dc (.dK (Sx (A.cs ++ [p])))) T T'∧lH (upd H' A.dc (.dK (Sx (A.cs ++ [p])))) T' r { A with cs:=A.cs ++ [p] } { S with cells:=S.cells ++ [c] }∧∀ b o,H b=some o→T' b=T b:=by
 let T1:Tg:=fG (fG T p.1 (r,100 + 2 * A.cs.length)) p.2 (r,101 + 2 * A.cs.length)
 have told:∀ b o,H b=some o→T1 b=T b:=fun b o h=>by
  show fG _ _ _ b=_;rw [fO (aD h n2),fO (aD h n1)]
 have t1:T1 p.1=(r,100 + 2 * A.cs.length):=by show fG _ _ _ p.1=_;rw [fO Zsl,fB]
 have t2:T1 p.2=(r,101 + 2 * A.cs.length):=by show fG _ _ _ p.2=_;rw [fB]
 have w1:WT H' T1:=fun b hb=>by
  have b1:b≠p.1:=fun e=>by rw [e,o1] at hb;cases hb
  have b2:b≠p.2:=fun e=>by rw [e,o2] at hb;cases hb
  show fG _ _ _ b=_;rw [fO b2,fO b1];exact w b (sm.free hb)
 have s1:lH H' T1 r A S:=s.keep (fun b o h _=>sm b o h) told;have st1:qz r H H' T T1:=⟨⟨fun b o h _=>sm b o h,fun b o h=>⟨o,sm b o h⟩,told,w1⟩,fun b xs h=>sm b _ h⟩;refine ⟨T1,st1.trans (qz.upd w1 s1.oc (by rw [s1.tc]) (fun _ z=>by cases z)),?_,told⟩;have ne:∀ b m,T1 b=(r,m)→m≠2→b≠A.dc:=fun b m t hm z=>hm (by rw [z,s1.tc] at t;exact (congrArg Prod.snd t).symm);refine ⟨s1.td,(aA (ne _ _ s1.td (by decide))).trans s1.od,s1.tr,(aA (ne _ _ s1.tr (by decide))).trans s1.orr,s1.rl,s1.r5,fun j a x e1 e2=>?_,s1.tc,aq,by rw [List.length_append,List.length_append,s1.cl];rfl,fun i q c' e1 e2=>?_,s1.tw,(aA (ne _ _ s1.tw (by decide))).trans s1.ow⟩
 ·obtain ⟨b1,b2⟩:=s1.rr j a x e1 e2;exact ⟨b1,(aA (ne _ _ b1 (by omega))).trans b2⟩
 ·dsimp only at e1 e2
  by_cases hi:i < A.cs.length
  ·rw [List.getElem?_append_left hi] at e1;rw [List.getElem?_append_left (by rw [← s1.cl];exact hi)] at e2;obtain ⟨b1,b2,b3,b4⟩:=s1.cc i q c' e1 e2;exact ⟨b1,b2,(aA (ne _ _ b1 (by omega))).trans b3,(aA (ne _ _ b2 (by omega))).trans b4⟩
  ·have hlen:=(cI e1).1;rw [List.length_append,List.length_singleton] at hlen;have e:i=A.cs.length:=by omega
   subst e;rw [List.getElem?_append_right (Nat.le_refl _),Nat.sub_self] at e1;rw [List.getElem?_append_right (by rw [s1.cl];exact Nat.le_refl _),s1.cl,Nat.sub_self] at e2;have e1':p=q:=by simpa using e1
   have e2':c=c':=by simpa using e2
   subst e1' e2';exact ⟨t1,t2,(aA (ne _ _ t1 (by omega))).trans o1,(aA (ne _ _ t2 (by omega))).trans o2⟩
end
def bV (S:Cw) (h s:Nat):Option Int:=((S.rows[h]?).bind fun x=>x[s]?).join
def dG (S:Cw) (b:Int):Option Sc:=if 1≤b then S.cells[(b - 1).toNat]? else none
def zy (S:Cw) (h s:Nat):Prop:=∃ x,S.rows[h]? =some x∧s < x.length
def Ze6 (S:Cw):iC→Prop
 | .make h s many bulk=>zy S h s∧0≤many∧many≤1000∧0≤bulk
 | .get h s t _=>zy S h s∧zy S h t
 | .put h t _ s=>zy S h t∧zy S h s
 | .copy h s t=>zy S h s∧zy S h t
 | .drop h s=>zy S h s
 | .give h s g t=>zy S h s∧zy S g t
 | .write h t _=>zy S h t
 | .read h t=>zy S h t
 | .name h t _=>zy S h t
 | .seek h s _=>zy S h s
def lU (S:Cw) (z:Str):Option Int:=(S.words.find? fun m=>decide (m.1=z)).map (·.2)
def zT (S:Cw) (o:Option Int) (f:Nat):Str:=match o with
 | none=>"empty"
 | some b=>match dG S b with
  | none=>""
  | some c=>if c.fl.length≤f then "field" else ""
def Zr (o:Option Int):Str:=if o.isSome=true then "" else "empty"
def rW (S:Cw):iC→Str
 | .make _ _ many bulk=>if S.room < S.used + 1 + many + bulk then "full" else ""
 | .get h _ t f=>zT S (bV S h t) f
 | .put h t f _=>zT S (bV S h t) f
 | .copy _ _ _=>""
 | .drop _ _=>""
 | .give _ _ _ _=>""
 | .write h t _=>Zr (bV S h t)
 | .read h t=>Zr (bV S h t)
 | .name h t _=>Zr (bV S h t)
 | .seek _ _ z=>if (lU S z).isSome=true then "" else "name"
def Uo (l:List (Str×Int)) (k:Str) (v:Int):List (Str×Int):=if (l.any fun m=>decide (m.1=k))=true then l.map (fun m=>if m.1=k then (m.1,v) else m) else l ++ [(k,v)]
def jL (S:Cw) (h k:Nat) (x:Option Int):Cw:={ S with rows:=S.rows.modify h fun r=>r.set k x }
def RG (S:Cw) (b:Int) (c:Sc):Cw:={ S with cells:=S.cells.set (b - 1).toNat c }
def Bp (S:Cw):iC→Option Int×Cw
 | .make h s many bulk=>(some (S.born + 1),jL { S with used:=S.used + (1 + many + bulk),born:=S.born + 1,cells:=S.cells ++ [⟨1 + many + bulk,0,List.replicate many.toNat none⟩] } h s (some (S.born + 1)))
 | .get h s t f=>let v:=(((bV S h t).bind (dG S)).bind fun c=>c.fl[f]?).join;(v,jL S h s v)
 | .put h t f s=>match (bV S h t) with
  | none=>(none,S)
  | some b=>match dG S b with
   | none=>(none,S)
   | some c=>((c.fl[f]?).join,RG S b { c with fl:=c.fl.set f (bV S h s) })
 | .copy h s t=>(bV S h t,jL S h s (bV S h t))
 | .drop h s=>(bV S h s,jL S h s none)
 | .give h s g t=>(bV S h s,jL S g t (bV S h s))
 | .write h t l=>match (bV S h t) with
  | none=>(none,S)
  | some b=>match dG S b with
   | none=>(none,S)
   | some c=>(some c.ld,RG S b { c with ld:=l })
 | .read h t=>(((bV S h t).bind (dG S)).map (·.ld),S)
 | .name h t z=>match (bV S h t) with
  | none=>(none,S)
  | some b=>(some b,{ S with words:=Uo S.words z b })
 | .seek h s z=>(lU S z,jL S h s (lU S z))
def WfS (S:Cw):Prop:=∀ x∈S.rows,∀ b,some b∈x→∃ c,dG S b=some c
section
variable {S:Cw}
theorem fP {h s:Nat} (o:zy S h s):∃ x,S.rows[h]? =some x∧x[s]? =some (bV S h s)∧s < x.length:=by
 obtain ⟨x,hx,hs⟩:=o;refine ⟨x,hx,?_,hs⟩;unfold bV;rw [hx];show x[s]? =some ((x[s]?).join);rw [bO hs];rfl
theorem WfS.at (w:WfS S) {h s:Nat}{b:Int} (o:zy S h s) (e:bV S h s=some b):∃ (i:Nat) (c:Sc),b=(i:Int) + 1∧S.cells[i]? =some c∧dG S b=some c:=by
 obtain ⟨x,hx,hxs,_⟩:=fP o;rw [e] at hxs;obtain ⟨c,hc⟩:=w x (List.mem_of_getElem? hx) b (List.mem_of_getElem? hxs);have hc':=hc;unfold dG at hc
 by_cases h1:1≤b
 ·rw [if_pos h1] at hc;exact ⟨(b - 1).toNat,c,by omega,hc,hc'⟩
 ·rw [if_neg h1] at hc;cases hc
theorem S5 (ws:List (Str×Int)) (z:Str):oK (wdK ws) (Sum.inr z)=((ws.find? fun m=>decide (m.1=z)).map (·.2)).map V.int:=by
 induction ws with
 | nil=>rfl
 | cons m ws ih=>
  show oK ((Sum.inr m.1,V.int m.2) :: wdK ws) _=_
  by_cases e:m.1=z
  ·rw [sV (congrArg Sum.inr e),List.find?_cons_of_pos (by simpa using e)];rfl
  ·rw [qD (fun x=>e (Sum.inr.inj x)),List.find?_cons_of_neg (by simpa using e)];exact ih
theorem Ziz (ws:List (Str×Int)) (z:Str) (b:Int):putK (wdK ws) (Sum.inr z) (.int b)=wdK (Uo ws z b):=by
 unfold putK Uo;have e:((wdK ws).any fun kv=>decide (kv.1=Sum.inr z))=ws.any fun m=>decide (m.1=z):=by
  unfold wdK;rw [List.any_map];congr 1
  funext m
  show decide ((Sum.inr m.1:L2.Key)=Sum.inr z)=_;exact decide_eq_decide.mpr ⟨fun h=>Sum.inr.inj h,fun h=>congrArg _ h⟩
 rw [e];split
 ·unfold wdK;rw [List.map_map,List.map_map];refine List.map_congr_left fun m _=>?_;show (if (Sum.inr m.1:L2.Key)=Sum.inr z then ((Sum.inr m.1:L2.Key),V.int b) else (Sum.inr m.1,V.int m.2))=_
  by_cases h:m.1=z
  ·rw [if_pos (congrArg _ h)];show _=(Sum.inr (if m.1=z then (m.1,b) else m).1,V.int (if m.1=z then (m.1,b) else m).2);rw [if_pos h]
  ·rw [if_neg (fun x=>h (Sum.inr.inj x))];show _=(Sum.inr (if m.1=z then (m.1,b) else m).1,V.int (if m.1=z then (m.1,b) else m).2);rw [if_neg h]
 ·unfold wdK;rw [List.map_append];rfl
theorem Xm {h k:Nat}{x:List (Option Int)}{y:Option Int} (hx:S.rows[h]? =some x):(jL S h k y).rows=S.rows.set h (x.set k y):=by
 show S.rows.modify h _=_;apply List.ext_getElem?;intro i;rw [List.getElem?_modify]
 by_cases e:h=i
 ·subst e;rw [List.getElem?_set_self (cI hx).1,hx];simp
 ·rw [List.getElem?_set_ne e];simp [e]
theorem pL {h k:Nat}{x:List (Option Int)}{y:Option Int} (hx:S.rows[h]? =some x):jL S h k y={ S with rows:=S.rows.set h (x.set k y) }:=by
 have:=Xm (k:=k) (y:=y) hx;show { S with rows:=S.rows.modify h _ }=_;rw [show S.rows.modify h (fun r=>r.set k y)=S.rows.set h (x.set k y) from this]
end
def Zd7 (K:aG):Sp:=fun vs H Q E=>∃ d dd,vs=[.ref d,.ref dd]∧∃ T r A S dl,lH H T r A S∧A.d=d∧H dd=some (.tup (dV dl))∧Ze6 S dl∧WfS S∧∀ H',bN H H'→Q (.str (rW S dl)) H'
local macro_rules | `(tactic| walk_at "nx")=>`(tactic| (refine sO (fun z=>absurd z (by decide)) (fun _=>?_);walk_at "ev"))
local macro_rules | `(tactic| walk_at "yx")=>`(tactic| (refine sO (fun _=>?_) (fun z=>absurd rfl z);walk_at "ev"))
local macro_rules | `(tactic| walk_at "tx")=>`(tactic| (refine ⟨_,_,_,_,rfl,rfl,j4.of (by assumption),rfl,?_⟩;walk_at "ev"))
abbrev five:List V:=[V.str "make",V.str "seek",V.str "copy",V.str "drop",V.str "give"]
theorem i5 (w:Str) (b:Bool) (h:inV (V.str w) five=b:=by decide +kernel):(if false=true then !inV (V.str w) five else inV (V.str w) five)=b:=h
set_option hygiene false in
local macro_rules | `(tactic| walk_at "t5")=>`(tactic| (refine ⟨bu (by simp),fun tp Va=>?_⟩;have s1:=aN Va (.tup five);have g1:upd H tp (.tup five) tp=some (.tup five):=aq;generalize upd H tp (.tup five)=H1 at s1 g1 ⊢;refine ⟨tp,_,rfl,.inr (j4.of g1),rfl,rfl,?_⟩))
section
theorem Ji {d dd:Addr} (q:∃ T r A S dl,lH H T r A S∧A.d=d∧H dd=some (.tup (dV dl))∧Ze6 S dl∧WfS S∧∀ H',bN H H'→Q (.str (rW S dl)) H'):
  pP K ⟨n,Q,bk,ct⟩ [some (.ref d),some (.ref dd),none,none,none] H:=by
 obtain ⟨T,r,A,S,dl,so,rfl,ed,od,wf,q⟩:=q;unfold pP;cases dl with
 | make h s many bulk=>
  have ed:H dd=some (.tup [.str "make",.int h,.int s,.int many,.int bulk]):=ed;walk_at "ev";walk_at "tx";walk_at "yx";refine ⟨_,_,rfl,so.used,?_⟩;walk_at "ev";walk_at "tx";walk_at "tx";refine ⟨_,_,rfl,so.room,?_⟩;walk_at "ev";refine sO (fun z=>?_) (fun z=>?_)
  ·walk_at "ev";have:=q H (bN.refl _);rw [show rW S (.make h s many bulk)="full" from if_pos z] at this;exact this
  walk_at "ev";walk_at "nx";walk_at "t5";rw [i5 "make" true];walk_at "ev";have:=q H1 s1;rw [show rW S (.make h s many bulk)="" from if_neg z] at this;exact this
 | get h s t f=>
  have ed:H dd=some (.tup [.str "get",.int h,.int s,.int t,.int f]):=ed;walk_at "ev";walk_at "tx";walk_at "nx";walk_at "nx";walk_at "t5";rw [i5 "get" false];walk_at "ev";have ed:=s1 _ _ ed;have so:=so.same s1;walk_at "tx";walk_at "yx";walk_at "tx";obtain ⟨x,hx,hxs,Qv⟩:=fP (od.2);obtain ⟨ra,hra,Zx,xX⟩:=so.row hx;refine ⟨_,_,rfl,so.rows,?_⟩;walk_at "ev";walk_at "tx";refine bK (cF.of so.orr) (aX (v:=.ref ra) (by rw [bx,hra];rfl)) ?_;walk_at "ev";refine bK (cF.of xX) (aX (v:=oV (bV S h t)) (by rw [bx,hxs];rfl)) ?_;walk_at "ev";have q:=q H1 s1;cases hr:bV S h t with
  | none=>
   rw [show oV none=V.non from rfl];walk_at "ev";rw [show rW S (.get h s t f)="empty" from by show zT S (bV S h t) f=_;rw [hr];rfl] at q;exact q
  | some b=>
   rw [show oV (some b)=V.int b from rfl];walk_at "ev";obtain ⟨i,c,rfl,hc,hcS⟩:=wf.at (od.2) hr;obtain ⟨p,hp,t1,t2,o1,o2⟩:=so.cell hc;walk_at "yx";walk_at "tx";refine ⟨_,_,rfl,so.cells,?_⟩;walk_at "ev";refine ⟨_,_,rfl,so.JX hp,?_⟩;walk_at "ev";refine bK (cF.of o1) (aX (j:=2) (v:=.ref p.2) rfl) ?_;walk_at "ev";refine jV (cF.of o2) ?_;rw [bh];walk_at "ev";have qe:rW S (.get h s t f)=(if c.fl.length≤f then ("field":Str) else ("":Str)):=by
    show zT S (bV S h t) f=_;rw [hr];show (match dG S ((i:Int) + 1) with | none=>_ | some c=>_)=_;rw [hcS]
   rw [qe] at q;refine sO (fun z=>?_) (fun z=>?_)
   ·walk_at "ev";rw [if_pos (by omega)] at q;exact q
   walk_at "ev";rw [if_neg (by omega)] at q;walk_at "nx";exact q
 | put h t f s=>
  have ed:H dd=some (.tup [.str "put",.int h,.int t,.int f,.int s]):=ed;walk_at "ev";walk_at "tx";walk_at "nx";walk_at "nx";walk_at "t5";rw [i5 "put" false];walk_at "ev";have ed:=s1 _ _ ed;have so:=so.same s1;walk_at "tx";walk_at "nx";obtain ⟨x,hx,hxs,Qv⟩:=fP (od.1);obtain ⟨ra,hra,Zx,xX⟩:=so.row hx;refine ⟨_,_,rfl,so.rows,?_⟩;walk_at "ev";walk_at "tx";refine bK (cF.of so.orr) (aX (v:=.ref ra) (by rw [bx,hra];rfl)) ?_;walk_at "ev";refine bK (cF.of xX) (aX (v:=oV (bV S h t)) (by rw [bx,hxs];rfl)) ?_;walk_at "ev";have q:=q H1 s1;cases hr:bV S h t with
  | none=>
   rw [show oV none=V.non from rfl];walk_at "ev";rw [show rW S (.put h t f s)="empty" from by show zT S (bV S h t) f=_;rw [hr];rfl] at q;exact q
  | some b=>
   rw [show oV (some b)=V.int b from rfl];walk_at "ev";obtain ⟨i,c,rfl,hc,hcS⟩:=wf.at (od.1) hr;obtain ⟨p,hp,t1,t2,o1,o2⟩:=so.cell hc;walk_at "nx";walk_at "yx";walk_at "tx";refine ⟨_,_,rfl,so.cells,?_⟩;walk_at "ev";refine ⟨_,_,rfl,so.JX hp,?_⟩;walk_at "ev";refine bK (cF.of o1) (aX (j:=2) (v:=.ref p.2) rfl) ?_;walk_at "ev";refine jV (cF.of o2) ?_;rw [bh];walk_at "ev";have qe:rW S (.put h t f s)=(if c.fl.length≤f then ("field":Str) else ("":Str)):=by
    show zT S (bV S h t) f=_;rw [hr];show (match dG S ((i:Int) + 1) with | none=>_ | some c=>_)=_;rw [hcS]
   rw [qe] at q;refine sO (fun z=>?_) (fun z=>?_)
   ·walk_at "ev";rw [if_pos (by omega)] at q;exact q
   walk_at "ev";rw [if_neg (by omega)] at q;exact q
 | copy h s t=>
  have ed:H dd=some (.tup [.str "copy",.int h,.int s,.int t]):=ed;walk_at "ev";walk_at "tx";walk_at "nx";walk_at "nx";walk_at "t5";rw [i5 "copy" true];walk_at "ev";have:=q H1 s1;exact this
 | drop h s=>
  have ed:H dd=some (.tup [.str "drop",.int h,.int s]):=ed;walk_at "ev";walk_at "tx";walk_at "nx";walk_at "nx";walk_at "t5";rw [i5 "drop" true];walk_at "ev";have:=q H1 s1;exact this
 | give h s g t=>
  have ed:H dd=some (.tup [.str "give",.int h,.int s,.int g,.int t]):=ed;walk_at "ev";walk_at "tx";walk_at "nx";walk_at "nx";walk_at "t5";rw [i5 "give" true];walk_at "ev";have:=q H1 s1;exact this
 | write h t l=>
  have ed:H dd=some (.tup [.str "write",.int h,.int t,.int l]):=ed;walk_at "ev";walk_at "tx";walk_at "nx";walk_at "nx";walk_at "t5";rw [i5 "write" false];walk_at "ev";have ed:=s1 _ _ ed;have so:=so.same s1;walk_at "tx";walk_at "nx";obtain ⟨x,hx,hxs,Qv⟩:=fP (od);obtain ⟨ra,hra,Zx,xX⟩:=so.row hx;refine ⟨_,_,rfl,so.rows,?_⟩;walk_at "ev";walk_at "tx";refine bK (cF.of so.orr) (aX (v:=.ref ra) (by rw [bx,hra];rfl)) ?_;walk_at "ev";refine bK (cF.of xX) (aX (v:=oV (bV S h t)) (by rw [bx,hxs];rfl)) ?_;walk_at "ev";have q:=q H1 s1;cases hr:bV S h t with
  | none=>
   rw [show oV none=V.non from rfl];walk_at "ev";rw [show rW S (.write h t l)="empty" from by show Zr (bV S h t)=_;rw [hr];rfl] at q;exact q
  | some b=>
   rw [show oV (some b)=V.int b from rfl];walk_at "ev";walk_at "nx";walk_at "nx";rw [show rW S (.write h t l)="" from by show Zr (bV S h t)=_;rw [hr];rfl] at q;exact q
 | read h t=>
  have ed:H dd=some (.tup [.str "read",.int h,.int t]):=ed;walk_at "ev";walk_at "tx";walk_at "nx";walk_at "nx";walk_at "t5";rw [i5 "read" false];walk_at "ev";have ed:=s1 _ _ ed;have so:=so.same s1;walk_at "tx";walk_at "nx";obtain ⟨x,hx,hxs,Qv⟩:=fP (od);obtain ⟨ra,hra,Zx,xX⟩:=so.row hx;refine ⟨_,_,rfl,so.rows,?_⟩;walk_at "ev";walk_at "tx";refine bK (cF.of so.orr) (aX (v:=.ref ra) (by rw [bx,hra];rfl)) ?_;walk_at "ev";refine bK (cF.of xX) (aX (v:=oV (bV S h t)) (by rw [bx,hxs];rfl)) ?_;walk_at "ev";have q:=q H1 s1;cases hr:bV S h t with
  | none=>
   rw [show oV none=V.non from rfl];walk_at "ev";rw [show rW S (.read h t)="empty" from by show Zr (bV S h t)=_;rw [hr];rfl] at q;exact q
  | some b=>
   rw [show oV (some b)=V.int b from rfl];walk_at "ev";walk_at "nx";walk_at "nx";rw [show rW S (.read h t)="" from by show Zr (bV S h t)=_;rw [hr];rfl] at q;exact q
 | name h t z=>
  have ed:H dd=some (.tup [.str "name",.int h,.int t,.str z]):=ed;walk_at "ev";walk_at "tx";walk_at "nx";walk_at "nx";walk_at "t5";rw [i5 "name" false];walk_at "ev";have ed:=s1 _ _ ed;have so:=so.same s1;walk_at "tx";walk_at "nx";obtain ⟨x,hx,hxs,Qv⟩:=fP (od);obtain ⟨ra,hra,Zx,xX⟩:=so.row hx;refine ⟨_,_,rfl,so.rows,?_⟩;walk_at "ev";walk_at "tx";refine bK (cF.of so.orr) (aX (v:=.ref ra) (by rw [bx,hra];rfl)) ?_;walk_at "ev";refine bK (cF.of xX) (aX (v:=oV (bV S h t)) (by rw [bx,hxs];rfl)) ?_;walk_at "ev";have q:=q H1 s1;cases hr:bV S h t with
  | none=>
   rw [show oV none=V.non from rfl];walk_at "ev";rw [show rW S (.name h t z)="empty" from by show Zr (bV S h t)=_;rw [hr];rfl] at q;exact q
  | some b=>
   rw [show oV (some b)=V.int b from rfl];walk_at "ev";walk_at "nx";walk_at "nx";rw [show rW S (.name h t z)="" from by show Zr (bV S h t)=_;rw [hr];rfl] at q;exact q
 | seek h s z=>
  have ed:H dd=some (.tup [.str "seek",.int h,.int s,.str z]):=ed;walk_at "ev";walk_at "tx";walk_at "nx";walk_at "yx";walk_at "tx";refine ⟨_,_,rfl,so.words,?_⟩;walk_at "ev";refine ⟨_,_,rfl,qg.k (k:=Sum.inr z) so.ow,?_⟩;rw [S5,show ((((S.words.find? fun m=>decide (m.1=z)).map (·.2)).map V.int).isSome)=(lU S z).isSome from by unfold lU;cases (S.words.find? fun m=>decide (m.1=z))<;>rfl];cases hw:(lU S z).isSome with
  | false=>
   walk_at "ev";have:=q H (bN.refl _);rw [show rW S (.seek h s z)="name" from by show (if _ then _ else _)=_;rw [if_neg (by rw [hw];decide)]] at this;exact this
  | true=>
  walk_at "ev";walk_at "t5";rw [i5 "seek" true];walk_at "ev";have:=q H1 s1;rw [show rW S (.seek h s z)="" from by show (if _ then _ else _)=_;rw [if_pos hw]] at this;exact this
end
local macro_rules | `(tactic| walk_at "nx")=>`(tactic| (refine sO (fun z=>absurd z (by decide)) (fun _=>?_);walk_at "ev"))
local macro_rules | `(tactic| walk_at "yx")=>`(tactic| (refine sO (fun _=>?_) (fun z=>absurd rfl z);walk_at "ev"))
local macro_rules | `(tactic| walk_at "tx")=>`(tactic| (refine ⟨_,_,_,_,rfl,rfl,j4.of (by assumption),rfl,?_⟩;walk_at "ev"))
structure ThQ (d dd:Addr) (H:Hp) (P:iC→Prop) (Q:VK):Prop where
 h:∃ T r A S dl,P dl∧WT H T∧r≠0∧lH H T r A S∧A.d=d∧H dd=some (.tup (dV dl))∧T dd=(0,0)∧Ze6 S dl∧WfS S∧S.born=(S.cells.length:Int)∧S.cells.length≤1000∧S.words.length≤1000∧rW S dl=""∧∀ H' T' A',qz r H H' T T'→lH H' T' r A' (Bp S dl).2→A'.d=d→Q (oV (Bp S dl).1) H'
def Fe:Sp:=fun vs H Q E=>∃ d dd,vs=[.ref d,.ref dd]∧ThQ d dd H zM Q
def Zcs (d:iC):Prop:=(∃ h s t f,d=.get h s t f)∨(∃ h s t,d=.copy h s t)∨(∃ h s,d=.drop h s)∨∃ h s g t,d=.give h s g t
def K8 (K:aG):Sp:=fun vs H Q E=>∃ d dd,vs=[.ref d,.ref dd]∧ThQ d dd H Zcs Q
def Fd (K:aG):Sp:=fun vs H Q E=>∃ d dd,vs=[.ref d,.ref dd]∧ThQ d dd H (fun _=>True) Q
section
theorem Zra (k:Nat):(List.replicate k [V.non]).flatten=List.replicate k V.non:=by
 induction k with
 | zero=>rfl
 | succ k ih=>rw [List.replicate_succ,List.replicate_succ,List.flatten_cons,ih];rfl
theorem Zpt {σ:St}{tn:TE}{m:Int} (h0:0≤m) (h1:m≤1000) (ht:∀ H' (k:VK),bN H H'→k (.int m) H'→tn σ H' k) (k:∀ r H',H r=none→bN H H'→H' r=some (.lst ((List.replicate m.toNat (none:Option Int)).map oV))→Q (.ref r) H'):aY (Zdt) (jR (ak (tC .non) aL)) tn σ H Q:=by
 walk_at "ev";refine ⟨by decide,fun l0 hl0=>?_⟩;have s1:=aN hl0 (.lst [V.non]);have g1:upd H l0 (.lst [V.non]) l0=some (.lst [V.non]):=aq;generalize upd H l0 (.lst [V.non])=H1 at s1 g1 ⊢;refine ht _ _ s1 ?_;refine ⟨l0,m,_,rfl,rfl,g1,by omega,by omega,by show 1 * m.toNat≤sizeLine;exact bu (by omega),fun r hr=>?_⟩;refine k r _ (s1.free hr) (s1.trans (aN hr _)) ?_;rw [aq,Zra,List.map_replicate];rfl
theorem kp0 {r:Nat}{H H':Hp}{T T':Tg} (st:qz r H H' T T') (n:r≠0) {b:Addr}{o:HO} (h:H b=some o) (t:T b=(0,0)):H' b=some o∧T' b=(0,0):=⟨st.kp b o h (by rw [t];exact fun w=>n w.symm),(st.tg b o h).trans t⟩
theorem Kp {d dd:Addr} (q:ThQ d dd H zM Q):qY K ⟨n,Q,bk,ct⟩ [some (.ref d),some (.ref dd),none] H:=by
 obtain ⟨T,r,A,S,dl,⟨h,s,many,bulk,rfl⟩,w,r0,so,rfl,ed,td,od,wf,eb,cl,wl,du,q⟩:=q.h;have ed:H dd=some (.tup [.str "make",.int h,.int s,.int many,.int bulk]):=ed;obtain ⟨os,m0,m1,b0⟩:=od;unfold qY;walk_at "ev";walk_at "tx";walk_at "tx";refine ⟨_,_,rfl,so.used,?_⟩;walk_at "ev";refine ⟨_,_,rfl,Zpi (i:=1) so.od rfl (by decide +kernel) rfl (by decide),?_⟩;obtain ⟨st1,s1⟩:=so.Zs9 w (S.used + (1 + many + bulk));show aK _ _ _ _ (upd H A.d (.dK (zK stN (stV S.room (S.used + (1 + many + bulk)) S.born A.lr A.dc A.dw))));generalize upd H A.d (.dK (zK stN (stV S.room (S.used + (1 + many + bulk)) S.born A.lr A.dc A.dw)))=H1 at st1 s1 ⊢;obtain ⟨ed1,td1⟩:=kp0 st1 r0 ed td;walk_at "ev";refine ⟨_,_,rfl,s1.born,?_⟩;walk_at "ev";refine ⟨_,_,rfl,Zpi (i:=2) s1.od rfl (by decide +kernel) rfl (by decide),?_⟩;obtain ⟨st2,s2⟩:=s1.setB st1.wt (S.born + 1);show aK _ _ _ _ (upd H1 A.d (.dK (zK stN (stV S.room (S.used + (1 + many + bulk)) (S.born + 1) A.lr A.dc A.dw))));generalize upd H1 A.d (.dK (zK stN (stV S.room (S.used + (1 + many + bulk)) (S.born + 1) A.lr A.dc A.dw)))=H2 at st2 s2 ⊢;obtain ⟨ed2,td2⟩:=kp0 st2 r0 ed1 td1;clear ed ed1;refine Zct ?_;walk_at "es";refine Zpt (m:=many) m0 m1 (fun H' k sm hk=>by
  have ed':=sm _ _ ed2;walk_at "ev";walk_at "tx";exact hk) fun fa H3 nfa s3 ofa=>?_
 walk_at "es";refine ⟨bu (by simp),fun pa npa=>?_⟩;have s4:=aN npa (.lst [.int (1 + many + bulk),.int 0,.ref fa]);have opa:upd H3 pa (.lst [.int (1 + many + bulk),.int 0,.ref fa]) pa=some (.lst [.int (1 + many + bulk),.int 0,.ref fa]):=aq;have nef:pa≠fa:=(aD ofa npa).symm;have Zsg:=s3.free npa;have ofa:=s4 _ _ ofa;generalize upd H3 pa (.lst [.int (1 + many + bulk),.int 0,.ref fa])=H4 at s4 opa ofa ⊢;have s24:=s3.trans s4;have so4:=s2.same s24;walk_at "es";refine ⟨_,_,rfl,so4.cells,?_⟩;walk_at "es";refine ⟨_,_,rfl,so4.born,?_⟩;have lcs:A.cs.length=S.cells.length:=so.cl;have ecs:(A.cs.length:Int) + 1=S.born + 1:=by rw [lcs,eb]
 refine ⟨_,_,rfl,zY.k (k:=Sum.inl (S.born + 1)) so4.oc (by rw [Zd3];exact Nat.lt_of_le_of_lt (show _≤1000 by omega) (by decide)),?_⟩;rw [Mu _ (Zin (by show (A.cs.length:Int) < S.born + 1;omega)),← ecs,← Zim A.cs (pa,fa)];obtain ⟨T5,Zn,so5,_⟩:=s2.Zzh st2.wt (p:=(pa,fa)) (c:=⟨1 + many + bulk,0,List.replicate many.toNat none⟩) s24 Zsg nfa nef opa ofa;generalize upd H4 A.dc (.dK (Sx (A.cs ++ [(pa,fa)])))=H5 at Zn so5 ⊢;have Zs5:=st1.trans (st2.trans Zn);obtain ⟨ed5,td5⟩:=kp0 Zn r0 ed2 td2;walk_at "ev";refine ⟨_,_,rfl,so5.born,?_⟩;walk_at "ev";obtain ⟨x,hx,hxs,Qv⟩:=fP os;have hx5:({ S with used:=S.used + (1 + many + bulk),born:=S.born + 1,cells:=S.cells ++ [⟨1 + many + bulk,0,List.replicate many.toNat none⟩] }:Cw).rows[h]? =some x:=hx;obtain ⟨ra,hra,Zx,xX⟩:=so5.row hx5;refine ⟨_,_,rfl,so5.rows,?_⟩;walk_at "ev";walk_at "tx";refine bK (cF.of so5.orr) (aX (v:=.ref ra) (by rw [bx,hra];rfl)) ?_;walk_at "ev";walk_at "tx";refine ⟨ra,_,_,s,rfl,rfl,xX,lu (by rw [bh];exact Qv),?_⟩;obtain ⟨ZG,so6⟩:=so5.Zdn Zn.wt (k:=s) (y:=some (S.born + 1)) hra hx5;show bI _ _ _ (upd H5 ra (.lst ((x.map oV).set s (oV (some (S.born + 1))))));generalize upd H5 ra (.lst ((x.map oV).set s (oV (some (S.born + 1)))))=H6 at ZG so6 ⊢;walk_at "ev";refine ⟨_,_,rfl,so6.born,?_⟩;refine q _ _ { A with cs:=A.cs ++ [(pa,fa)] } (Zs5.trans ZG) ?_ rfl;show lH H6 T5 r _ (jL _ h s (some (S.born + 1)));rw [pL hx5];exact so6
theorem Q7 {d dd:Addr} (q:ThQ d dd H Zcs Q):uU K ⟨n,Q,bk,ct⟩ [some (.ref d),some (.ref dd),none,none] H:=by
 obtain ⟨T,r,A,S,dl,hP,w,r0,so,rfl,ed,td,od,wf,eb,cl,wl,du,q⟩:=q.h;unfold uU;rcases hP with ⟨h,s,t,f,rfl⟩ | ⟨h,s,t,rfl⟩ | ⟨h,s,rfl⟩ | ⟨h,s,g,t,rfl⟩
 ·have ed:H dd=some (.tup [.str "get",.int h,.int s,.int t,.int f]):=ed;obtain ⟨os,ot⟩:=od;obtain ⟨x,hx,hxt,Qv⟩:=fP ot;obtain ⟨x',hx',hxs,Yy⟩:=fP os;rw [hx] at hx';cases hx';obtain ⟨ra,hra,Zx,xX⟩:=so.row hx;have hdu:zT S (bV S h t) f="":=du;obtain ⟨b,hb⟩:∃ b,bV S h t=some b:=by
   cases e:bV S h t with
   | none=>rw [e] at hdu;exact absurd hdu (by show ¬ ("empty":Str)="";decide)
   | some b=>exact ⟨b,rfl⟩
  obtain ⟨i,c,rfl,hc,hcS⟩:=wf.at ot hb;have hf:f < c.fl.length:=by
   rw [hb] at hdu;have hdu:(match dG S ((i:Int) + 1) with | none=>("":Str) | some c=>if c.fl.length≤f then ("field":Str) else ("":Str))=("":Str):=hdu;rw [hcS] at hdu
   by_cases z:c.fl.length≤f
   ·have hdu:(if c.fl.length≤f then ("field":Str) else ("":Str))="":=hdu;rw [if_pos z] at hdu;exact absurd hdu (by decide)
   ·omega
  have hfl:c.fl[f]? =some c.fl[f]:=bO hf;obtain ⟨p,hp,t1,t2,o1,o2⟩:=so.cell hc;have ev:(((bV S h t).bind (dG S)).bind fun c=>c.fl[f]?).join=c.fl[f]:=by
   rw [hb];show (((dG S ((i:Int) + 1))).bind fun c=>c.fl[f]?).join=_;rw [hcS];show (c.fl[f]?).join=_;rw [hfl];rfl
  walk_at "ev";refine ⟨_,_,rfl,so.rows,?_⟩;walk_at "ev";walk_at "tx";refine bK (cF.of so.orr) (aX (v:=.ref ra) (by rw [bx,hra];rfl)) ?_;walk_at "ev";walk_at "tx";walk_at "yx";refine ⟨_,_,rfl,so.cells,?_⟩;walk_at "ev";walk_at "tx";refine bK (cF.of xX) (aX (v:=oV (bV S h t)) (by rw [bx,hxt];rfl)) ?_;rw [hb];refine ⟨_,_,rfl,so.JX hp,?_⟩;walk_at "ev";refine bK (cF.of o1) (aX (j:=2) (v:=.ref p.2) rfl) ?_;walk_at "ev";walk_at "tx";refine bK (cF.of o2) (aX (v:=oV c.fl[f]) (by rw [bx,hfl];rfl)) ?_;walk_at "ev";walk_at "tx";refine ⟨ra,_,_,s,rfl,rfl,xX,lu (by rw [bh];exact Yy),?_⟩;obtain ⟨st1,vI⟩:=so.Zdn w (k:=s) (y:=c.fl[f]) hra hx;have ed1:=(kp0 st1 r0 ed td).1;generalize upd H ra (.lst ((x.map oV).set s (oV c.fl[f])))=H1 at st1 vI ed1 ⊢;obtain ⟨_,o3⟩:=vI.rr h ra (x.set s c.fl[f]) hra (by show (S.rows.set h _)[h]? =_;rw [List.getElem?_set_self (cI hx).1]);walk_at "ev";walk_at "tx";refine bK (cF.of o3) (aX (v:=oV c.fl[f]) (by rw [bx,List.getElem?_set_self Yy];rfl)) ?_;have q1:=q H1 T A st1 (by
   show lH H1 T r A (jL S h s _);rw [ev,pL hx];exact vI) rfl
  rw [show (Bp S (.get h s t f)).1=c.fl[f] from ev] at q1;exact q1
 ·have ed:H dd=some (.tup [.str "copy",.int h,.int s,.int t]):=ed;obtain ⟨os,ot⟩:=od;obtain ⟨x,hx,hxt,Qv⟩:=fP ot;obtain ⟨x',hx',hxs,Yy⟩:=fP os;rw [hx] at hx';cases hx';obtain ⟨ra,hra,Zx,xX⟩:=so.row hx;walk_at "ev";refine ⟨_,_,rfl,so.rows,?_⟩;walk_at "ev";walk_at "tx";refine bK (cF.of so.orr) (aX (v:=.ref ra) (by rw [bx,hra];rfl)) ?_;walk_at "ev";walk_at "tx";walk_at "nx";walk_at "tx";walk_at "yx";walk_at "tx";refine bK (cF.of xX) (aX (v:=oV (bV S h t)) (by rw [bx,hxt];rfl)) ?_;walk_at "ev";walk_at "tx";refine ⟨ra,_,_,s,rfl,rfl,xX,lu (by rw [bh];exact Yy),?_⟩;obtain ⟨st1,vI⟩:=so.Zdn w (k:=s) (y:=bV S h t) hra hx;have ed1:=(kp0 st1 r0 ed td).1;generalize upd H ra (.lst ((x.map oV).set s (oV (bV S h t))))=H1 at st1 vI ed1 ⊢;obtain ⟨_,o3⟩:=vI.rr h ra (x.set s (bV S h t)) hra (by show (S.rows.set h _)[h]? =_;rw [List.getElem?_set_self (cI hx).1]);walk_at "ev";walk_at "tx";refine bK (cF.of o3) (aX (v:=oV (bV S h t)) (by rw [bx,List.getElem?_set_self Yy];rfl)) ?_;exact q H1 T A st1 (by
   show lH H1 T r A (jL S h s _);rw [pL hx];exact vI) rfl
 ·have ed:H dd=some (.tup [.str "drop",.int h,.int s]):=ed;obtain ⟨x,hx,hxs,Qv⟩:=fP od;obtain ⟨ra,hra,Zx,xX⟩:=so.row hx;walk_at "ev";refine ⟨_,_,rfl,so.rows,?_⟩;walk_at "ev";walk_at "tx";refine bK (cF.of so.orr) (aX (v:=.ref ra) (by rw [bx,hra];rfl)) ?_;walk_at "ev";walk_at "tx";walk_at "nx";walk_at "tx";walk_at "nx";walk_at "tx";walk_at "yx";walk_at "tx";refine bK (cF.of xX) (aX (v:=oV (bV S h s)) (by rw [bx,hxs];rfl)) ?_;walk_at "ev";walk_at "tx";refine ⟨ra,_,_,s,rfl,rfl,xX,lu (by rw [bh];exact Qv),?_⟩;obtain ⟨st1,vI⟩:=so.Zdn w (k:=s) (y:=none) hra hx;show bI _ _ _ (upd H ra (.lst ((x.map oV).set s (oV none))));generalize upd H ra (.lst ((x.map oV).set s (oV none)))=H1 at st1 vI ⊢;walk_at "ev";exact q H1 T A st1 (by
   show lH H1 T r A (jL S h s _);rw [pL hx];exact vI) rfl
 ·have ed:H dd=some (.tup [.str "give",.int h,.int s,.int g,.int t]):=ed;obtain ⟨os,ot⟩:=od;obtain ⟨x,hx,hxs,Qv⟩:=fP os;obtain ⟨x',hx',hxt,Yy⟩:=fP ot;obtain ⟨ra,hra,Zx,xX⟩:=so.row hx;obtain ⟨rb,hrb,trb,orb⟩:=so.row hx';walk_at "ev";refine ⟨_,_,rfl,so.rows,?_⟩;walk_at "ev";walk_at "tx";refine bK (cF.of so.orr) (aX (v:=.ref ra) (by rw [bx,hra];rfl)) ?_;walk_at "ev";walk_at "tx";walk_at "nx";walk_at "tx";walk_at "nx";walk_at "tx";walk_at "nx";walk_at "tx";refine bK (cF.of xX) (aX (v:=oV (bV S h s)) (by rw [bx,hxs];rfl)) ?_;walk_at "ev";refine ⟨_,_,rfl,so.rows,?_⟩;walk_at "ev";walk_at "tx";refine bK (cF.of so.orr) (aX (v:=.ref rb) (by rw [bx,hrb];rfl)) ?_;walk_at "ev";walk_at "tx";refine ⟨rb,_,_,t,rfl,rfl,orb,lu (by rw [bh];exact Yy),?_⟩;obtain ⟨st1,vI⟩:=so.Zdn w (k:=t) (y:=bV S h s) hrb hx';have ed1:=(kp0 st1 r0 ed td).1;generalize upd H rb (.lst ((x'.map oV).set t (oV (bV S h s))))=H1 at st1 vI ed1 ⊢;have hsame:∃ y,(S.rows.set g (x'.set t (bV S h s)))[h]? =some y∧y[s]? =some (bV S h s):=by
   by_cases e:g=h
   ·subst e;rw [hx] at hx';cases hx';refine ⟨_,List.getElem?_set_self (cI hx).1,?_⟩
    by_cases e2:t=s
    ·subst e2;rw [List.getElem?_set_self Qv]
    ·rw [List.getElem?_set_ne e2];exact hxs
   ·exact ⟨x,by rw [List.getElem?_set_ne e];exact hx,hxs⟩
  obtain ⟨y,hy,hys⟩:=hsame;obtain ⟨_,o3⟩:=vI.rr h ra y hra hy;walk_at "ev";walk_at "tx";refine bK (cF.of o3) (aX (v:=oV (bV S h s)) (by rw [bx,hys];rfl)) ?_;exact q H1 T A st1 (by
   show lH H1 T r A (jL S g t _);rw [pL hx'];exact vI) rfl
end
local macro_rules | `(tactic| walk_at "nx")=>`(tactic| (refine sO (fun z=>absurd z (by decide)) (fun _=>?_);walk_at "ev"))
local macro_rules | `(tactic| walk_at "yx")=>`(tactic| (refine sO (fun _=>?_) (fun z=>absurd rfl z);walk_at "ev"))
local macro_rules | `(tactic| walk_at "tx")=>`(tactic| (refine ⟨_,_,_,_,rfl,rfl,j4.of (by assumption),rfl,?_⟩;walk_at "ev"))
section
theorem N6 {o:Option Int} (h:Zr o=""):∃ b,o=some b:=by
 cases o with
 | none=>exact absurd h (by show ¬ ("empty":Str)="";decide)
 | some b=>exact ⟨b,rfl⟩
theorem Ss {S:Cw}{o:Option Int}{f:Nat} (h:zT S o f=""):∃ b,o=some b:=by
 cases o with
 | none=>exact absurd h (by show ¬ ("empty":Str)="";decide)
 | some b=>exact ⟨b,rfl⟩
theorem YC {S:Cw}{b:Int}{c:Sc}{f:Nat} (h:zT S (some b) f="") (hc:dG S b=some c):f < c.fl.length:=by
 have h:(match dG S b with | none=>("":Str) | some c=>if c.fl.length≤f then ("field":Str) else ("":Str))=("":Str):=h;rw [hc] at h
 by_cases z:c.fl.length≤f
 ·have h:(if c.fl.length≤f then ("field":Str) else ("":Str))=("":Str):=h;rw [if_pos z] at h;exact absurd h (by decide)
 ·omega
theorem QZ {d dd:Addr} (q:ThQ d dd H (fun _=>True) Q):uP K Fe (K8 K) ⟨n,Q,bk,ct⟩ [some (.ref d),some (.ref dd),none,none,none,none,none] H:=by
 obtain ⟨T,r,A,S,dl,_,w,r0,so,rfl,ed,td,od,wf,eb,cl,wl,du,q⟩:=q.h;unfold uP;cases dl with
 | make h s many bulk=>
  have ed':=ed;have ed:H dd=some (.tup [.str "make",.int h,.int s,.int many,.int bulk]):=ed;walk_at "ev";walk_at "tx";walk_at "yx";exact ⟨_,_,rfl,⟨T,r,A,S,_,⟨_,_,_,_,rfl⟩,w,r0,so,rfl,ed',td,od,wf,eb,cl,wl,du,q⟩⟩
 | get h s t f=>
  have ed':=ed;have ed:H dd=some (.tup [.str "get",.int h,.int s,.int t,.int f]):=ed;walk_at "ev";walk_at "tx";walk_at "nx";refine ⟨bu (by simp),fun tp Va=>?_⟩;have s1:=aN Va (.tup [V.str "get",.str "copy",.str "drop",.str "give"]);have g1:upd H tp (.tup [V.str "get",.str "copy",.str "drop",.str "give"]) tp=some (.tup [V.str "get",.str "copy",.str "drop",.str "give"]):=aq;generalize upd H tp (.tup [V.str "get",.str "copy",.str "drop",.str "give"])=H1 at s1 g1 ⊢;refine ⟨tp,_,rfl,.inr (j4.of g1),rfl,rfl,?_⟩;rw [show (if false=true then !inV (V.str "get") [V.str "get",.str "copy",.str "drop",.str "give"] else inV (V.str "get") [V.str "get",.str "copy",.str "drop",.str "give"])=true from by decide +kernel];walk_at "ev";have ed:=s1 _ _ ed;have so:=so.same s1;have w:=w.same s1;have q:∀ H' T' A',qz r H1 H' T T'→lH H' T' r A' (Bp S (.get h s t f)).2→A'.d=A.d→Q (oV (Bp S (.get h s t f)).1) H':=fun H' T' A' st=>q H' T' A' ((qz.same ‹WT H T› s1).trans st);exact ⟨_,_,rfl,⟨T,r,A,S,_,.inl ⟨_,_,_,_,rfl⟩,w,r0,so,rfl,s1 _ _ ed',td,od,wf,eb,cl,wl,du,q⟩⟩
 | put h t f s=>
  have ed':=ed;have ed:H dd=some (.tup [.str "put",.int h,.int t,.int f,.int s]):=ed;walk_at "ev";walk_at "tx";walk_at "nx";refine ⟨bu (by simp),fun tp Va=>?_⟩;have s1:=aN Va (.tup [V.str "get",.str "copy",.str "drop",.str "give"]);have g1:upd H tp (.tup [V.str "get",.str "copy",.str "drop",.str "give"]) tp=some (.tup [V.str "get",.str "copy",.str "drop",.str "give"]):=aq;generalize upd H tp (.tup [V.str "get",.str "copy",.str "drop",.str "give"])=H1 at s1 g1 ⊢;refine ⟨tp,_,rfl,.inr (j4.of g1),rfl,rfl,?_⟩;rw [show (if false=true then !inV (V.str "put") [V.str "get",.str "copy",.str "drop",.str "give"] else inV (V.str "put") [V.str "get",.str "copy",.str "drop",.str "give"])=false from by decide +kernel];walk_at "ev";have ed:=s1 _ _ ed;have so:=so.same s1;have w:=w.same s1;have q:∀ H' T' A',qz r H1 H' T T'→lH H' T' r A' (Bp S (.put h t f s)).2→A'.d=A.d→Q (oV (Bp S (.put h t f s)).1) H':=fun H' T' A' st=>q H' T' A' ((qz.same ‹WT H T› s1).trans st);have ot:=od.1;obtain ⟨x,hx,hxt,Qv⟩:=fP ot;obtain ⟨ra,hra,Zx,xX⟩:=so.row hx;obtain ⟨b,hb⟩:∃ b,bV S h t=some b:=Ss du;obtain ⟨i,c,rfl,hc,hcS⟩:=wf.at ot hb;obtain ⟨p,hp,t1,t2,o1,o2⟩:=so.cell hc;refine ⟨_,_,rfl,so.rows,?_⟩;walk_at "ev";walk_at "tx";refine bK (cF.of so.orr) (aX (v:=.ref ra) (by rw [bx,hra];rfl)) ?_;walk_at "ev";walk_at "nx";walk_at "tx";refine bK (cF.of xX) (aX (v:=oV (bV S h t)) (by rw [bx,hxt];rfl)) ?_;rw [hb,show oV (some ((i:Int) + 1))=V.int ((i:Int) + 1) from rfl];walk_at "ev";refine ⟨_,_,rfl,so.cells,?_⟩;walk_at "ev";refine ⟨_,_,rfl,so.JX hp,?_⟩;walk_at "ev";have hf:=YC (show zT S (some ((i:Int) + 1)) f="" from by rw [← hb];exact du) hcS;have hfl:c.fl[f]? =some c.fl[f]:=bO hf;obtain ⟨x',hx',hxs,Yy⟩:=fP od.2;rw [hx] at hx';cases hx';walk_at "yx";refine bK (cF.of o1) (aX (j:=2) (v:=.ref p.2) rfl) ?_;walk_at "ev";walk_at "tx";refine bK (cF.of o2) (aX (v:=oV c.fl[f]) (by rw [bx,hfl];rfl)) ?_;walk_at "ev";walk_at "tx";refine bK (cF.of xX) (aX (v:=oV (bV S h s)) (by rw [bx,hxs];rfl)) ?_;walk_at "ev";refine bK (cF.of o1) (aX (j:=2) (v:=.ref p.2) rfl) ?_;walk_at "ev";walk_at "tx";refine ⟨p.2,_,_,f,rfl,rfl,o2,lu (by rw [bh];exact hf),?_⟩;obtain ⟨st1,vI⟩:=so.Zsb w (k:=f) (y:=bV S h s) hp hc;generalize upd H1 p.2 (.lst ((c.fl.map oV).set f (oV (bV S h s))))=H2 at st1 vI ⊢;walk_at "ev";have et:Bp S (.put h t f s)=(c.fl[f],{ S with cells:=S.cells.set i { c with fl:=c.fl.set f (bV S h s) } }):=by
   show (match bV S h t with | none=>_ | some b=>_)=_;rw [hb];show (match dG S ((i:Int) + 1) with | none=>_ | some c=>_)=_;rw [hcS];show ((c.fl[f]?).join,RG S ((i:Int) + 1) _)=_;rw [hfl];show (c.fl[f],{ S with cells:=S.cells.set (((i:Int) + 1 - 1).toNat) _ })=_;rw [show ((i:Int) + 1 - 1).toNat=i from by omega]
  have q1:=q H2 T A st1 (by rw [et];exact vI) rfl;rw [et] at q1;exact q1
 | copy h s t=>
  have ed':=ed;have ed:H dd=some (.tup [.str "copy",.int h,.int s,.int t]):=ed;walk_at "ev";walk_at "tx";walk_at "nx";refine ⟨bu (by simp),fun tp Va=>?_⟩;have s1:=aN Va (.tup [V.str "get",.str "copy",.str "drop",.str "give"]);have g1:upd H tp (.tup [V.str "get",.str "copy",.str "drop",.str "give"]) tp=some (.tup [V.str "get",.str "copy",.str "drop",.str "give"]):=aq;generalize upd H tp (.tup [V.str "get",.str "copy",.str "drop",.str "give"])=H1 at s1 g1 ⊢;refine ⟨tp,_,rfl,.inr (j4.of g1),rfl,rfl,?_⟩;rw [show (if false=true then !inV (V.str "copy") [V.str "get",.str "copy",.str "drop",.str "give"] else inV (V.str "copy") [V.str "get",.str "copy",.str "drop",.str "give"])=true from by decide +kernel];walk_at "ev";have ed:=s1 _ _ ed;have so:=so.same s1;have w:=w.same s1;have q:∀ H' T' A',qz r H1 H' T T'→lH H' T' r A' (Bp S (.copy h s t)).2→A'.d=A.d→Q (oV (Bp S (.copy h s t)).1) H':=fun H' T' A' st=>q H' T' A' ((qz.same ‹WT H T› s1).trans st);exact ⟨_,_,rfl,⟨T,r,A,S,_,.inr (.inl ⟨_,_,_,rfl⟩),w,r0,so,rfl,s1 _ _ ed',td,od,wf,eb,cl,wl,du,q⟩⟩
 | drop h s=>
  have ed':=ed;have ed:H dd=some (.tup [.str "drop",.int h,.int s]):=ed;walk_at "ev";walk_at "tx";walk_at "nx";refine ⟨bu (by simp),fun tp Va=>?_⟩;have s1:=aN Va (.tup [V.str "get",.str "copy",.str "drop",.str "give"]);have g1:upd H tp (.tup [V.str "get",.str "copy",.str "drop",.str "give"]) tp=some (.tup [V.str "get",.str "copy",.str "drop",.str "give"]):=aq;generalize upd H tp (.tup [V.str "get",.str "copy",.str "drop",.str "give"])=H1 at s1 g1 ⊢;refine ⟨tp,_,rfl,.inr (j4.of g1),rfl,rfl,?_⟩;rw [show (if false=true then !inV (V.str "drop") [V.str "get",.str "copy",.str "drop",.str "give"] else inV (V.str "drop") [V.str "get",.str "copy",.str "drop",.str "give"])=true from by decide +kernel];walk_at "ev";have ed:=s1 _ _ ed;have so:=so.same s1;have w:=w.same s1;have q:∀ H' T' A',qz r H1 H' T T'→lH H' T' r A' (Bp S (.drop h s)).2→A'.d=A.d→Q (oV (Bp S (.drop h s)).1) H':=fun H' T' A' st=>q H' T' A' ((qz.same ‹WT H T› s1).trans st);exact ⟨_,_,rfl,⟨T,r,A,S,_,.inr (.inr (.inl ⟨_,_,rfl⟩)),w,r0,so,rfl,s1 _ _ ed',td,od,wf,eb,cl,wl,du,q⟩⟩
 | give h s g t=>
  have ed':=ed;have ed:H dd=some (.tup [.str "give",.int h,.int s,.int g,.int t]):=ed;walk_at "ev";walk_at "tx";walk_at "nx";refine ⟨bu (by simp),fun tp Va=>?_⟩;have s1:=aN Va (.tup [V.str "get",.str "copy",.str "drop",.str "give"]);have g1:upd H tp (.tup [V.str "get",.str "copy",.str "drop",.str "give"]) tp=some (.tup [V.str "get",.str "copy",.str "drop",.str "give"]):=aq;generalize upd H tp (.tup [V.str "get",.str "copy",.str "drop",.str "give"])=H1 at s1 g1 ⊢;refine ⟨tp,_,rfl,.inr (j4.of g1),rfl,rfl,?_⟩;rw [show (if false=true then !inV (V.str "give") [V.str "get",.str "copy",.str "drop",.str "give"] else inV (V.str "give") [V.str "get",.str "copy",.str "drop",.str "give"])=true from by decide +kernel];walk_at "ev";have ed:=s1 _ _ ed;have so:=so.same s1;have w:=w.same s1;have q:∀ H' T' A',qz r H1 H' T T'→lH H' T' r A' (Bp S (.give h s g t)).2→A'.d=A.d→Q (oV (Bp S (.give h s g t)).1) H':=fun H' T' A' st=>q H' T' A' ((qz.same ‹WT H T› s1).trans st);exact ⟨_,_,rfl,⟨T,r,A,S,_,.inr (.inr (.inr ⟨_,_,_,_,rfl⟩)),w,r0,so,rfl,s1 _ _ ed',td,od,wf,eb,cl,wl,du,q⟩⟩
 | write h t l=>
  have ed':=ed;have ed:H dd=some (.tup [.str "write",.int h,.int t,.int l]):=ed;walk_at "ev";walk_at "tx";walk_at "nx";refine ⟨bu (by simp),fun tp Va=>?_⟩;have s1:=aN Va (.tup [V.str "get",.str "copy",.str "drop",.str "give"]);have g1:upd H tp (.tup [V.str "get",.str "copy",.str "drop",.str "give"]) tp=some (.tup [V.str "get",.str "copy",.str "drop",.str "give"]):=aq;generalize upd H tp (.tup [V.str "get",.str "copy",.str "drop",.str "give"])=H1 at s1 g1 ⊢;refine ⟨tp,_,rfl,.inr (j4.of g1),rfl,rfl,?_⟩;rw [show (if false=true then !inV (V.str "write") [V.str "get",.str "copy",.str "drop",.str "give"] else inV (V.str "write") [V.str "get",.str "copy",.str "drop",.str "give"])=false from by decide +kernel];walk_at "ev";have ed:=s1 _ _ ed;have so:=so.same s1;have w:=w.same s1;have q:∀ H' T' A',qz r H1 H' T T'→lH H' T' r A' (Bp S (.write h t l)).2→A'.d=A.d→Q (oV (Bp S (.write h t l)).1) H':=fun H' T' A' st=>q H' T' A' ((qz.same ‹WT H T› s1).trans st);have ot:=od;obtain ⟨x,hx,hxt,Qv⟩:=fP ot;obtain ⟨ra,hra,Zx,xX⟩:=so.row hx;obtain ⟨b,hb⟩:∃ b,bV S h t=some b:=N6 du;obtain ⟨i,c,rfl,hc,hcS⟩:=wf.at ot hb;obtain ⟨p,hp,t1,t2,o1,o2⟩:=so.cell hc;refine ⟨_,_,rfl,so.rows,?_⟩;walk_at "ev";walk_at "tx";refine bK (cF.of so.orr) (aX (v:=.ref ra) (by rw [bx,hra];rfl)) ?_;walk_at "ev";walk_at "nx";walk_at "tx";refine bK (cF.of xX) (aX (v:=oV (bV S h t)) (by rw [bx,hxt];rfl)) ?_;rw [hb,show oV (some ((i:Int) + 1))=V.int ((i:Int) + 1) from rfl];walk_at "ev";refine ⟨_,_,rfl,so.cells,?_⟩;walk_at "ev";refine ⟨_,_,rfl,so.JX hp,?_⟩;walk_at "ev";walk_at "nx";walk_at "yx";refine bK (cF.of o1) (aX (j:=1) (v:=.int c.ld) rfl) ?_;walk_at "ev";walk_at "tx";refine ⟨p.1,_,_,1,rfl,rfl,o1,rfl,?_⟩;obtain ⟨st1,vI⟩:=so.Zsa w (l:=l) hp hc;show bI _ _ _ (upd H1 p.1 (.lst [.int c.un,.int l,.ref p.2]));generalize upd H1 p.1 (.lst [.int c.un,.int l,.ref p.2])=H2 at st1 vI ⊢;walk_at "ev";have et:Bp S (.write h t l)=(some c.ld,{ S with cells:=S.cells.set i { c with ld:=l } }):=by
   show (match bV S h t with | none=>_ | some b=>_)=_;rw [hb];show (match dG S ((i:Int) + 1) with | none=>_ | some c=>_)=_;rw [hcS];show (some c.ld,{ S with cells:=S.cells.set (((i:Int) + 1 - 1).toNat) _ })=_;rw [show ((i:Int) + 1 - 1).toNat=i from by omega]
  have q1:=q H2 T A st1 (by rw [et];exact vI) rfl;rw [et] at q1;exact q1
 | read h t=>
  have ed':=ed;have ed:H dd=some (.tup [.str "read",.int h,.int t]):=ed;walk_at "ev";walk_at "tx";walk_at "nx";refine ⟨bu (by simp),fun tp Va=>?_⟩;have s1:=aN Va (.tup [V.str "get",.str "copy",.str "drop",.str "give"]);have g1:upd H tp (.tup [V.str "get",.str "copy",.str "drop",.str "give"]) tp=some (.tup [V.str "get",.str "copy",.str "drop",.str "give"]):=aq;generalize upd H tp (.tup [V.str "get",.str "copy",.str "drop",.str "give"])=H1 at s1 g1 ⊢;refine ⟨tp,_,rfl,.inr (j4.of g1),rfl,rfl,?_⟩;rw [show (if false=true then !inV (V.str "read") [V.str "get",.str "copy",.str "drop",.str "give"] else inV (V.str "read") [V.str "get",.str "copy",.str "drop",.str "give"])=false from by decide +kernel];walk_at "ev";have ed:=s1 _ _ ed;have so:=so.same s1;have w:=w.same s1;have q:∀ H' T' A',qz r H1 H' T T'→lH H' T' r A' (Bp S (.read h t)).2→A'.d=A.d→Q (oV (Bp S (.read h t)).1) H':=fun H' T' A' st=>q H' T' A' ((qz.same ‹WT H T› s1).trans st);have ot:=od;obtain ⟨x,hx,hxt,Qv⟩:=fP ot;obtain ⟨ra,hra,Zx,xX⟩:=so.row hx;obtain ⟨b,hb⟩:∃ b,bV S h t=some b:=N6 du;obtain ⟨i,c,rfl,hc,hcS⟩:=wf.at ot hb;obtain ⟨p,hp,t1,t2,o1,o2⟩:=so.cell hc;refine ⟨_,_,rfl,so.rows,?_⟩;walk_at "ev";walk_at "tx";refine bK (cF.of so.orr) (aX (v:=.ref ra) (by rw [bx,hra];rfl)) ?_;walk_at "ev";walk_at "nx";walk_at "tx";refine bK (cF.of xX) (aX (v:=oV (bV S h t)) (by rw [bx,hxt];rfl)) ?_;rw [hb,show oV (some ((i:Int) + 1))=V.int ((i:Int) + 1) from rfl];walk_at "ev";refine ⟨_,_,rfl,so.cells,?_⟩;walk_at "ev";refine ⟨_,_,rfl,so.JX hp,?_⟩;walk_at "ev";walk_at "nx";walk_at "nx";walk_at "yx";refine bK (cF.of o1) (aX (j:=1) (v:=.int c.ld) rfl) ?_;have et:Bp S (.read h t)=(some c.ld,S):=by
   show (((bV S h t).bind (dG S)).map (·.ld),S)=_;rw [hb];show ((dG S ((i:Int) + 1)).map (·.ld),S)=_;rw [hcS];rfl
  have q1:=q H1 T A (qz.refl w) (by rw [et];exact so) rfl;rw [et] at q1;exact q1
 | name h t z=>
  have ed':=ed;have ed:H dd=some (.tup [.str "name",.int h,.int t,.str z]):=ed;walk_at "ev";walk_at "tx";walk_at "nx";refine ⟨bu (by simp),fun tp Va=>?_⟩;have s1:=aN Va (.tup [V.str "get",.str "copy",.str "drop",.str "give"]);have g1:upd H tp (.tup [V.str "get",.str "copy",.str "drop",.str "give"]) tp=some (.tup [V.str "get",.str "copy",.str "drop",.str "give"]):=aq;generalize upd H tp (.tup [V.str "get",.str "copy",.str "drop",.str "give"])=H1 at s1 g1 ⊢;refine ⟨tp,_,rfl,.inr (j4.of g1),rfl,rfl,?_⟩;rw [show (if false=true then !inV (V.str "name") [V.str "get",.str "copy",.str "drop",.str "give"] else inV (V.str "name") [V.str "get",.str "copy",.str "drop",.str "give"])=false from by decide +kernel];walk_at "ev";have ed:=s1 _ _ ed;have so:=so.same s1;have w:=w.same s1;have q:∀ H' T' A',qz r H1 H' T T'→lH H' T' r A' (Bp S (.name h t z)).2→A'.d=A.d→Q (oV (Bp S (.name h t z)).1) H':=fun H' T' A' st=>q H' T' A' ((qz.same ‹WT H T› s1).trans st);have ot:=od;obtain ⟨x,hx,hxt,Qv⟩:=fP ot;obtain ⟨ra,hra,Zx,xX⟩:=so.row hx;obtain ⟨b,hb⟩:∃ b,bV S h t=some b:=N6 du;obtain ⟨i,c,rfl,hc,hcS⟩:=wf.at ot hb;obtain ⟨p,hp,t1,t2,o1,o2⟩:=so.cell hc;refine ⟨_,_,rfl,so.rows,?_⟩;walk_at "ev";walk_at "tx";refine bK (cF.of so.orr) (aX (v:=.ref ra) (by rw [bx,hra];rfl)) ?_;walk_at "ev";walk_at "nx";walk_at "tx";refine bK (cF.of xX) (aX (v:=oV (bV S h t)) (by rw [bx,hxt];rfl)) ?_;rw [hb,show oV (some ((i:Int) + 1))=V.int ((i:Int) + 1) from rfl];walk_at "ev";refine ⟨_,_,rfl,so.cells,?_⟩;walk_at "ev";refine ⟨_,_,rfl,so.JX hp,?_⟩;walk_at "ev";walk_at "nx";walk_at "nx";walk_at "nx";refine ⟨_,_,rfl,so.words,?_⟩;walk_at "ev";walk_at "tx";refine ⟨_,_,rfl,zY.k (k:=Sum.inr z) so.ow (by unfold wdK;rw [bh];exact Nat.lt_of_le_of_lt wl (by decide)),?_⟩;rw [Ziz];obtain ⟨st1,vI⟩:=so.Zs8 w (Uo S.words z ((i:Int) + 1));generalize upd H1 A.dw (.dK (wdK (Uo S.words z ((i:Int) + 1))))=H2 at st1 vI ⊢;walk_at "ev";have et:Bp S (.name h t z)=(some ((i:Int) + 1),{ S with words:=Uo S.words z ((i:Int) + 1) }):=by
   show (match bV S h t with | none=>_ | some b=>_)=_;rw [hb]
  have q1:=q H2 T A st1 (by rw [et];exact vI) rfl;rw [et] at q1;exact q1
 | seek h s z=>
  have ed':=ed;have ed:H dd=some (.tup [.str "seek",.int h,.int s,.str z]):=ed;walk_at "ev";walk_at "tx";walk_at "nx";refine ⟨bu (by simp),fun tp Va=>?_⟩;have s1:=aN Va (.tup [V.str "get",.str "copy",.str "drop",.str "give"]);have g1:upd H tp (.tup [V.str "get",.str "copy",.str "drop",.str "give"]) tp=some (.tup [V.str "get",.str "copy",.str "drop",.str "give"]):=aq;generalize upd H tp (.tup [V.str "get",.str "copy",.str "drop",.str "give"])=H1 at s1 g1 ⊢;refine ⟨tp,_,rfl,.inr (j4.of g1),rfl,rfl,?_⟩;rw [show (if false=true then !inV (V.str "seek") [V.str "get",.str "copy",.str "drop",.str "give"] else inV (V.str "seek") [V.str "get",.str "copy",.str "drop",.str "give"])=false from by decide +kernel];walk_at "ev";have ed:=s1 _ _ ed;have so:=so.same s1;have w:=w.same s1;have q:∀ H' T' A',qz r H1 H' T T'→lH H' T' r A' (Bp S (.seek h s z)).2→A'.d=A.d→Q (oV (Bp S (.seek h s z)).1) H':=fun H' T' A' st=>q H' T' A' ((qz.same ‹WT H T› s1).trans st);obtain ⟨x,hx,hxs,Qv⟩:=fP od;obtain ⟨ra,hra,Zx,xX⟩:=so.row hx;refine ⟨_,_,rfl,so.rows,?_⟩;walk_at "ev";walk_at "tx";refine bK (cF.of so.orr) (aX (v:=.ref ra) (by rw [bx,hra];rfl)) ?_;walk_at "ev";walk_at "yx";refine ⟨_,_,rfl,so.words,?_⟩;walk_at "ev";walk_at "tx";obtain ⟨b,hb⟩:∃ b,lU S z=some b:=by
   have du:(if (lU S z).isSome=true then ("":Str) else ("name":Str))=("":Str):=du;cases e:lU S z with
   | none=>rw [e] at du;exact absurd du (by decide)
   | some b=>exact ⟨b,rfl⟩
  have dg:=qg.k (k:=Sum.inr z) so.ow;rw [S5,show ((S.words.find? fun m=>decide (m.1=z)).map (·.2))=lU S z from rfl,hb] at dg;refine ⟨_,_,rfl,dg,?_⟩;walk_at "ev";walk_at "tx";refine ⟨ra,_,_,s,rfl,rfl,xX,lu (by rw [bh];exact Qv),?_⟩;obtain ⟨st1,vI⟩:=so.Zdn w (k:=s) (y:=some b) hra hx;have ed1:=(kp0 st1 r0 ed td).1;show bI _ _ _ (upd H1 ra (.lst ((x.map oV).set s (oV (some b)))));generalize upd H1 ra (.lst ((x.map oV).set s (oV (some b))))=H2 at st1 vI ed1 ⊢;obtain ⟨_,o3⟩:=vI.rr h ra (x.set s (some b)) hra (by show (S.rows.set h _)[h]? =_;rw [List.getElem?_set_self (cI hx).1]);walk_at "ev";walk_at "tx";refine bK (cF.of o3) (aX (v:=oV (some b)) (by rw [bx,List.getElem?_set_self Qv];rfl)) ?_;have q1:=q H2 T A st1 (by
   show lH H2 T r A (jL S h s (lU S z));rw [hb,pL hx];exact vI) rfl
  rw [show (Bp S (.seek h s z)).1=some b from hb] at q1;exact q1
end
local macro_rules | `(tactic| walk_at "nx")=>`(tactic| (refine sO (fun z=>absurd z (by decide)) (fun _=>?_);walk_at "ev"))
local macro_rules | `(tactic| walk_at "yx")=>`(tactic| (refine sO (fun _=>?_) (fun z=>absurd rfl z);walk_at "ev"))
def Zcp (c:Int):Int:=if Vg c 16807 % 2=0 then -(c * 987654321 ^ Int.toNat 6 % 10 ^ Int.toNat 60) else c * 987654321 ^ Int.toNat 6 % 10 ^ Int.toNat 60
def WR:Sp:=fun vs H Q E=>∃ c,vs=[.int c]∧Builtin.Int.intBits c≤2 ^ 20∧Q (.int (Zcp c)) H
def fF (tri:Int):Int:=(([0,0,1,1,2,0,1,tri / 64 % 9]:List Int)[(tri / 8 % 8).toNat]?).getD 0
def bkF (c one:Int):Int:=(([0,1,0,3,0,c * 7654321 ^ Int.toNat 2 % (10 ^ Int.toNat 12 + 1)]:List Int)[(one / 18 % 6).toNat]?).getD 0
def mnF (tri:Int):Int:=(([0,1,2,3,2,1,2,8]:List Int)[(tri % 8).toNat]?).getD 0
def mG (sl:List Int) (i:Int):Int:=(sl[i.toNat]?).getD 3
def wsF (ws:List Str) (i:Int):Str:=(ws[i.toNat]?).getD ""
def Zcy (c one two tri:Int) (sl:List Int) (ws:List Str):iC:=
 if one % 18 < 5 then .make (two % sl.length).toNat (two / 5 % mG sl (two % sl.length)).toNat (mnF tri) (bkF c one)
 else if one % 18 < 8 then .put (two % sl.length).toNat (two / 45 % mG sl (two % sl.length)).toNat (fF tri).toNat (two / 5 % mG sl (two % sl.length)).toNat
 else if one % 18 < 11 then .get (two % sl.length).toNat (two / 5 % mG sl (two % sl.length)).toNat (two / 45 % mG sl (two % sl.length)).toNat (fF tri).toNat
 else if one % 18=11 then .copy (two % sl.length).toNat (two / 5 % mG sl (two % sl.length)).toNat (two / 45 % mG sl (two % sl.length)).toNat
 else if one % 18=12 then .drop (two % sl.length).toNat (two / 5 % mG sl (two % sl.length)).toNat
 else if one % 18=13 then .give (two % sl.length).toNat (two / 5 % mG sl (two % sl.length)).toNat (tri / 600 % sl.length).toNat (tri / 3000 % mG sl (tri / 600 % sl.length)).toNat
 else if one % 18=14 then .write (two % sl.length).toNat (two / 45 % mG sl (two % sl.length)).toNat (Zcp c)
 else if one % 18=15 then .read (two % sl.length).toNat (two / 45 % mG sl (two % sl.length)).toNat
 else if one % 18=16 then .name (two % sl.length).toNat (two / 45 % mG sl (two % sl.length)).toNat (wsF ws (tri % ws.length))
 else .seek (two % sl.length).toNat (two / 5 % mG sl (two % sl.length)).toNat (wsF ws (tri % ws.length))
def N7 (c:Int) (sl:List Int) (ws:List Str):iC:=Zcy c (Vg c 48271) (Vg c 69621) (Vg c 16807) sl ws
structure Zc6 (sl:List Int) (ws:List Str):Prop where
 a:1≤sl.length
 b:sl.length≤5
 c:∀ x∈sl,3≤x∧x≤9
 d:1≤ws.length
 e:ws.length≤100
def La (K:aG):Sp:=fun vs H Q E=>∃ c ls lw,vs=[.int c,.ref ls,.ref lw]∧∃ sl ws,H ls=some (.lst (sl.map V.int))∧H lw=some (.lst (ws.map V.str))∧Builtin.Int.intBits c≤2 ^ 20∧Zc6 sl ws∧∀ a H',bN H H'→H a=none→H' a=some (.tup (dV (N7 c sl ws)))→Q (.ref a) H'
section
theorem Wx {c:Int} (q:Builtin.Int.intBits c≤2 ^ 20∧Q (.int (Zcp c)) H):wU pG ⟨n,Q,bk,ct⟩ [some (.int c),none] H:=by
 obtain ⟨hb,q⟩:=q;unfold wU;walk_at "ev";refine i_I (Zq1 _ hb (by decide)) ?_;walk_at "ev";refine ⟨_,_,rfl,by decide,by decide,fun z hz ez=>?_⟩;subst ez;unfold Zcp at q;walk_at "ev";refine sO (fun e=>?_) (fun e=>?_)
 ·walk_at "ev";rw [if_pos e] at q;exact q
 ·walk_at "ev";rw [if_neg e] at q;exact q
theorem at_getD {l:List Int}{i:Int} (h0:0≤i) (h1:i < l.length) (d:Int):Y8 (l.map V.int) i=some (.int ((l[i.toNat]?).getD d)):=by
 have hk:i.toNat < l.length:=by omega
 rw [bO hk];exact z8 h0 (by rw [bx,bO hk];rfl)
theorem Zd5 {l:List Str}{i:Int} (h0:0≤i) (h1:i < l.length):Y8 (l.map V.str) i=some (.str (wsF l i)):=by
 have hk:i.toNat < l.length:=by omega
 unfold wsF;rw [bO hk];exact z8 h0 (by rw [bx,bO hk];rfl)
theorem Tu {sl:List Int}{ws:List Str} (o:Zc6 sl ws) (i:Int):3≤mG sl i∧mG sl i≤9:=by
 unfold mG;cases e:sl[i.toNat]? with
 | none=>exact ⟨by decide,by decide⟩
 | some x=>exact o.c x (List.mem_of_getElem? e)
theorem Wz {c:Int}{ls lw:Addr} (q:∃ sl ws,H ls=some (.lst (sl.map V.int))∧H lw=some (.lst (ws.map V.str))∧Builtin.Int.intBits c≤2 ^ 20∧Zc6 sl ws∧∀ a H',bN H H'→H a=none→H' a=some (.tup (dV (N7 c sl ws)))→Q (.ref a) H'):
  wW K WR pG ⟨n,Q,bk,ct⟩ [some (.int c),some (.ref ls),some (.ref lw),none,none,none,none,none,none,none,none,none,none] H:=by
 obtain ⟨sl,ws,hs,hw,hb,o,q⟩:=q;have o1:=o.a;have o2:=o.d;unfold wW;unfold N7 at q;walk_at "ev";refine ⟨_,_,rfl,by decide,by decide,fun one p1 e1=>?_⟩;rw [← e1] at q;walk_at "ev";refine ⟨_,_,rfl,by decide,by decide,fun two p2 e2=>?_⟩;rw [← e2] at q;walk_at "ev";refine ⟨_,_,rfl,by decide,by decide,fun tri p3 e3=>?_⟩;rw [← e3] at q;clear e1 e2 e3;walk_at "ev";refine jV (cF.of hs) ?_;rw [bh];have hl:(0:Int) < sl.length:=by omega
 refine ⟨_,_,rfl,rfl,hl,?_⟩;have h0:=Int.emod_nonneg two (show (sl.length:Int)≠0 by omega);have h1:=Int.emod_lt_of_pos two hl;have sb:=Tu o (two % sl.length);walk_at "ev";refine bK (cF.of hs) (at_getD h0 h1 3) ?_;refine ⟨_,_,rfl,rfl,by show 0 < mG sl (two % sl.length);omega,?_⟩;walk_at "ev";refine bK (cF.of hs) (at_getD h0 h1 3) ?_;refine ⟨_,_,rfl,rfl,by show 0 < mG sl (two % sl.length);omega,?_⟩;walk_at "ev";refine ⟨bu (by simp),fun l1 n1=>?_⟩;have s1:=aN n1 (.lst [.int 0,.int 0,.int 1,.int 1,.int 2,.int 0,.int 1,.int (tri / 64 % 9)]);have g1:upd H l1 (.lst [.int 0,.int 0,.int 1,.int 1,.int 2,.int 0,.int 1,.int (tri / 64 % 9)]) l1=some (.lst (([0,0,1,1,2,0,1,tri / 64 % 9]:List Int).map V.int)):=aq;generalize upd H l1 (.lst [.int 0,.int 0,.int 1,.int 1,.int 2,.int 0,.int 1,.int (tri / 64 % 9)])=H1 at s1 g1 ⊢;walk_at "ev";refine bK (cF.of g1) (at_getD (Int.emod_nonneg _ (by decide)) (by show tri / 8 % 8 < 8;exact Int.emod_lt_of_pos _ (by decide)) 0) ?_;have hs:=s1 _ _ hs;have hw:=s1 _ _ hw;have q:∀ a H',bN H1 H'→H1 a=none→H' a=some (.tup (dV (Zcy c one two tri sl ws)))→Q (.ref a) H':=fun a H' s na=>q a H' (s1.trans s) (s1.free na);have ff:0≤fF tri:=by
  unfold fF;have a1:=Int.emod_nonneg (tri / 8) (show (8:Int)≠0 by decide);have a2:=Int.emod_lt_of_pos (tri / 8) (show (0:Int) < 8 by decide);have a3:=Int.emod_nonneg (tri / 64) (show (9:Int)≠0 by decide);have:(tri / 8 % 8).toNat=0∨(tri / 8 % 8).toNat=1∨(tri / 8 % 8).toNat=2∨(tri / 8 % 8).toNat=3∨(tri / 8 % 8).toNat=4∨(tri / 8 % 8).toNat=5∨(tri / 8 % 8).toNat=6∨(tri / 8 % 8).toNat=7:=by omega
  rcases this with e | e | e | e | e | e | e | e<;>rw [e]<;>first | exact (by decide:(0:Int)≤0) | exact (by decide:(0:Int)≤1) | exact (by decide:(0:Int)≤2) | exact a3
 have s0:=Int.emod_nonneg (two / 5) (show mG sl (two % sl.length)≠0 by omega);have t0:=Int.emod_nonneg (two / 45) (show mG sl (two % sl.length)≠0 by omega);show aK _ _ _ [some (.int c),some (.ref ls),some (.ref lw),some (.int one),some (.int two),some (.int tri),some (.int (two % sl.length)),some (.int (two / 5 % mG sl (two % sl.length))),some (.int (two / 45 % mG sl (two % sl.length))),some (.int (fF tri)),none,none,none] H1;have eh:V.int (two % sl.length)=V.int ((two % sl.length).toNat:Nat):=congrArg V.int (by omega);have es:V.int (two / 5 % mG sl (two % sl.length))=V.int ((two / 5 % mG sl (two % sl.length)).toNat:Nat):=congrArg V.int (by omega);have et:V.int (two / 45 % mG sl (two % sl.length))=V.int ((two / 45 % mG sl (two % sl.length)).toNat:Nat):=congrArg V.int (by omega);have ef:V.int (fF tri)=V.int ((fF tri).toNat:Nat):=congrArg V.int (by omega);generalize hgh:two % (sl.length:Int)=hh at *;generalize hgs:two / 5 % mG sl hh=ss at *;generalize hgt:two / 45 % mG sl hh=tt at *;generalize hgf:fF tri=fn at *;unfold Zcy at q;rw [hgh,hgs,hgt,hgf] at q;clear hgh hgs hgt hgf h0 h1 sb;walk_at "ev";have wt0:=Int.emod_nonneg tri (show (ws.length:Int)≠0 by omega);have wt1:=Int.emod_lt_of_pos tri (show (0:Int) < ws.length by omega);refine sO (fun k0=>?_) (fun k0=>?_)
 ·rw [if_pos k0] at q;walk_at "ev";refine i_I (Zq1 _ hb (by decide)) ?_;walk_at "ev";refine ⟨bu (by simp),fun l2 n2=>?_⟩;have s2:=aN n2 (.lst [.int 0,.int 1,.int 0,.int 3,.int 0,.int (c * 7654321 ^ Int.toNat 2 % (10 ^ Int.toNat 12 + 1))]);have g2:upd H1 l2 (.lst [.int 0,.int 1,.int 0,.int 3,.int 0,.int (c * 7654321 ^ Int.toNat 2 % (10 ^ Int.toNat 12 + 1))]) l2=some (.lst (([0,1,0,3,0,c * 7654321 ^ Int.toNat 2 % (10 ^ Int.toNat 12 + 1)]:List Int).map V.int)):=aq;generalize upd H1 l2 (.lst [.int 0,.int 1,.int 0,.int 3,.int 0,.int (c * 7654321 ^ Int.toNat 2 % (10 ^ Int.toNat 12 + 1))])=H2 at s2 g2 ⊢;walk_at "ev";refine bK (cF.of g2) (at_getD (Int.emod_nonneg _ (by decide)) (by show one / 18 % 6 < 6;exact Int.emod_lt_of_pos _ (by decide)) 0) ?_;walk_at "ev";refine ⟨bu (by simp),fun l3 n3=>?_⟩;have s3:=aN n3 (.lst [.int 0,.int 1,.int 2,.int 3,.int 2,.int 1,.int 2,.int 8]);have g3:upd H2 l3 (.lst [.int 0,.int 1,.int 2,.int 3,.int 2,.int 1,.int 2,.int 8]) l3=some (.lst (([0,1,2,3,2,1,2,8]:List Int).map V.int)):=aq;generalize upd H2 l3 (.lst [.int 0,.int 1,.int 2,.int 3,.int 2,.int 1,.int 2,.int 8])=H3 at s3 g3 ⊢;walk_at "ev";refine bK (cF.of g3) (at_getD (Int.emod_nonneg _ (by decide)) (by show tri % 8 < 8;exact Int.emod_lt_of_pos _ (by decide)) 0) ?_;walk_at "ev";refine ⟨bu (by simp),fun a na=>q a _ ((s2.trans s3).trans (aN na _)) ((s2.trans s3).free na) ?_⟩;rw [aq,eh,es];rfl
 rw [if_neg k0] at q;walk_at "ev";refine sO (fun k1=>?_) (fun k1=>?_)
 ·rw [if_pos k1] at q;walk_at "ev";refine ⟨bu (by simp),fun a na=>q a _ (aN na _) na ?_⟩;rw [aq,eh,es,et,ef];rfl
 rw [if_neg k1] at q;walk_at "ev";refine sO (fun k2=>?_) (fun k2=>?_)
 ·rw [if_pos k2] at q;walk_at "ev";refine ⟨bu (by simp),fun a na=>q a _ (aN na _) na ?_⟩;rw [aq,eh,es,et,ef];rfl
 rw [if_neg k2] at q;walk_at "ev";refine sO (fun k3=>?_) (fun k3=>?_)
 ·rw [if_pos k3] at q;walk_at "ev";refine ⟨bu (by simp),fun a na=>q a _ (aN na _) na ?_⟩;rw [aq,eh,es,et];rfl
 rw [if_neg k3] at q;walk_at "ev";refine sO (fun k4=>?_) (fun k4=>?_)
 ·rw [if_pos k4] at q;walk_at "ev";refine ⟨bu (by simp),fun a na=>q a _ (aN na _) na ?_⟩;rw [aq,eh,es];rfl
 rw [if_neg k4] at q;walk_at "ev";refine sO (fun k5=>?_) (fun k5=>?_)
 ·rw [if_pos k5] at q;walk_at "ev";refine jV (cF.of hs) ?_;rw [bh];refine ⟨_,_,rfl,rfl,hl,?_⟩;have g0:=Int.emod_nonneg (tri / 600) (show (sl.length:Int)≠0 by omega);have g1':=Int.emod_lt_of_pos (tri / 600) hl;have gb:=Tu o (tri / 600 % sl.length);walk_at "ev";refine bK (cF.of hs) (at_getD g0 g1' 3) ?_;refine ⟨_,_,rfl,rfl,by show 0 < mG sl (tri / 600 % sl.length);omega,?_⟩;have u0:=Int.emod_nonneg (tri / 3000) (show mG sl (tri / 600 % sl.length)≠0 by omega);walk_at "ev";refine ⟨bu (by simp),fun a na=>q a _ (aN na _) na ?_⟩;rw [aq,eh,es];dsimp only;rw [show V.int (tri / 600 % sl.length)=V.int ((tri / 600 % sl.length).toNat:Nat) from congrArg V.int (by omega),show V.int (tri / 3000 % (sl[(tri / 600 % (sl.length:Int)).toNat]?).getD 3)=V.int ((tri / 3000 % mG sl (tri / 600 % sl.length)).toNat:Nat) from congrArg V.int (by show tri / 3000 % mG sl (tri / 600 % sl.length)=_;omega)];rfl
 rw [if_neg k5] at q;walk_at "ev";refine sO (fun k6=>?_) (fun k6=>?_)
 ·rw [if_pos k6] at q;walk_at "ev";refine ⟨_,rfl,hb,?_⟩;walk_at "ev";refine ⟨bu (by simp),fun a na=>q a _ (aN na _) na ?_⟩;rw [aq,eh,et];rfl
 rw [if_neg k6] at q;walk_at "ev";refine sO (fun k7=>?_) (fun k7=>?_)
 ·rw [if_pos k7] at q;walk_at "ev";refine ⟨bu (by simp),fun a na=>q a _ (aN na _) na ?_⟩;rw [aq,eh,et];rfl
 rw [if_neg k7] at q;walk_at "ev";refine sO (fun k8=>?_) (fun k8=>?_)
 ·rw [if_pos k8] at q;walk_at "ev";refine jV (cF.of hw) ?_;rw [bh];refine ⟨_,_,rfl,rfl,by show (0:Int) < ws.length;omega,?_⟩;refine bK (cF.of hw) (Zd5 wt0 wt1) ?_;walk_at "ev";refine ⟨bu (by simp),fun a na=>q a _ (aN na _) na ?_⟩;rw [aq,eh,et];rfl
 rw [if_neg k8] at q;walk_at "ev";refine jV (cF.of hw) ?_;rw [bh];refine ⟨_,_,rfl,rfl,by show (0:Int) < ws.length;omega,?_⟩;refine bK (cF.of hw) (Zd5 wt0 wt1) ?_;walk_at "ev";refine ⟨bu (by simp),fun a na=>q a _ (aN na _) na ?_⟩;rw [aq,eh,es];rfl
end
def rfS:Rf→Str
 | .full=>"full"
 | .empty=>"empty"
 | .jz=>"field"
 | .vg=>"name"
def Dh:iC→Str
 | .make _ _ _ _=>"made"
 | .get _ _ _ _=>"got"
 | .put _ _ _ _=>"put"
 | .copy _ _ _=>"copied"
 | .drop _ _=>"dropped"
 | .give _ _ _ _=>"given"
 | .write _ _ _=>"wrote"
 | .read _ _=>"read"
 | .name _ _ _=>"named"
 | .seek _ _ _=>"sought"
def jF (M:Wm):Option Ce→Sc
 | some c=>⟨1 + c.fl.length + c.bulk,c.load,c.fl.map (d8 M)⟩
 | none=>⟨0,0,[]⟩
def ud (l:List (Str×(Int×Int))):List (Str×Int):=l.map fun m=>(m.1,m.2.2)
def stOf (M:Wm):Cw:=⟨M.room,M.used,M.born,rowsOf M,M.cells.map (jF M),ud M.names⟩
structure Qm (M:Wm) (sl:List Int) (i:Nat):Prop where
 ok:Ok M
 ph:M.sw.phase="rest"
 se:M.sw.sense=0
 cl:M.cells.length≤i
 ce:∀ (k:Nat) x,M.cells[k]? =some x→∃ c,x=some c∧c.birth=(k:Int) + 1∧c.fl.length≤1000
 bo:M.born=(M.cells.length:Int)
 nb:∀ m∈M.names,0≤m.2.1∧m.2.2=m.2.1 + 1∧m.2.1 < M.cells.length
 nl:M.names.length≤i
 tl:0≤M.tells∧M.tells < 4
 hl:M.hands.map (fun m=>m.2.length)=sl.map Int.toNat
section
variable {M M':Wm}{sl:List Int}{i:Nat}
theorem Qm.at (q:Qm M sl i) {x:Int}{c:Ce} (h:cellAt M x=some c):0≤x∧c.birth=x + 1∧x < M.cells.length∧M.cells[x.toNat]? =some (some c):=by
 obtain ⟨h0,h1⟩:=gC.mp h;obtain ⟨c',e,eb,_⟩:=q.ce _ _ h1;cases e;have:=(cI h1).1;exact ⟨h0,by omega,by omega,h1⟩
theorem Qm.d8 (q:Qm M sl i) {x:Int}{c:Ce} (h:cellAt M x=some c):rM.d8 M (some x)=some (x + 1):=by
 show (cellAt M x).map _=_;rw [h];show some c.birth=_;rw [(q.at h).2.1]
theorem Qm.slot (q:Qm M sl i) {h s:Nat}{x:Int} (o:Fw M h s) (e:aB M h s=some x):∃ c,cellAt M x=some c:=by
 obtain ⟨m,hm,hk,_⟩:=Du o;rw [e] at hk;exact q.ok.sl m (List.mem_of_getElem? hm) x (List.mem_of_getElem? hk)
theorem nD {h s:Nat} (o:Fw M h s):bV (stOf M) h s=d8 M (aB M h s):=by
 obtain ⟨r,hr,hk,_⟩:=GQ o;unfold bV;show (((rowsOf M)[h]?).bind fun x=>x[s]?).join=_;rw [hr];show (r[s]?).join=_;rw [hk];rfl
theorem lK {h s:Nat} (o:Fw M h s):zy (stOf M) h s:=by
 obtain ⟨r,hr,_,hl⟩:=GQ o;exact ⟨r,hr,hl⟩
theorem U8 {d:iC} (o:okD M d):Ze6 (stOf M) d:=by
 cases d with
 | make h s many bulk=>exact ⟨lK o.1,o.2⟩
 | get h s t f=>exact ⟨lK o.1,lK o.2⟩
 | put h t f s=>exact ⟨lK o.1,lK o.2⟩
 | copy h s t=>exact ⟨lK o.1,lK o.2⟩
 | drop h s=>exact lK o
 | give h s g t=>exact ⟨lK o.1,lK o.2⟩
 | write h t l=>exact lK o
 | read h t=>exact lK o
 | name h t z=>exact lK o
 | seek h s z=>exact lK o
theorem Qm.dG (q:Qm M sl i) {x:Int}{c:Ce} (h:cellAt M x=some c):rM.dG (stOf M) (x + 1)=some (jF M (some c)):=by
 obtain ⟨h0,_,_,h3⟩:=q.at h;unfold rM.dG;rw [if_pos (by omega),show (x + 1 - 1).toNat=x.toNat from by omega];show (M.cells.map (jF M))[x.toNat]? =_;rw [bx,h3];rfl
theorem Qm.wf (q:Qm M sl i):WfS (stOf M):=by
 intro x hx b hb;have hx:x∈rowsOf M:=hx;obtain ⟨m,hm,rfl⟩:=List.mem_map.mp hx;obtain ⟨y,hy,ey⟩:=List.mem_map.mp hb;cases y with
 | none=>cases ey
 | some p=>
  obtain ⟨c,hc⟩:=q.ok.sl m hm p hy;rw [q.d8 hc] at ey;have e:p + 1=b:=Option.some.inj ey;rw [← e];exact ⟨_,q.dG hc⟩
theorem Zlr {x y:Int}{c c':Ce} (h:cellAt M x=some c) (hb:c'.birth=c.birth):d8 (setCell M x c') (some y)=d8 M (some y):=by
 obtain ⟨h0,h1⟩:=gC.mp h;show (cellAt (setCell M x c') y).map _=(cellAt M y).map _;unfold cellAt
 by_cases hy:0≤y
 ·rw [if_pos hy,if_pos hy];show (((M.cells.set x.toNat (some c'))[y.toNat]?).join).map _=_
  by_cases e:y.toNat=x.toNat
  ·rw [e,List.getElem?_set_self (cI h1).1,h1];show some c'.birth=some c.birth;rw [hb]
  ·rw [List.getElem?_set_ne (Ne.symm e)]
 ·rw [if_neg hy,if_neg hy]
theorem EY {x:Int}{c c':Ce} (h:cellAt M x=some c) (hb:c'.birth=c.birth):d8 (setCell M x c')=d8 M:=by
 funext y
 cases y with
 | none=>rfl
 | some y=>exact Zlr h hb
theorem Jh {h k:Nat}{x:Option Int}:d8 (setSlot M h k x)=d8 M:=funext fun _=>kY
theorem Zds {h k:Nat}{x:Option Int}:jF (setSlot M h k x)=jF M:=by
 funext c
 cases c with
 | none=>rfl
 | some c=>show (⟨_,_,c.fl.map (d8 (setSlot M h k x))⟩:Sc)=_;rw [Jh];rfl
theorem sH {h k:Nat}{x:Option Int} (o:Fw M h k):stOf (setSlot M h k x)=jL (stOf M) h k (d8 M x):=by
 obtain ⟨r,hr,_,_⟩:=GQ o;rw [pL (S:=stOf M) (x:=r) hr];show (⟨M.room,M.used,M.born,rowsOf (setSlot M h k x),M.cells.map (jF (setSlot M h k x)),ud M.names⟩:Cw)=_;rw [Za5 hr,Zds];rfl
theorem Xx {x:Int}{c c':Ce} (h:cellAt M x=some c) (hb:c'.birth=c.birth):rowsOf (setCell M x c')=rowsOf M:=by
 show (M.hands.map fun m=>m.2.map (d8 (setCell M x c')))=_;rw [EY h hb];rfl
theorem RC {x:Int}{c c':Ce} (h:cellAt M x=some c) (hb:c'.birth=c.birth):stOf (setCell M x c')=RG (stOf M) (x + 1) (jF M (some c')):=by
 have hs:jF (setCell M x c')=jF M:=by
  funext d
  cases d with
  | none=>rfl
  | some d=>show (⟨_,_,d.fl.map (d8 (setCell M x c'))⟩:Sc)=_;rw [EY h hb];rfl
 show (⟨M.room,M.used,M.born,rowsOf (setCell M x c'),(M.cells.set x.toNat (some c')).map (jF (setCell M x c')),ud M.names⟩:Cw)=⟨M.room,M.used,M.born,rowsOf M,(M.cells.map (jF M)).set (x + 1 - 1).toNat (jF M (some c')),ud M.names⟩;rw [Xx h hb,hs,List.map_set,show (x + 1 - 1).toNat=x.toNat from by omega]
theorem Qm.full (q:Qm M sl i):iu M.cells=M.cells.length:=by
 have:∀ l:List (Option Ce),(∀ x∈l,∃ c,x=some c)→iu l=l.length:=by
  intro l
  induction l with
  | nil=>intro _;rfl
  | cons a l ih=>
   intro h;obtain ⟨c,rfl⟩:=h a List.mem_cons_self;show iu l + 1=l.length + 1;rw [ih fun x hx=>h x (List.mem_cons_of_mem _ hx)]
 refine this _ fun x hx=>?_;obtain ⟨k,hk,e⟩:=List.getElem_of_mem hx;obtain ⟨c,ec,_⟩:=q.ce k x (by rw [bO hk,e]);exact ⟨c,ec⟩
theorem Qm.jH (q:Qm M sl i) (c:Ce):rM.jH M.cells c=M.cells ++ [some c]:=by
 unfold rM.jH;rw [if_neg (by rw [q.full];exact Nat.lt_irrefl _)]
def Vd (M:Wm) (many bulk:Int):Wm:={ M with used:=M.used + (1 + many + bulk),born:=M.born + 1,cells:=rM.jH M.cells ⟨M.born + 1,bulk,M.sw.sense,0,List.replicate many.toNat none⟩ }
theorem Zp3 (many bulk:Int) {x:Int}{c:Ce} (h:cellAt M x=some c):d8 (Vd M many bulk) (some x)=d8 M (some x):=by
 show (cellAt (Vd M many bulk) x).map _=(cellAt M x).map _;rw [h,show cellAt (Vd M many bulk) x=some c from xQ h]
theorem Qm.Zj2 (q:Qm M sl i) {many bulk:Int} (m0:0≤many):stOf (Vd M many bulk)={ stOf M with used:=M.used + (1 + many + bulk),born:=M.born + 1,cells:=M.cells.map (jF M) ++ [⟨1 + many + bulk,0,List.replicate many.toNat none⟩] }:=by
 have hc:(Vd M many bulk).cells.map (jF (Vd M many bulk))=M.cells.map (jF M) ++ [⟨1 + many + bulk,0,List.replicate many.toNat none⟩]:=by
  show (rM.jH M.cells _).map _=_;rw [q.jH,List.map_append];congr 1
  ·refine List.map_congr_left fun x hx=>?_;cases x with
   | none=>rfl
   | some c=>
    show (⟨_,_,c.fl.map (rM.d8 (Vd M many bulk))⟩:Sc)=⟨_,_,c.fl.map (rM.d8 M)⟩;congr 1;refine List.map_congr_left fun y hy=>?_;cases y with
    | none=>rfl
    | some y=>
     obtain ⟨d,hd⟩:=q.ok.fl c hx y hy;exact Zp3 _ _ hd
  ·show [(⟨1 + ((List.replicate many.toNat (none:Option Int)).length:Int) + bulk,0,(List.replicate many.toNat (none:Option Int)).map (rM.d8 (Vd M many bulk))⟩:Sc)]=_;rw [List.length_replicate,List.map_replicate,show ((many.toNat:Nat):Int)=many from by omega];rfl
 show (⟨M.room,M.used + (1 + many + bulk),M.born + 1,rowsOf (Vd M many bulk),(Vd M many bulk).cells.map (jF (Vd M many bulk)),ud M.names⟩:Cw)=_;rw [hc,show rowsOf (Vd M many bulk)=rowsOf M from Za6 q.ok];rfl
theorem Ziy (l:List (Str×(Int×Int))) (z:Str) (v:Int×Int):ud (mR l z v)=Uo (ud l) z v.2:=by
 unfold mR Uo ud;have e:((l.map fun m=>(m.1,m.2.2)).any fun m=>decide (m.1=z))=l.any fun m=>decide (m.1=z):=by rw [List.any_map];rfl
 rw [e];split
 ·rw [List.map_map,List.map_map];refine List.map_congr_left fun m _=>?_;show ((if m.1=z then (m.1,v) else m).1,(if m.1=z then (m.1,v) else m).2.2)=if m.1=z then (m.1,v.2) else (m.1,m.2.2)
  by_cases h:m.1=z
  ·rw [if_pos h,if_pos h]
  ·rw [if_neg h,if_neg h]
 ·rw [List.map_append];rfl
theorem Zc9 (l:List (Str×(Int×Int))) (z:Str):((ud l).find? fun m=>decide (m.1=z)).map (·.2)=(jW l z).map (·.2):=by
 unfold ud jW;rw [List.find?_map];cases h:l.find? ((fun m=>decide (m.1=z)) ∘ fun m=>(m.1,m.2.2)) with
 | none=>
  have:(l.find? fun m=>decide (m.1=z))=none:=h;rw [this];rfl
 | some m=>
  have:(l.find? fun m=>decide (m.1=z))=some m:=h;rw [this];rfl
theorem Qm.found (q:Qm M sl i) {z:Str}{p b:Int} (h:jW M.names z=some (p,b)):∃ c,cellAt M p=some c∧b=p + 1∧m8 M p b=false:=by
 unfold jW at h;obtain ⟨m,hm,e⟩:=Option.map_eq_some_iff.mp h;obtain ⟨h0,h1,h2⟩:=q.nb m (List.mem_of_find?_eq_some hm);rw [e] at h0 h1 h2;have h0:0≤p:=h0;have h1:b=p + 1:=h1;have h2:p < M.cells.length:=h2;have hk:p.toNat < M.cells.length:=by omega
 obtain ⟨c,ec,eb,_⟩:=q.ce p.toNat _ (bO hk);have hc:cellAt M p=some c:=gC.mpr ⟨h0,by rw [bO hk,ec]⟩;refine ⟨c,hc,h1,?_⟩;unfold m8;rw [hc];show (if c.birth=b then decide (M.sw.phase="give"∧c.tone≠M.sw.sense) else true)=false;rw [if_pos (by omega)];have:¬ M.sw.phase="give":=by rw [q.ph];decide
 simp [this]
theorem Qm.mono (q:Qm M sl i):Qm M sl (i + 1):=⟨q.ok,q.ph,q.se,by have:=q.cl;omega,q.ce,q.bo,q.nb,by have:=q.nl;omega,q.tl,q.hl⟩
theorem Zl7 {h k:Nat}{x:Option Int}:(setSlot M h k x).hands.map (fun m=>m.2.length)=M.hands.map fun m=>m.2.length:=by
 show (M.hands.modify h _).map _=_;apply List.ext_getElem?;intro j;rw [bx,bx,List.getElem?_modify]
 by_cases e:h=j
 ·subst e;cases M.hands[h]? with
  | none=>rfl
  | some m=>simp
 ·simp [e]
theorem Qm.Zdm (q:Qm M sl i) {h k:Nat}{x:Option Int} (hx:∀ y,x=some y→∃ c,cellAt M y=some c):Qm (setSlot M h k x) sl i:=
 ⟨q.ok.slot hx,q.ph,q.se,q.cl,q.ce,q.bo,q.nb,q.nl,q.tl,Zl7.trans q.hl⟩
theorem Qm.setC (q:Qm M sl i) {x:Int}{c c':Ce} (h:cellAt M x=some c) (hb:c'.birth=c.birth) (ht:c'.tone=c.tone) (hl:c'.fl.length=c.fl.length) (hf:∀ y,some y∈c'.fl→∃ d,cellAt M y=some d):Qm (setCell M x c') sl i:=by
 obtain ⟨h0,h1,h2,h3⟩:=q.at h;have ca:∀ y d,cellAt M y=some d→∃ d',cellAt (setCell M x c') y=some d':=fun y d hd=>by
  obtain ⟨y0,y1⟩:=gC.mp hd
  by_cases e:y.toNat=x.toNat
  ·exact ⟨c',gC.mpr ⟨y0,by show (M.cells.set _ _)[_]? =_;rw [e,List.getElem?_set_self (cI h3).1]⟩⟩
  ·exact ⟨d,gC.mpr ⟨y0,by show (M.cells.set _ _)[_]? =_;rw [List.getElem?_set_ne (Ne.symm e)];exact y1⟩⟩
 have mem:∀ d,some d∈(setCell M x c').cells→some d∈M.cells∨d=c':=fun d hd=>by
  rcases List.mem_or_eq_of_mem_set hd with hd | hd
  ·exact .inl hd
  ·exact .inr (Option.some.inj hd)
 refine ⟨⟨fun m hm y hy=>?_,fun d hd y hy=>?_,fun d hd=>?_⟩,q.ph,q.se,by show (M.cells.set _ _).length≤i;rw [List.length_set];exact q.cl,fun k y hk=>?_,by show M.born=((M.cells.set _ _).length:Int);rw [List.length_set];exact q.bo,fun m hm=>?_,q.nl,q.tl,q.hl⟩
 ·obtain ⟨d,hd⟩:=q.ok.sl m hm y hy;exact ca y d hd
 ·rcases mem d hd with hd | rfl
  ·obtain ⟨e,he⟩:=q.ok.fl d hd y hy;exact ca y e he
  ·obtain ⟨e,he⟩:=hf y hy;exact ca y e he
 ·rcases mem d hd with hd | rfl
  ·exact q.ok.tn d hd
  ·rw [ht];exact q.ok.tn c (tU h)
 ·have hk:(M.cells.set x.toNat (some c'))[k]? =some y:=hk
  by_cases e:k=x.toNat
  ·subst e;rw [List.getElem?_set_self (cI h3).1] at hk;cases hk;obtain ⟨c0,e0,_,l0⟩:=q.ce _ _ h3;cases e0;exact ⟨c',rfl,by rw [hb,h1];omega,by rw [hl];exact l0⟩
  ·rw [List.getElem?_set_ne (Ne.symm e)] at hk;exact q.ce k y hk
 ·have:=q.nb m hm;show _∧_∧m.2.1 < ((M.cells.set _ _).length:Int);rw [List.length_set];exact this
theorem Qm.make (q:Qm M sl i) {many bulk:Int} (m0:0≤many) (m1:many≤1000):Qm (Vd M many bulk) sl (i + 1):=by
 have hp:=q.jH ⟨M.born + 1,bulk,M.sw.sense,0,List.replicate many.toNat none⟩;have hlen:(Vd M many bulk).cells.length=M.cells.length + 1:=by
  show (rM.jH M.cells _).length=_;rw [hp,List.length_append];rfl
 refine ⟨q.ok.put (fun x hx=>?_) (by rw [q.se];exact .inl rfl),q.ph,q.se,by rw [hlen];have:=q.cl;omega,fun k x hk=>?_,?_,fun m hm=>?_,by have:=q.nl;show M.names.length≤_;omega,q.tl,q.hl⟩
 ·cases List.eq_of_mem_replicate hx
 ·have hk:(rM.jH M.cells _)[k]? =some x:=hk;rw [hp] at hk
  by_cases e:k < M.cells.length
  ·rw [List.getElem?_append_left e] at hk;exact q.ce k x hk
  ·have:=(cI hk).1;rw [List.length_append,List.length_singleton] at this;have e':k=M.cells.length:=by omega
   subst e';rw [List.getElem?_append_right (Nat.le_refl _),Nat.sub_self] at hk;have hk:some (⟨M.born + 1,bulk,M.sw.sense,0,List.replicate many.toNat none⟩:Ce)=x:=by simpa using hk
   subst hk;exact ⟨_,rfl,by show M.born + 1=_;rw [q.bo],by show (List.replicate many.toNat none).length≤1000;rw [List.length_replicate];omega⟩
 ·show M.born + 1=_;rw [hlen,q.bo];push_cast;rfl
 ·have:=q.nb m hm;rw [hlen]
  push_cast
  omega
theorem Zdy {l:List (Str×(Int×Int))}{z:Str}{v:Int×Int}:(mR l z v).length≤l.length + 1:=by
 unfold mR;split
 ·rw [bh];omega
 ·rw [List.length_append];simp
theorem Zdx {l:List (Str×(Int×Int))}{z:Str}{v:Int×Int}{m:Str×(Int×Int)} (h:m∈mR l z v):m∈l∨m.2=v:=by
 unfold mR at h;split at h
 ·obtain ⟨m',h1,e⟩:=List.mem_map.mp h
  by_cases z1:m'.1=z
  ·rw [if_pos z1] at e;exact .inr (by rw [← e])
  ·rw [if_neg z1] at e;exact .inl (by rw [← e];exact h1)
 ·rcases List.mem_append.mp h with h | h
  ·exact .inl h
  ·rw [List.mem_singleton.mp h];exact .inr rfl
theorem Qm.name (q:Qm M sl i) {z:Str}{x:Int}{c:Ce} (h:cellAt M x=some c):Qm { M with names:=mR M.names z (x,c.birth) } sl (i + 1):=by
 obtain ⟨h0,h1,h2,_⟩:=q.at h;refine ⟨⟨q.ok.sl,q.ok.fl,q.ok.tn⟩,q.ph,q.se,by have:=q.cl;show M.cells.length≤_;omega,q.ce,q.bo,fun m hm=>?_,?_,q.tl,q.hl⟩
 ·rcases Zdx hm with hm | hm
  ·exact q.nb m hm
  ·rw [hm];exact ⟨h0,h1,h2⟩
 ·have:=Zdy (l:=M.names) (z:=z) (v:=(x,c.birth));have:=q.nl;show (mR M.names z _).length≤_;omega
structure Tn (M:Wm) (sl:List Int) (i:Nat) (d:iC):Prop where
 er:∀ r,qb M d=.error r→rW (stOf M) d=rfS r
 ok:∀ e M',qb M d=.ok (e,M')→rW (stOf M) d=""∧e.notes=[]∧e.word=Dh d∧Bp (stOf M) d=(e.thing,stOf M')∧Qm M' sl (i + 1)
theorem Tn.of_ok {d:iC}{e:Ev} (h:qb M d=.ok (e,M')) (k:rW (stOf M) d=""∧e.notes=[]∧e.word=Dh d∧Bp (stOf M) d=(e.thing,stOf M')∧Qm M' sl (i + 1)):Tn M sl i d:=
 ⟨fun r er=>(by rw [h] at er;cases er),fun e1 M1 h1=>by
  rw [h] at h1;have:(e,M')=(e1,M1):=Except.ok.inj h1;cases this;exact k⟩
theorem Tn.Dv {d:iC}{r:Rf} (h:qb M d=.error r) (k:rW (stOf M) d=rfS r):Tn M sl i d:=
 ⟨fun r' er=>(by
  rw [h] at er;cases er;exact k),fun e1 M1 h1=>(by rw [h] at h1;cases h1)⟩
theorem Qm.turn (q:Qm M sl i) {d:iC} (od:okD M d):Tn M sl i d:=by
 cases d with
 | make h s many bulk=>
  obtain ⟨o,m0,m1,b0⟩:=od
  by_cases hf:M.used + (1 + many + bulk)≤M.room
  ·refine Tn.of_ok (JV hf) ⟨?_,rfl,rfl,?_,?_⟩
   ·show (if M.room < M.used + 1 + many + bulk then ("full":Str) else ("":Str))=_;rw [if_neg (by omega)]
   ·show (some (M.born + 1),jL { stOf M with used:=M.used + (1 + many + bulk),born:=M.born + 1,cells:=M.cells.map (jF M) ++ [⟨1 + many + bulk,0,List.replicate many.toNat none⟩] } h s (some (M.born + 1)))=(some (M.born + 1),stOf (setSlot (Vd M many bulk) h s (some (iu M.cells:Int))));rw [sH (M:=Vd M many bulk) o,q.Zj2 m0];have:rM.d8 (Vd M many bulk) (some (iu M.cells:Int))=some (M.born + 1):=by
     show (cellAt (Vd M many bulk) (iu M.cells:Int)).map _=_;rw [show cellAt (Vd M many bulk) (iu M.cells:Int)=some _ from Cr];rfl
    rw [this]
   ·exact (q.make m0 m1).Zdm fun y ey=>by
     cases ey;exact ⟨_,Cr⟩
  ·refine Tn.Dv (r:=.full) ?_ ?_
   ·show (if _ then _ else _)=_;rw [if_neg hf]
   ·show (if M.room < M.used + 1 + many + bulk then ("full":Str) else ("":Str))=_;rw [if_pos (by omega)];rfl
 | get h s t f=>
  obtain ⟨os,ot⟩:=od;have hr:=nD ot;cases hs:aB M h t with
  | none=>
   rw [hs] at hr;refine Tn.Dv (r:=.empty) ?_ ?_
   ·show (match aB M h t with | none=>_ | some x=>_)=_;rw [hs]
   ·show zT (stOf M) (bV (stOf M) h t) f=_;rw [hr];rfl
  | some x=>
   obtain ⟨c,hc⟩:=q.slot ot hs;rw [hs,q.d8 hc] at hr;have hcs:=q.dG hc;have hlen:(jF M (some c)).fl.length=c.fl.length:=bh _;cases hv:c.fl[f]? with
   | none=>
    have hl:c.fl.length≤f:=List.getElem?_eq_none_iff.mp hv;refine Tn.Dv (r:=.jz) ?_ ?_
    ·show (match aB M h t with | none=>_ | some x=>_)=_;rw [hs];show (match cellAt M x with | none=>_ | some c=>_)=_;rw [hc];show (match c.fl[f]? with | none=>_ | some v=>_)=_;rw [hv]
    ·show zT (stOf M) (bV (stOf M) h t) f=_;rw [hr];show (match rM.dG (stOf M) (x + 1) with | none=>("":Str) | some c=>if c.fl.length≤f then ("field":Str) else ("":Str))=_;rw [hcs];show (if (jF M (some c)).fl.length≤f then ("field":Str) else ("":Str))=_;rw [hlen,if_pos hl];rfl
   | some v=>
    have hl:¬ c.fl.length≤f:=by have:=(cI hv).1;omega
    refine Tn.of_ok (e:=⟨"got",rM.d8 M v,[]⟩) (M':=setSlot M h s v) ?_ ⟨?_,rfl,rfl,?_,?_⟩
    ·show (match aB M h t with | none=>_ | some x=>_)=_;rw [hs];show (match cellAt M x with | none=>_ | some c=>_)=_;rw [hc];show (match c.fl[f]? with | none=>_ | some v=>_)=_;rw [hv]
    ·show zT (stOf M) (bV (stOf M) h t) f=_;rw [hr];show (match rM.dG (stOf M) (x + 1) with | none=>("":Str) | some c=>if c.fl.length≤f then ("field":Str) else ("":Str))=_;rw [hcs];show (if (jF M (some c)).fl.length≤f then ("field":Str) else ("":Str))=_;rw [hlen,if_neg hl]
    ·have ev:(((bV (stOf M) h t).bind (rM.dG (stOf M))).bind fun c=>c.fl[f]?).join=rM.d8 M v:=by
      rw [hr];show ((rM.dG (stOf M) (x + 1)).bind fun c=>c.fl[f]?).join=_;rw [hcs];show ((c.fl.map (rM.d8 M))[f]?).join=_;rw [bx,hv];rfl
     show ((((bV (stOf M) h t).bind (rM.dG (stOf M))).bind fun c=>c.fl[f]?).join,jL (stOf M) h s _)=(rM.d8 M v,stOf (setSlot M h s v));rw [sH os,ev]
    ·refine (q.Zdm fun y ey=>?_).mono;subst ey;exact q.ok.fl c (tU hc) y (List.mem_of_getElem? hv)
 | put h t f s=>
  obtain ⟨ot,os⟩:=od;have hr:=nD ot;cases hs:aB M h t with
  | none=>
   rw [hs] at hr;refine Tn.Dv (r:=.empty) ?_ ?_
   ·show (match aB M h t with | none=>_ | some x=>_)=_;rw [hs]
   ·show zT (stOf M) (bV (stOf M) h t) f=_;rw [hr];rfl
  | some x=>
   obtain ⟨c,hc⟩:=q.slot ot hs;rw [hs,q.d8 hc] at hr;have hcs:=q.dG hc;have hlen:(jF M (some c)).fl.length=c.fl.length:=bh _;cases hv:c.fl[f]? with
   | none=>
    have hl:c.fl.length≤f:=List.getElem?_eq_none_iff.mp hv;refine Tn.Dv (r:=.jz) ?_ ?_
    ·show (match aB M h t with | none=>_ | some x=>_)=_;rw [hs];show (match cellAt M x with | none=>_ | some c=>_)=_;rw [hc];show (match c.fl[f]? with | none=>_ | some v=>_)=_;rw [hv]
    ·show zT (stOf M) (bV (stOf M) h t) f=_;rw [hr];show (match rM.dG (stOf M) (x + 1) with | none=>("":Str) | some c=>if c.fl.length≤f then ("field":Str) else ("":Str))=_;rw [hcs];show (if (jF M (some c)).fl.length≤f then ("field":Str) else ("":Str))=_;rw [hlen,if_pos hl];rfl
   | some v=>
    have hl:¬ c.fl.length≤f:=by have:=(cI hv).1;omega
    have hn:∀ l,bA (setCell M x { c with fl:=c.fl.set f (aB M h s) }) l=([],setCell M x { c with fl:=c.fl.set f (aB M h s) }):=fun l=>oJ (by show M.sw.phase≠"walk";rw [q.ph];decide);refine Tn.of_ok (e:=⟨"put",rM.d8 M v,[]⟩) (M':=setCell M x { c with fl:=c.fl.set f (aB M h s) }) ?_ ⟨?_,rfl,rfl,?_,?_⟩
    ·show (match aB M h t with | none=>_ | some x=>_)=_;rw [hs];show (match cellAt M x with | none=>_ | some c=>_)=_;rw [hc];show (match c.fl[f]? with | none=>_ | some v=>_)=_;rw [hv];show Except.ok (Ev.mk "put" (rM.d8 M v) (bA (setCell M x { c with fl:=c.fl.set f (aB M h s) }) _).1,(bA (setCell M x { c with fl:=c.fl.set f (aB M h s) }) _).2)=_;rw [hn]
    ·show zT (stOf M) (bV (stOf M) h t) f=_;rw [hr];show (match rM.dG (stOf M) (x + 1) with | none=>("":Str) | some c=>if c.fl.length≤f then ("field":Str) else ("":Str))=_;rw [hcs];show (if (jF M (some c)).fl.length≤f then ("field":Str) else ("":Str))=_;rw [hlen,if_neg hl]
    ·show (match bV (stOf M) h t with | none=>_ | some b=>_)=_;rw [hr];show (match rM.dG (stOf M) (x + 1) with | none=>_ | some c=>_)=_;rw [hcs];show (((c.fl.map (rM.d8 M))[f]?).join,RG (stOf M) (x + 1) { jF M (some c) with fl:=(c.fl.map (rM.d8 M)).set f (bV (stOf M) h s) })=(rM.d8 M v,stOf (setCell M x { c with fl:=c.fl.set f (aB M h s) }));rw [RC (c':={ c with fl:=c.fl.set f (aB M h s) }) hc rfl,bx,hv,nD os];show (rM.d8 M v,_)=_;congr 2;show (⟨1 + c.fl.length + c.bulk,c.load,_⟩:Sc)=⟨1 + (c.fl.set f (aB M h s)).length + c.bulk,c.load,(c.fl.set f (aB M h s)).map (rM.d8 M)⟩;rw [List.length_set,List.map_set]
    ·refine (q.setC (c':={ c with fl:=c.fl.set f (aB M h s) }) hc rfl rfl (List.length_set ..) fun y hy=>?_).mono;rcases List.mem_or_eq_of_mem_set hy with hy | hy
     ·exact q.ok.fl c (tU hc) y hy
     ·exact q.slot os hy.symm
 | copy h s t=>
  obtain ⟨os,ot⟩:=od;refine Tn.of_ok (e:=⟨"copied",rM.d8 M (aB M h t),[]⟩) (M':=setSlot M h s (aB M h t)) rfl ⟨rfl,rfl,rfl,?_,(q.Zdm fun y ey=>q.slot ot ey).mono⟩;show (bV (stOf M) h t,jL (stOf M) h s (bV (stOf M) h t))=(rM.d8 M (aB M h t),stOf (setSlot M h s (aB M h t)));rw [sH os,nD ot]
 | drop h s=>
  refine Tn.of_ok (e:=⟨"dropped",rM.d8 M (aB M h s),[]⟩) (M':=setSlot M h s none) rfl ⟨rfl,rfl,rfl,?_,(q.Zdm (x:=none) fun y ey=>by cases ey).mono⟩;show (bV (stOf M) h s,jL (stOf M) h s none)=(rM.d8 M (aB M h s),stOf (setSlot M h s none));rw [sH od,nD od];rfl
 | give h s g t=>
  obtain ⟨os,ot⟩:=od;refine Tn.of_ok (Wg (by rw [q.ph];decide) h s g t) ⟨rfl,rfl,rfl,?_,(q.Zdm fun y ey=>q.slot os ey).mono⟩;show (bV (stOf M) h s,jL (stOf M) g t (bV (stOf M) h s))=(rM.d8 M (aB M h s),stOf (setSlot M g t (aB M h s)));rw [sH ot,nD os]
 | write h t l=>
  have hr:=nD od;cases hs:aB M h t with
  | none=>
   rw [hs] at hr;refine Tn.Dv (r:=.empty) ?_ ?_
   ·show (match aB M h t with | none=>_ | some x=>_)=_;rw [hs]
   ·show Zr (bV (stOf M) h t)=_;rw [hr];rfl
  | some x=>
   obtain ⟨c,hc⟩:=q.slot od hs;rw [hs,q.d8 hc] at hr;have hcs:=q.dG hc;refine Tn.of_ok (e:=⟨"wrote",some c.load,[]⟩) (M':=setCell M x { c with load:=l }) ?_ ⟨?_,rfl,rfl,?_,(q.setC (c':={ c with load:=l }) hc rfl rfl rfl fun y hy=>q.ok.fl c (tU hc) y hy).mono⟩
   ·show (match aB M h t with | none=>_ | some x=>_)=_;rw [hs];show (match cellAt M x with | none=>_ | some c=>_)=_;rw [hc]
   ·show Zr (bV (stOf M) h t)=_;rw [hr];rfl
   ·show (match bV (stOf M) h t with | none=>_ | some b=>_)=_;rw [hr];show (match rM.dG (stOf M) (x + 1) with | none=>_ | some c=>_)=_;rw [hcs];show (some c.load,RG (stOf M) (x + 1) { jF M (some c) with ld:=l })=(some c.load,stOf (setCell M x { c with load:=l }));rw [RC (c':={ c with load:=l }) hc rfl];rfl
 | read h t=>
  have hr:=nD od;cases hs:aB M h t with
  | none=>
   rw [hs] at hr;refine Tn.Dv (r:=.empty) ?_ ?_
   ·show (match aB M h t with | none=>_ | some x=>_)=_;rw [hs]
   ·show Zr (bV (stOf M) h t)=_;rw [hr];rfl
  | some x=>
   obtain ⟨c,hc⟩:=q.slot od hs;rw [hs,q.d8 hc] at hr;have hcs:=q.dG hc;refine Tn.of_ok (e:=⟨"read",some c.load,[]⟩) (M':=M) ?_ ⟨?_,rfl,rfl,?_,q.mono⟩
   ·show (match aB M h t with | none=>_ | some x=>_)=_;rw [hs];show (match cellAt M x with | none=>_ | some c=>_)=_;rw [hc]
   ·show Zr (bV (stOf M) h t)=_;rw [hr];rfl
   ·show (((bV (stOf M) h t).bind (rM.dG (stOf M))).map (·.ld),stOf M)=_;rw [hr];show ((rM.dG (stOf M) (x + 1)).map (·.ld),stOf M)=_;rw [hcs];rfl
 | name h t z=>
  have hr:=nD od;cases hs:aB M h t with
  | none=>
   rw [hs] at hr;refine Tn.Dv (r:=.empty) ?_ ?_
   ·show (match aB M h t with | none=>_ | some x=>_)=_;rw [hs]
   ·show Zr (bV (stOf M) h t)=_;rw [hr];rfl
  | some x=>
   obtain ⟨c,hc⟩:=q.slot od hs;have hb:=(q.at hc).2.1;rw [hs,q.d8 hc] at hr;refine Tn.of_ok (e:=⟨"named",some c.birth,[]⟩) (M':={ M with names:=mR M.names z (x,c.birth) }) ?_ ⟨?_,rfl,rfl,?_,q.name hc⟩
   ·show (match aB M h t with | none=>_ | some x=>_)=_;rw [hs];show (match cellAt M x with | none=>_ | some c=>_)=_;rw [hc]
   ·show Zr (bV (stOf M) h t)=_;rw [hr];rfl
   ·show (match bV (stOf M) h t with | none=>_ | some b=>_)=_;rw [hr];show (some (x + 1),{ stOf M with words:=Uo (ud M.names) z (x + 1) })=(some c.birth,(⟨M.room,M.used,M.born,rowsOf M,M.cells.map (jF M),ud (mR M.names z (x,c.birth))⟩:Cw));rw [Ziy,hb];rfl
 | seek h s z=>
  have hw:lU (stOf M) z=(jW M.names z).map (·.2):=Zc9 M.names z;cases hg:jW M.names z with
  | none=>
   rw [hg] at hw;refine Tn.Dv (r:=.vg) ?_ ?_
   ·show (match jW M.names z with | none=>_ | some (p,b)=>_)=_;rw [hg]
   ·show (if (lU (stOf M) z).isSome=true then ("":Str) else ("name":Str))=_;rw [hw];rfl
  | some pb=>
   obtain ⟨p,b⟩:=pb;rw [hg] at hw;have hw:lU (stOf M) z=some b:=hw;obtain ⟨c,hc,eb,hgo⟩:=q.found hg;have hn:bA (setSlot M h s (some p)) [some p]=([],setSlot M h s (some p)):=oJ (by show M.sw.phase≠"walk";rw [q.ph];decide);refine Tn.of_ok (e:=⟨"sought",some b,[]⟩) (M':=setSlot M h s (some p)) ?_ ⟨?_,rfl,rfl,?_,(q.Zdm fun y ey=>by cases ey;exact ⟨c,hc⟩).mono⟩
   ·show (match jW M.names z with | none=>_ | some (p,b)=>_)=_;rw [hg];show (if m8 M p b=true then _ else _)=_;rw [if_neg (by rw [hgo];decide)];show Except.ok (Ev.mk "sought" (some b) (bA (setSlot M h s (some p)) [some p]).1,(bA (setSlot M h s (some p)) [some p]).2)=_;rw [hn]
   ·show (if (lU (stOf M) z).isSome=true then ("":Str) else ("name":Str))=_;rw [hw];rfl
   ·show (lU (stOf M) z,jL (stOf M) h s (lU (stOf M) z))=(some b,stOf (setSlot M h s (some p)));rw [sH od,q.d8 hc,hw,eb]
end
local macro_rules | `(tactic| walk_at "nx")=>`(tactic| (refine sO (fun z=>absurd z (by decide)) (fun _=>?_);walk_at "ev"))
theorem Lf:∀ (ls:List Str) (us:List V) (ks:List Str) (vs:List V),ks.length=vs.length→ls.length=us.length→(ks ++ ls).Nodup→p8 (zK ks vs) (zK ls us)=zK (ks ++ ls) (vs ++ us)
 | [],[],ks,vs,_,_,_=>by rw [List.append_nil,List.append_nil];rfl
 | [],_ :: _,_,_,_,h,_=>by simp at h
 | _ :: _,[],_,_,_,h,_=>by simp at h
 | a :: ls,b :: us,ks,vs,h1,h2,nd=>by
  show p8 (putK (zK ks vs) (Sum.inr a) b) (zK ls us)=_;have hn:(ks.all fun z=>!decide (z=a))=true:=by
   rw [List.all_eq_true];intro z hz;have:z≠a:=fun e=>(List.nodup_append.mp nd).2.2 z hz a List.mem_cons_self e;simp [this]
  rw [Zrx h1 hn,Lf ls us (ks ++ [a]) (vs ++ [b]) (by rw [List.length_append,List.length_append,h1];rfl) (by simpa using h2) (by rw [List.append_assoc];exact nd),List.append_assoc,List.append_assoc];rfl
def sU:iC→Str
 | .make _ _ _ _=>"make"
 | .get _ _ _ _=>"get"
 | .put _ _ _ _=>"put"
 | .copy _ _ _=>"copy"
 | .drop _ _=>"drop"
 | .give _ _ _ _=>"give"
 | .write _ _ _=>"write"
 | .read _ _=>"read"
 | .name _ _ _=>"name"
 | .seek _ _ _=>"seek"
def Jl:Sp:=fun vs H Q E=>∃ z,vs=[.str z]∧∃ d:iC,z=sU d∧∀ H',bN H H'→Q (.str (Dh d)) H'
def Zrl (X:Cs) (rf:Rf→Addr) (wo dd:Addr) (H:Hp) (Q:VK):Prop:=∃ T s A M d,WT H T∧s≠0∧WJ X H T s A M∧A.wo=wo∧H dd=some (.tup (dV d))∧okD M d∧Ok M∧M.cells.length≤900∧(M.sw.phase="walk"→M.sw.grey.length≤10000)∧(0≤M.tells∧M.tells < 4)∧M.names.length≤1000∧
 (∀ r,qb M d=.error r→∀ a l H',bN H H'→H' a=some (.tup [.str "refused",.str (rfS r),.ref l])→H' l=some (.lst [])→Q (.ref a) H')∧
 (∀ e M',qb M d=.ok (e,M')→∀ H' T' A' a,Stp s H H' T T'→WJ X H' T' s A' M'→A'.wo=wo→EvN H H' a e→Q (.ref a) H')
def K4 (X:Cs) (rf:Rf→Addr):Sp:=fun vs H Q E=>∃ wo dd,vs=[.ref wo,.ref dd]∧Zrl X rf wo dd H Q
structure Zzt (s r:Nat) (H H':Hp) (T T':Tg):Prop where
 kp:∀ b o,H b=some o→(T b).1≠s→(T b).1≠r→H' b=some o
 tg:∀ b o,H b=some o→T' b=T b
 al:∀ b o,H b=some o→∃ o',H' b=some o'
 wt:WT H' T'
section
variable {X:Cs}{H:Hp}{T T':Tg}{s:Nat}{A:Wa}{M:Wm}
theorem WJ.Zm5 (j:WJ X H T s A M) (r:Nat) (rs:r≠s) (r0:r≠0) (t:∀ b,(T b).1≠r→T' b=T b):WJ X H T' s A M:=by
 have ts:∀ {b:Addr}{m:Nat},T b=(s,m)→T' b=(s,m):=fun {b m} h=>(t b (by rw [h];exact Ne.symm rs)).trans h;have tz:∀ {b:Addr},T b=(0,0)→T' b=(0,0):=fun {b} h=>(t b (by rw [h];exact Ne.symm r0)).trans h;obtain ⟨⟨b1,b2,b3,b4,b5,b6,b7,b8⟩,⟨h1,h2,h3,h4⟩,⟨n1,n2,n3⟩,⟨s1,s2,s3,s4⟩,⟨d1,d2,d3⟩,⟨c1,c2⟩⟩:=j;refine ⟨⟨ts b1,tz b2,tz b3,ts b4,b5,b6,b7,b8⟩,⟨ts h1,ts h2,h3,h4⟩,⟨ts n1,n2,n3.mono fun t m ⟨z1,z2⟩=>⟨tz z1,z2⟩⟩,⟨ts s1,ts s2,s3,s4⟩,⟨d1,d2,fun j p m e1 e2=>?_⟩,⟨c1,fun i p c e1 e2=>?_⟩⟩
 ·obtain ⟨x1,x2,x3,x4⟩:=d3 j p m e1 e2;exact ⟨ts x1,ts x2,x3,x4⟩
 ·have e:=c2 i p c e1 e2;cases p with
  | none=>cases c with
   | none=>trivial
   | some c=>exact e.elim
  | some p=>cases c with
   | none=>exact e.elim
   | some c=>
    obtain ⟨x1,x2,x3,x4⟩:=(show Ri X.C H T s i p c from e);exact (show Ri X.C H T' s i p c from ⟨ts x1,ts x2,x3,x4⟩)
end
section
theorem Wv {z:Str} (q:∃ d:iC,z=sU d∧∀ H',bN H H'→Q (.str (Dh d)) H'):wQ ⟨n,Q,bk,ct⟩ [some (.str z),none] H:=by
 obtain ⟨d,rfl,q⟩:=q;unfold wQ;walk_at "ev";intro d1 nd1;simp only [FQ];walk_at "ev";refine ⟨aq,[(Sum.inr "make",.str "made"),(Sum.inr "get",.str "got"),(Sum.inr "put",.str "put"),(Sum.inr "copy",.str "copied"),(Sum.inr "drop",.str "dropped"),(Sum.inr "give",.str "given")],rfl,by decide,?_⟩;rw [eF];have e1:p8 [] [((Sum.inr "make":L2.Key),V.str "made"),(Sum.inr "get",.str "got"),(Sum.inr "put",.str "put"),(Sum.inr "copy",.str "copied"),(Sum.inr "drop",.str "dropped"),(Sum.inr "give",.str "given")]=zK ["make","get","put","copy","drop","give"] [.str "made",.str "got",.str "put",.str "copied",.str "dropped",.str "given"]:=
  Lf ["make","get","put","copy","drop","give"] [.str "made",.str "got",.str "put",.str "copied",.str "dropped",.str "given"] [] [] rfl rfl (by decide +kernel)
 rw [e1];have s1:=aN nd1 (.dK (zK ["make","get","put","copy","drop","give"] [.str "made",.str "got",.str "put",.str "copied",.str "dropped",.str "given"]));have g1:upd H d1 (.dK (zK ["make","get","put","copy","drop","give"] [.str "made",.str "got",.str "put",.str "copied",.str "dropped",.str "given"])) d1=some (.dK (zK ["make","get","put","copy","drop","give"] [.str "made",.str "got",.str "put",.str "copied",.str "dropped",.str "given"])):=aq;generalize upd H d1 (.dK (zK ["make","get","put","copy","drop","give"] [.str "made",.str "got",.str "put",.str "copied",.str "dropped",.str "given"]))=H1 at s1 g1 ⊢;walk_at "ev";refine ⟨d1,rfl,.inl ⟨_,.inl g1⟩,?_⟩;walk_at "ev";intro d2 nd2;simp only [FQ];walk_at "ev";refine ⟨aq,[(Sum.inr "write",.str "wrote"),(Sum.inr "read",.str "read"),(Sum.inr "name",.str "named"),(Sum.inr "seek",.str "sought")],rfl,by decide,?_⟩;rw [eF];have e2:p8 [] [((Sum.inr "write":L2.Key),V.str "wrote"),(Sum.inr "read",.str "read"),(Sum.inr "name",.str "named"),(Sum.inr "seek",.str "sought")]=zK ["write","read","name","seek"] [.str "wrote",.str "read",.str "named",.str "sought"]:=
  Lf ["write","read","name","seek"] [.str "wrote",.str "read",.str "named",.str "sought"] [] [] rfl rfl (by decide +kernel)
 rw [e2];have s2:=aN nd2 (.dK (zK ["write","read","name","seek"] [.str "wrote",.str "read",.str "named",.str "sought"]));have g2:upd H1 d2 (.dK (zK ["write","read","name","seek"] [.str "wrote",.str "read",.str "named",.str "sought"])) d2=some (.dK (zK ["write","read","name","seek"] [.str "wrote",.str "read",.str "named",.str "sought"])):=aq;have n12:d1≠d2:=aD g1 nd2;have g1':=s2 _ _ g1;generalize upd H1 d2 (.dK (zK ["write","read","name","seek"] [.str "wrote",.str "read",.str "named",.str "sought"]))=H2 at s2 g2 g1' ⊢;refine ⟨d2,_,_,rfl,n12,g1',g2,by decide,?_⟩;rw [Lf _ _ _ _ rfl rfl (by decide +kernel)];have s3:bN H (upd H2 d1 (.dK (zK ((["make","get","put","copy","drop","give"]:List Str) ++ (["write","read","name","seek"]:List Str)) ([.str "made",.str "got",.str "put",.str "copied",.str "dropped",.str "given"] ++ [.str "wrote",.str "read",.str "named",.str "sought"])))):=fun b o hb=>by rw [aA (aD hb nd1)];exact s2 _ _ (s1 _ _ hb)
 have g3:upd H2 d1 (.dK (zK ((["make","get","put","copy","drop","give"]:List Str) ++ (["write","read","name","seek"]:List Str)) ([.str "made",.str "got",.str "put",.str "copied",.str "dropped",.str "given"] ++ [.str "wrote",.str "read",.str "named",.str "sought"]))) d1=some (.dK (zK ["make","get","put","copy","drop","give","write","read","name","seek"] [.str "made",.str "got",.str "put",.str "copied",.str "dropped",.str "given",.str "wrote",.str "read",.str "named",.str "sought"])):=aq;generalize upd H2 d1 (.dK (zK ((["make","get","put","copy","drop","give"]:List Str) ++ (["write","read","name","seek"]:List Str)) ([.str "made",.str "got",.str "put",.str "copied",.str "dropped",.str "given"] ++ [.str "wrote",.str "read",.str "named",.str "sought"])))=H3 at s3 g3 ⊢;walk_at "ev";have q:=q H3 s3;cases d with
 | make h s m b=>exact ⟨d1,_,rfl,Xe (i:=0) (k:="make") g3 rfl (by decide +kernel) rfl,q⟩
 | get h s t f=>exact ⟨d1,_,rfl,Xe (i:=1) (k:="get") g3 rfl (by decide +kernel) rfl,q⟩
 | put h t f s=>exact ⟨d1,_,rfl,Xe (i:=2) (k:="put") g3 rfl (by decide +kernel) rfl,q⟩
 | copy h s t=>exact ⟨d1,_,rfl,Xe (i:=3) (k:="copy") g3 rfl (by decide +kernel) rfl,q⟩
 | drop h s=>exact ⟨d1,_,rfl,Xe (i:=4) (k:="drop") g3 rfl (by decide +kernel) rfl,q⟩
 | give h s g t=>exact ⟨d1,_,rfl,Xe (i:=5) (k:="give") g3 rfl (by decide +kernel) rfl,q⟩
 | write h t l=>exact ⟨d1,_,rfl,Xe (i:=6) (k:="write") g3 rfl (by decide +kernel) rfl,q⟩
 | read h t=>exact ⟨d1,_,rfl,Xe (i:=7) (k:="read") g3 rfl (by decide +kernel) rfl,q⟩
 | name h t z=>exact ⟨d1,_,rfl,Xe (i:=8) (k:="name") g3 rfl (by decide +kernel) rfl,q⟩
 | seek h s z=>exact ⟨d1,_,rfl,Xe (i:=9) (k:="seek") g3 rfl (by decide +kernel) rfl,q⟩
theorem QX {wo dd CE CF CN CM:Addr} (h1:rf .empty=CE) (h2:rf .full=CF) (h3:rf .jz=CN) (h4:rf .vg=CM) (q:Zrl X rf wo dd H Q):
  uO CE CF CN CM (Zzj X rf) ⟨n,Q,bk,ct⟩ [some (.ref wo),some (.ref dd),none,none] H:=by
 obtain ⟨T,s,A,M,d,w,s0,j,rfl,ed,od,ok,hc,hg,tl,nm,k1,k2⟩:=q;subst h1 h2 h3 h4;unfold uO;walk_at "ev";refine ⟨_,dd,rfl,T,s,A,M,d,trivial,w,s0,j,rfl,ed,od,ok,hc,hg,tl,nm,fun r er H' s=>?_,fun e M' he H' T' A' a st j' aw ev=>?_⟩
 ·have fin:∀ (z:Str),z=rfS r→¬ z=""→aK (cZ (bR (aY (rNe) (aj 3) (tC (.str "")))) (bI (lG (ak (tC (.str "refused")) (ak (aj 3) (ak (jR aL) aL))))) bT) (bI (aj 2)) ⟨n,Q,bk,ct⟩ [some (.ref A.wo),some (.ref dd),some .non,some (.str z)] H':=by
   rintro z rfl ne;walk_at "ev";refine vO (fun _=>?_) (fun x=>absurd x ne);walk_at "ev";refine ⟨by decide,fun l nl=>?_⟩;refine ⟨bu (by simp),fun a na=>?_⟩;exact k1 r er a l _ (s.trans ((aN nl _).trans (aN na _))) aq ((aN na _) _ _ aq)
  cases r with
  | full=>
   refine .inr (.inr (.inl ⟨rfl,?_⟩));walk_at "es";exact fin _ rfl (by decide)
  | empty=>
   refine .inl ⟨rfl,?_⟩;walk_at "es";exact fin _ rfl (by decide)
  | jz=>
   refine .inr (.inl ⟨rfl,?_⟩);walk_at "es";exact fin _ rfl (by decide)
  | vg=>
   refine .inr (.inr (.inr ⟨rfl,?_⟩));walk_at "es";exact fin _ rfl (by decide)
 ·walk_at "ev";refine vO (fun z=>absurd rfl z) (fun _=>?_);walk_at "ev";exact k2 e M' he H' T' A' a st j' aw ev
theorem Zmr {H:Hp}{a b l l':Addr}{z:Str} (h1:H a=some (.tup [.str "refused",.str z,.ref l])) (h2:H l=some (.lst [])) (h3:H b=some (.tup [.str "refused",.str z,.ref l'])) (h4:H l'=some (.lst [])):Sm H 3 (.ref a) (.ref b):=
 .inr ⟨a,b,_,_,rfl,rfl,.inr ⟨h1,h3⟩,by show 3≤1000000;decide,.cons (qi rfl) (.cons (qi rfl) (.cons (.inr ⟨l,l',_,_,rfl,rfl,.inl ⟨h2,h4⟩,by show 0≤1000000;decide,.nil⟩) .nil))⟩
theorem dV0 (d:iC):Y8 (dV d) 0=some (.str (sU d)):=by cases d<;>rfl
theorem Zmu (r:Rf):¬ rfS r="":=by cases r<;>decide
end
theorem Zny {ys:List V}{R:Nat→V→Prop} (h:∀ (i:Nat) y,ys[i]? =some y→∃ k:Int,y=.int k∧3≤k∧k≤9):∃ ns:List Int,ys=ns.map V.int∧∀ k∈ns,3≤k∧k≤9:=by
 induction ys with
 | nil=>exact ⟨[],rfl,fun k hk=>(nomatch hk)⟩
 | cons y ys ih=>
  obtain ⟨k,e,hk⟩:=h 0 y rfl;obtain ⟨ns,e2,hn⟩:=ih fun i z ez=>h (i + 1) z (by simpa using ez);refine ⟨k :: ns,by rw [e,e2];rfl,fun z hz=>?_⟩;rcases List.mem_cons.mp hz with hz | hz
  ·rw [hz];exact hk
  ·exact hn z hz
theorem Zkk:∀ {H:Hp}{ts:List Addr}{ns:List Int},ts.length=ns.length→(∀ k∈ns,3≤k∧k≤9)→(∀ (i:Nat) t,ts[i]? =some t→∃ (nm:Str) (k:Int),ns[i]? =some k∧H t=some (.tup [.str nm,.int k]))→
  ∃ hands:List (Str×Int),hands.map (·.2)=ns∧Al (fun (t:Addr) (m:Str×Int)=>H t=some (.tup [.str m.1,.int m.2])∧0≤m.2∧m.2≤1000) ts hands:=by
 intro H ts
 induction ts with
 | nil=>
  intro ns hl _ _;cases ns with
  | nil=>exact ⟨[],rfl,.nil⟩
  | cons k ns=>simp at hl
 | cons t ts ih=>
  intro ns hl hb h;cases ns with
  | nil=>simp at hl
  | cons k ns=>
   obtain ⟨nm,k',e1,e2⟩:=h 0 t rfl;have ek:k=k':=by simpa using e1
   subst ek;obtain ⟨hands,a1,a2⟩:=ih (ns:=ns) (by simpa using hl) (fun z hz=>hb z (List.mem_cons_of_mem _ hz)) fun i t' et=>by
    obtain ⟨nm',k2,f1,f2⟩:=h (i + 1) t' (by simpa using et);exact ⟨nm',k2,by simpa using f1,f2⟩
   have:=hb k List.mem_cons_self;exact ⟨(nm,k) :: hands,by rw [List.map_cons,a1],.cons ⟨e2,by show 0≤k;omega,by show k≤1000;omega⟩ a2⟩
theorem Zi9 {β:Type} (f:Nat→Option β):∀ n,(∀ i,i < n→∃ y,f i=some y)→((List.range n).filterMap f).length=n∧∀ i,i < n→((List.range n).filterMap f)[i]? =f i
 | 0,_=>⟨rfl,fun i hi=>absurd hi (Nat.not_lt_zero _)⟩
 | n + 1,h=>by
  obtain ⟨a,b⟩:=Zi9 f n fun i hi=>h i (by omega);obtain ⟨y,hy⟩:=h n (by omega);have e:(List.range (n + 1)).filterMap f=(List.range n).filterMap f ++ [y]:=by
   rw [List.range_succ,List.filterMap_append,List.filterMap_cons_some hy];rfl
  rw [e];refine ⟨by rw [List.length_append,a];rfl,fun i hi=>?_⟩
  by_cases z:i < n
  ·rw [List.getElem?_append_left (by omega)];exact b i z
  ·have:i=n:=by omega
   subst this;rw [List.getElem?_append_right (by omega),a,Nat.sub_self,hy];rfl
def newS (room:Int) (ns:List Int):Cw:=⟨room,0,0,ns.map fun k=>List.replicate k.toNat none,[],[]⟩
def Zrm (room:Int) (ls:Addr) (H:Hp) (Q:VK):Prop:=∃ T r ns,WT H T∧H ls=some (.lst (ns.map V.int))∧ns.length≤30∧(∀ k∈ns,0≤k∧k≤1000)∧∀ H' T' A,bN H H'→(∀ b o,H b=some o→T' b=T b)→WT H' T'→lH H' T' r A (newS room ns)→Q (.ref A.d) H'
def K5 (K:aG):Sp:=fun vs H Q E=>∃ room ls,vs=[.int room,.ref ls]∧Zrm room ls H Q
def FN (T:Tg) (r:Nat) (d lr dc dw:Addr) (rs:List Addr):Tg:=fun b=>if b=d then (r,0) else if b=lr then (r,1) else if b=dc then (r,2) else if b=dw then (r,3) else if b∈rs then (r,10 + rs.idxOf b) else T b
section
theorem Q3 {room:Int}{ls:Addr} (q:Zrm room ls H Q):uQ K ⟨n,Q,bk,ct⟩ [some (.int room),some (.ref ls)] H:=by
 obtain ⟨T,r,ns,w,ol,l30,nb,q⟩:=q;unfold uQ;walk_at "ev";intro d nd;simp only [FQ];have s1:=aN nd (.dK []);have g1:upd H d (.dK []) d=some (.dK []):=aq;generalize upd H d (.dK [])=H1 at s1 g1 ⊢;walk_at "ev";refine Nu ?_;walk_at "ev";refine ⟨ls,rfl,⟨_,cF.of (s1 _ _ ol)⟩,?_⟩;refine Ng (cF.of (s1 _ _ ol)) (by rw [bh];omega) (fun i r Hx=>∃ k:Int,ns[i]? =some k∧Hx r=some (.lst ((List.replicate k.toNat (none:Option Int)).map oV))) (fun _ _ _ _ ⟨k,e,z⟩ s=>⟨k,e,s _ _ z⟩) (fun _ _ _ ⟨_,_,z⟩=>⟨_,z⟩) (fun x H1 q hq=>zP hq) (fun i x H9 hx s9 q hq=>?_) ?_
 ·rw [bx] at hx;cases hk:ns[i]? with
  | none=>rw [hk] at hx;cases hx
  | some k=>
   rw [hk] at hx;cases hx;have nbk:=nb k (List.mem_of_getElem? hk);walk_at "caps";refine Zpt (m:=k) (by omega) (by omega) (fun H' kk sm hk'=>?_) fun r H' nr sm or=>hq r H' sm nr ⟨k,hk,or⟩;walk_at "ev";exact hk'
 intro rs H2 s2 lrs ndr nnr hRr lr nlr;rw [bh] at lrs;have s3:=aN nlr (.lst (rs.map V.ref));have g3:upd H2 lr (.lst (rs.map V.ref)) lr=some (.lst (rs.map V.ref)):=aq;have Zsj:lr∉rs:=fun z=>by
  obtain ⟨i,hi,e⟩:=List.getElem_of_mem z;obtain ⟨k,_,e2⟩:=hRr i lr (by rw [bO hi,e]);rw [nlr] at e2;cases e2
 generalize upd H2 lr (.lst (rs.map V.ref))=H3 at s3 g3 ⊢;walk_at "ev";intro dc ndc;have s4:=aN ndc (.dK []);have g4:upd H3 dc (.dK []) dc=some (.dK []):=aq;generalize upd H3 dc (.dK [])=H4 at s4 g4 ⊢;walk_at "ev";intro dw ndw;have s5:=aN ndw (.dK []);have g5:upd H4 dw (.dK []) dw=some (.dK []):=aq;generalize upd H4 dw (.dK [])=H5 at s5 g5 ⊢;walk_at "ev";have s15:bN H1 H5:=s2.trans (s3.trans (s4.trans s5));refine ⟨s15 _ _ g1,[(Sum.inr "room",.int room),(Sum.inr "used",.int 0),(Sum.inr "born",.int 0),(Sum.inr "rows",.ref lr),(Sum.inr "cells",.ref dc),(Sum.inr "words",.ref dw)],rfl,by simp,?_⟩;have em:p8 [] [((Sum.inr "room":L2.Key),V.int room),(Sum.inr "used",.int 0),(Sum.inr "born",.int 0),(Sum.inr "rows",.ref lr),(Sum.inr "cells",.ref dc),(Sum.inr "words",.ref dw)]=zK stN (stV room 0 0 lr dc dw):=
  Lf stN (stV room 0 0 lr dc dw) [] [] rfl rfl (by decide +kernel)
 rw [em];have h2d:=s2 _ _ g1;have n1:lr≠d:=(aD h2d nlr).symm;have n2:dc≠d:=(aD (s3 _ _ h2d) ndc).symm;have n3:dc≠lr:=(aD g3 ndc).symm;have n4:dw≠d:=(aD (s4 _ _ (s3 _ _ h2d)) ndw).symm;have n5:dw≠lr:=(aD (s4 _ _ g3) ndw).symm;have n6:dw≠dc:=(aD g4 ndw).symm;have nr:∀ x∈rs,x≠d∧x≠lr∧x≠dc∧x≠dw∧∃ o,H5 x=some o:=fun x hx=>by
  obtain ⟨i,hi,e⟩:=List.getElem_of_mem hx;obtain ⟨k,_,e2⟩:=hRr i x (by rw [bO hi,e]);refine ⟨fun z=>?_,fun z=>Zsj (z ▸ hx),aD (s3 _ _ e2) ndc,aD (s4 _ _ (s3 _ _ e2)) ndw,⟨_,s5 _ _ (s4 _ _ (s3 _ _ e2))⟩⟩;have:=nnr x hx;rw [z,g1] at this;cases this
 have told:∀ b,b≠d→b≠lr→b≠dc→b≠dw→b∉rs→FN T r d lr dc dw rs b=T b:=fun b z1 z2 z3 z4 z5=>by
  unfold FN;rw [if_neg z1,if_neg z2,if_neg z3,if_neg z4,if_neg z5]
 refine q _ (FN T r d lr dc dw rs) ⟨d,lr,dc,dw,rs,[]⟩ (fun b o hb=>(aA (aD hb nd)).trans (s15 _ _ (s1 _ _ hb))) (fun b o hb=>?_) (fun b hb=>?_) ?_
 ·have h1:=s1 _ _ hb;have h2:=s2 _ _ h1;have h3:=s3 _ _ h2;refine told b (aD hb nd) (aD h2 nlr) (aD h3 ndc) (aD (s4 _ _ h3) ndw) fun z=>?_;have:=nnr b z;rw [h1] at this;cases this
 ·have z1:b≠d:=fun z=>by rw [z,aq] at hb;cases hb
  rw [aA z1] at hb;have z0:H b=none:=s1.free (s15.free hb);rw [told b z1 (fun z=>by rw [z,s5 _ _ (s4 _ _ g3)] at hb;cases hb) (fun z=>by rw [z,s5 _ _ g4] at hb;cases hb) (fun z=>by rw [z,g5] at hb;cases hb) (fun z=>by
   obtain ⟨_,_,_,_,o,ho⟩:=nr b z;rw [ho] at hb;cases hb)]
  exact w b z0
 ·have o6:∀ b o,H5 b=some o→b≠d→upd H5 d (.dK (zK stN (stV room 0 0 lr dc dw))) b=some o:=fun b o h ne=>(aA ne).trans h;refine ⟨?_,aq,?_,o6 _ _ (s5 _ _ (s4 _ _ g3)) n1,?_,by show rs.length≤30;omega,fun j a x e1 e2=>?_,?_,o6 _ _ (s5 _ _ g4) n2,rfl,fun i p c e1 e2=>?_,?_,o6 _ _ g5 n4⟩
  ·show FN T r d lr dc dw rs d=_;unfold FN;rw [if_pos rfl]
  ·show FN T r d lr dc dw rs lr=_;unfold FN;rw [if_neg n1,if_pos rfl]
  ·show rs.length=(ns.map _).length;rw [bh];exact lrs
  ·have e1:rs[j]? =some a:=e1;have e2:(ns.map fun k=>List.replicate k.toNat (none:Option Int))[j]? =some x:=e2;obtain ⟨k,f1,f2⟩:=hRr j a e1;rw [bx,f1] at e2;have e3:List.replicate k.toNat none=x:=Option.some.inj e2;have hm:=List.mem_of_getElem? e1;obtain ⟨m1,m2,m3,m4,_⟩:=nr a hm;refine ⟨?_,?_⟩
   ·show FN T r d lr dc dw rs a=_;unfold FN;rw [if_neg m1,if_neg m2,if_neg m3,if_neg m4,if_pos hm,Yv ndr e1]
   ·rw [← e3];exact o6 _ _ (s5 _ _ (s4 _ _ (s3 _ _ f2))) m1
  ·show FN T r d lr dc dw rs dc=_;unfold FN;rw [if_neg n2,if_neg n3,if_pos rfl]
  ·exact absurd (show ([]:List (Addr×Addr))[i]? =some p from e1) (by simp)
  ·show FN T r d lr dc dw rs dw=_;unfold FN;rw [if_neg n4,if_neg n5,if_neg n6,if_pos rfl]
end
theorem Zlq {cs:List (Addr×Addr)}{i:Nat}{kv:L2.Key×V} (h:(Sx cs)[i]? =some kv):∃ p,cs[i]? =some p∧kv=(Sum.inl ((i:Int) + 1),V.ref p.1):=by
 unfold Sx at h;rw [bx,List.getElem?_zipIdx] at h;cases hc:cs[i]? with
 | none=>rw [hc] at h;cases h
 | some p=>
  rw [hc] at h;refine ⟨p,rfl,?_⟩;have:=Option.some.inj h;rw [← this];simp
section
variable {M:Wm}{sl:List Int}{ws:List Str}{i:Nat}
theorem Zaq (q:Qm M sl i) (o:Zc6 sl ws) {x:Int} (hx0:0≤x) (hx:x < sl.length) (y:Int):Fw M x.toNat (y % mG sl x).toNat:=by
 have hl:x.toNat < sl.length:=by omega
 have b:=Tu o x;have e:mG sl x=sl[x.toNat]:=by unfold mG;rw [bO hl];rfl
 have hm:(M.hands.map fun m=>m.2.length)[x.toNat]? =some (sl[x.toNat]).toNat:=by rw [q.hl,bx,bO hl];rfl
 rw [bx] at hm;obtain ⟨m,h1,h2⟩:=Option.map_eq_some_iff.mp hm;have c1:=Int.emod_nonneg y (show mG sl x≠0 by omega);have c2:=Int.emod_lt_of_pos y (show 0 < mG sl x by omega);exact ⟨m,h1,by rw [h2,← e];omega⟩
theorem Zgs (tri:Int):0≤mnF tri∧mnF tri≤1000:=by
 unfold mnF;cases e:([0,1,2,3,2,1,2,8]:List Int)[(tri % 8).toNat]? with
 | none=>exact ⟨by decide,by decide⟩
 | some x=>
  have:∀ x∈([0,1,2,3,2,1,2,8]:List Int),0≤x∧x≤1000:=by decide
  exact this x (List.mem_of_getElem? e)
theorem Zp1 (c one:Int):0≤bkF c one:=by
 unfold bkF;have hv:=Int.emod_nonneg (c * 7654321 ^ Int.toNat 2) (show ((10:Int) ^ Int.toNat 12 + 1)≠0 by decide);generalize c * 7654321 ^ Int.toNat 2 % (10 ^ Int.toNat 12 + 1)=v at hv;cases e:([0,1,0,3,0,v]:List Int)[(one / 18 % 6).toNat]? with
 | none=>show (0:Int)≤0;decide
 | some x=>
  have hm:=List.mem_of_getElem? e;show 0≤x;simp only [List.mem_cons,List.not_mem_nil,or_false] at hm;omega
theorem Qm.okD (q:Qm M sl i) (o:Zc6 sl ws) (c:Int):rM.okD M (N7 c sl ws):=by
 unfold N7 Zcy;generalize Vg c 48271=one;generalize Vg c 69621=two;generalize Vg c 16807=tri;have n0:(0:Int) < sl.length:=by have:=o.a;omega
 have h0:=Int.emod_nonneg two (show (sl.length:Int)≠0 by omega);have h1:=Int.emod_lt_of_pos two n0;have g0:=Int.emod_nonneg (tri / 600) (show (sl.length:Int)≠0 by omega);have g1:=Int.emod_lt_of_pos (tri / 600) n0;have hh:=fun y=>Zaq q o h0 h1 y;have hg:=fun y=>Zaq q o g0 g1 y;split
 ·exact ⟨hh _,(Zgs tri).1,(Zgs tri).2,Zp1 c one⟩
 split
 ·exact ⟨hh _,hh _⟩
 split
 ·exact ⟨hh _,hh _⟩
 split
 ·exact ⟨hh _,hh _⟩
 split
 ·exact hh _
 split
 ·exact ⟨hh _,hg _⟩
 split
 ·exact hh _
 split
 ·exact hh _
 split
 ·exact hh _
 ·exact hh _
theorem Qm.new {room w t:Int}{hands:List (Str×Int)} (eh:hands.map (·.2)=sl) (t0:0≤t) (t1:t < 4):Qm (HS room hands w t) sl 0:=by
 refine ⟨⟨fun m hm x hx=>?_,fun c hc=>(nomatch hc),fun c hc=>(nomatch hc)⟩,rfl,rfl,Nat.le_refl _,fun k x hk=>(by simp [HS] at hk),rfl,fun m hm=>(nomatch hm),Nat.le_refl _,⟨t0,t1⟩,?_⟩
 ·obtain ⟨m',_,rfl⟩:=List.mem_map.mp hm;have:=List.eq_of_mem_replicate hx;cases this
 ·show (hands.map fun m=>(m.1,List.replicate m.2.toNat (none:Option Int))).map _=_;rw [List.map_map,← eh,List.map_map];refine List.map_congr_left fun m _=>?_;show (List.replicate m.2.toNat (none:Option Int)).length=_;rw [List.length_replicate];rfl
theorem Zfo {room w t:Int}{hands:List (Str×Int)} (eh:hands.map (·.2)=sl):stOf (HS room hands w t)=newS room sl:=by
 have Zrc:rowsOf (HS room hands w t)=sl.map fun k=>List.replicate k.toNat none:=by
  show (hands.map fun m=>(m.1,List.replicate m.2.toNat (none:Option Int))).map _=_;rw [List.map_map,← eh,List.map_map];refine List.map_congr_left fun m hm=>?_;show (List.replicate m.2.toNat (none:Option Int)).map _=List.replicate m.2.toNat none;rw [List.map_replicate];rfl
 show (⟨room,0,0,rowsOf (HS room hands w t),[],[]⟩:Cw)=_;rw [Zrc];rfl
end
def tz (c:Ce):Ce:={ c with tone:=0 }
def cg (M:Wm):Wm:={ M with cells:=M.cells.map (Option.map tz),sw:={ M.sw with phase:="rest",sense:=0,grey:=[] } }
theorem set_same {α:Type}{l:List α}{i:Nat}{a:α} (h:l[i]? =some a):l.set i a=l:=by
 apply List.ext_getElem?;intro j
 by_cases e:i=j
 ·subst e;rw [List.getElem?_set_self (cI h).1,h]
 ·rw [List.getElem?_set_ne e]
theorem NP {α:Type} (f:α→α) (l:List (Option α)):iu (l.map (Option.map f))=iu l:=by
 induction l with
 | nil=>rfl
 | cons a l ih=>cases a with
  | none=>rfl
  | some a=>exact congrArg (· + 1) ih
theorem Zdv {α:Type} (f:α→α) (l:List (Option α)) (x:α):jH (l.map (Option.map f)) (f x)=(jH l x).map (Option.map f):=by
 unfold jH;rw [NP,bh];split
 ·rw [List.map_set];rfl
 ·rw [List.map_append];rfl
section
variable {M:Wm}
theorem kW (x:Int):cellAt (cg M) x=(cellAt M x).map tz:=by
 unfold cellAt
 by_cases h:0≤x
 ·rw [if_pos h,if_pos h,show (cg M).cells[x.toNat]? =(M.cells[x.toNat]?).map (Option.map tz) from bx];cases M.cells[x.toNat]? with
  | none=>rfl
  | some o=>cases o<;>rfl
 ·rw [if_neg h,if_neg h];rfl
theorem lD:d8 (cg M)=d8 M:=by
 funext x
 cases x with
 | none=>rfl
 | some x=>
  show (cellAt (cg M) x).map _=(cellAt M x).map _;rw [kW];cases cellAt M x<;>rfl
theorem RJ (o:Option Ce):jF (cg M) (o.map tz)=jF M o:=by
 cases o with
 | none=>rfl
 | some c=>
  show (⟨1 + (c.fl.length:Int) + c.bulk,c.load,c.fl.map (d8 (cg M))⟩:Sc)=_;rw [lD];rfl
theorem vH:stOf (cg M)=stOf M:=by
 show (⟨M.room,M.used,M.born,M.hands.map (fun m=>m.2.map (d8 (cg M))),(M.cells.map (Option.map tz)).map (jF (cg M)),ud M.names⟩:Cw)=_;rw [lD,List.map_map,show (jF (cg M)) ∘ (Option.map tz)=jF M from funext RJ];rfl
theorem tV {x:Int}{c:Ce} (h:cellAt M x=some c):0≤x∧M.cells[x.toNat]? =some (some c):=by
 unfold cellAt at h
 by_cases h0:0≤x
 ·rw [if_pos h0] at h;refine ⟨h0,?_⟩;cases e:M.cells[x.toNat]? with
  | none=>rw [e] at h;cases h
  | some o=>rw [e] at h;rw [show o=some c from h]
 ·rw [if_neg h0] at h;cases h
theorem Di (i:Int) (c:Ce):cg (setCell M i c)=setCell (cg M) i (tz c):=by
 show ({ M with cells:=(M.cells.set i.toNat (some c)).map (Option.map tz),sw:={ M.sw with phase:="rest",sense:=0,grey:=[] } }:Wm)=_;rw [List.map_set];rfl
def ntM (M:Wm) (i:Int) (c:Ce):Wm:={ setCell M i { c with tone:=M.sw.sense } with sw:={ M.sw with grey:=M.sw.grey ++ [i] } }
theorem xJ (M:Wm) (x:Option Int):bZ M x=(none,M)∨∃ i c,x=some i∧cellAt M i=some c∧M.sw.phase="walk"∧c.tone≠M.sw.sense∧bZ M x=(some c.birth,ntM M i c):=by
 cases x with
 | none=>exact .inl rfl
 | some i=>
  have e:bZ M (some i)=(match cellAt M i with | none=>(none,M) | some c=>if M.sw.phase="walk"∧c.tone≠M.sw.sense then (some c.birth,ntM M i c) else (none,M)):=rfl;cases h:cellAt M i with
  | none=>rw [h] at e;exact .inl e
  | some c=>
   rw [h] at e
   by_cases z:M.sw.phase="walk"∧c.tone≠M.sw.sense
   ·exact .inr ⟨i,c,rfl,h,z.1,z.2,e.trans (if_pos z)⟩
   ·exact .inl (e.trans (if_neg z))
theorem GR (x:Option Int):cg (bZ M x).2=cg M:=by
 rcases xJ M x with e | ⟨i,c,rfl,h,_,_,e⟩
 ·rw [e]
 ·rw [e];obtain ⟨h0,h1⟩:=tV h;show ({ M with cells:=(M.cells.set i.toNat (some { c with tone:=M.sw.sense })).map (Option.map tz),sw:={ M.sw with phase:="rest",sense:=0,grey:=[] } }:Wm)=cg M;rw [List.map_set,set_same (by rw [bx,h1];rfl)];rfl
theorem wI:∀ (l:List (Option Int)) (M:Wm),cg (bA M l).2=cg M
 | [],_=>rfl
 | x :: l,M=>(wI l (bZ M x).2).trans (GR x)
def evR (x:Ev×Wm):Ev×Wm:=(⟨x.1.word,x.1.thing,[]⟩,cg x.2)
theorem Sq (hp:M.sw.phase≠"give") (p b:Int):m8 (cg M) p b=m8 M p b:=by
 have e:∀ M:Wm,m8 M p b=match cellAt M p with | none=>true | some c=>if c.birth=b then decide (M.sw.phase="give"∧c.tone≠M.sw.sense) else true:=fun _=>rfl
 have f:∀ (M:Wm) (c:Ce),M.sw.phase≠"give"→decide (M.sw.phase="give"∧c.tone≠M.sw.sense)=false:=fun M c h=>decide_eq_false fun z=>h z.1;rw [e,e,kW];cases cellAt M p with
 | none=>rfl
 | some c=>
  have f1:=f (cg M) (tz c) (by show ("rest":Str)≠"give";decide);have f2:=f M c hp;show (if c.birth=b then decide ((cg M).sw.phase="give"∧(tz c).tone≠(cg M).sw.sense) else true)=(if c.birth=b then decide (M.sw.phase="give"∧c.tone≠M.sw.sense) else true);rw [f1,f2]
theorem YM (hp:M.sw.phase≠"give") (d:iC):qb (cg M) d=(qb M d).map evR:=by
 have nr:∀ (M1:Wm) l,bA (cg M1) l=([],cg M1):=fun M1 l=>oJ (by show ("rest":Str)≠"walk";decide);cases d with
 | make h s many bulk=>
  have e:∀ M:Wm,qb M (.make h s many bulk)=if M.used + (1 + many + bulk)≤M.room then .ok (⟨"made",some (M.born + 1),[]⟩,setSlot { M with used:=M.used + (1 + many + bulk),born:=M.born + 1,cells:=jH M.cells ⟨M.born + 1,bulk,M.sw.sense,0,List.replicate many.toNat none⟩ } h s (some (iu M.cells))) else .error .full:=fun _=>rfl
  rw [e,e]
  by_cases hf:M.used + (1 + many + bulk)≤M.room
  ·rw [if_pos (show (cg M).used + (1 + many + bulk)≤(cg M).room from hf),if_pos hf];show Except.ok (Ev.mk "made" (some (M.born + 1)) [],setSlot { cg M with used:=M.used + (1 + many + bulk),born:=M.born + 1,cells:=jH (M.cells.map (Option.map tz)) (tz ⟨M.born + 1,bulk,M.sw.sense,0,List.replicate many.toNat none⟩) } h s (some (iu (M.cells.map (Option.map tz)):Int)))=_;rw [Zdv,NP];rfl
  ·rw [if_neg (show ¬ (cg M).used + (1 + many + bulk)≤(cg M).room from hf),if_neg hf];rfl
 | get h s t f=>
  have e:∀ M:Wm,qb M (.get h s t f)=match aB M h t with | none=>.error .empty | some x=>match cellAt M x with | none=>.error .empty | some c=>match c.fl[f]? with | none=>.error .jz | some v=>.ok (⟨"got",d8 M v,[]⟩,setSlot M h s v):=fun _=>rfl
  rw [e,e,show aB (cg M) h t=aB M h t from rfl];cases hs:aB M h t with
  | none=>rfl
  | some x=>
   simp only [kW];cases hc:cellAt M x with
   | none=>rfl
   | some c=>
    simp only [Option.map_some];rw [show (tz c).fl=c.fl from rfl];cases hv:c.fl[f]? with
    | none=>rfl
    | some v=>simp only [lD];rfl
 | put h t f s=>
  have e:∀ M:Wm,qb M (.put h t f s)=match aB M h t with | none=>.error .empty | some x=>match cellAt M x with | none=>.error .empty | some c=>match c.fl[f]? with | none=>.error .jz | some v=>.ok (⟨"put",d8 M v,(bA (setCell M x { c with fl:=c.fl.set f (aB M h s) }) ((if old? M=true then [v] else []) ++ if (jT M && !bM M h)=true then [aB M h s] else [])).1⟩,(bA (setCell M x { c with fl:=c.fl.set f (aB M h s) }) ((if old? M=true then [v] else []) ++ if (jT M && !bM M h)=true then [aB M h s] else [])).2):=fun _=>rfl
  rw [e,e,show aB (cg M) h t=aB M h t from rfl];cases hs:aB M h t with
  | none=>rfl
  | some x=>
   simp only [kW];cases hc:cellAt M x with
   | none=>rfl
   | some c=>
    simp only [Option.map_some];rw [show (tz c).fl=c.fl from rfl];cases hv:c.fl[f]? with
    | none=>rfl
    | some v=>
     have e2:setCell (cg M) x { tz c with fl:=c.fl.set f (aB (cg M) h s) }=cg (setCell M x { c with fl:=c.fl.set f (aB M h s) }):=(Di x { c with fl:=c.fl.set f (aB M h s) }).symm;simp only [e2,nr,lD];show _=Except.ok (Ev.mk "put" (d8 M v) [],cg (bA _ _).2);rw [wI]
 | copy h s t=>
  have e:∀ M:Wm,qb M (.copy h s t)=.ok (⟨"copied",d8 M (aB M h t),[]⟩,setSlot M h s (aB M h t)):=fun _=>rfl;rw [e,e,lD];rfl
 | drop h s=>
  have e:∀ M:Wm,qb M (.drop h s)=.ok (⟨"dropped",d8 M (aB M h s),[]⟩,setSlot M h s none):=fun _=>rfl;rw [e,e,lD];rfl
 | give h s g t=>
  have e:∀ M:Wm,qb M (.give h s g t)=.ok (⟨"given",d8 M (aB M h s),(bA (setSlot M g t (aB M h s)) (if (jT M && !bM M h)=true then [aB M h s] else [])).1⟩,(bA (setSlot M g t (aB M h s)) (if (jT M && !bM M h)=true then [aB M h s] else [])).2):=fun _=>rfl;have e2:setSlot (cg M) g t (aB (cg M) h s)=cg (setSlot M g t (aB M h s)):=rfl;rw [e,e,e2,nr,lD];show _=Except.ok (Ev.mk "given" (d8 M (aB M h s)) [],cg (bA _ _).2);rw [wI];rfl
 | write h t l=>
  have e:∀ M:Wm,qb M (.write h t l)=match aB M h t with | none=>.error .empty | some x=>match cellAt M x with | none=>.error .empty | some c=>.ok (⟨"wrote",some c.load,[]⟩,setCell M x { c with load:=l }):=fun _=>rfl
  rw [e,e,show aB (cg M) h t=aB M h t from rfl];cases hs:aB M h t with
  | none=>rfl
  | some x=>
   simp only [kW];cases hc:cellAt M x with
   | none=>rfl
   | some c=>
    show Except.ok (Ev.mk "wrote" (some c.load) [],setCell (cg M) x (tz { c with load:=l }))=_;rw [← Di];rfl
 | read h t=>
  have e:∀ M:Wm,qb M (.read h t)=match aB M h t with | none=>.error .empty | some x=>match cellAt M x with | none=>.error .empty | some c=>.ok (⟨"read",some c.load,[]⟩,M):=fun _=>rfl
  rw [e,e,show aB (cg M) h t=aB M h t from rfl];cases hs:aB M h t with
  | none=>rfl
  | some x=>
   simp only [kW];cases hc:cellAt M x with
   | none=>rfl
   | some c=>rfl
 | name h t z=>
  have e:∀ M:Wm,qb M (.name h t z)=match aB M h t with | none=>.error .empty | some x=>match cellAt M x with | none=>.error .empty | some c=>.ok (⟨"named",some c.birth,[]⟩,{ M with names:=mR M.names z (x,c.birth) }):=fun _=>rfl
  rw [e,e,show aB (cg M) h t=aB M h t from rfl];cases hs:aB M h t with
  | none=>rfl
  | some x=>
   simp only [kW];cases hc:cellAt M x with
   | none=>rfl
   | some c=>rfl
 | seek h s z=>
  have e:∀ M:Wm,qb M (.seek h s z)=match jW M.names z with | none=>.error .vg | some (p,b)=>if m8 M p b=true then .ok (⟨"sought",none,[]⟩,setSlot M h s none) else .ok (⟨"sought",some b,(bA (setSlot M h s (some p)) [some p]).1⟩,(bA (setSlot M h s (some p)) [some p]).2):=fun _=>rfl
  rw [e,e,show jW (cg M).names z=jW M.names z from rfl];cases hn:jW M.names z with
  | none=>rfl
  | some pb=>
   obtain ⟨p,b⟩:=pb;simp only [Sq hp]
   by_cases hg:m8 M p b=true
   ·rw [if_pos hg,if_pos hg];rfl
   ·have e2:setSlot (cg M) h s (some p)=cg (setSlot M h s (some p)):=rfl;rw [if_neg hg,if_neg hg,e2,nr];show _=Except.ok (Ev.mk "sought" (some b) [],cg (bA _ _).2);rw [wI]
end
def eG (M:Wm):List (Option Int):=M.cells.map (Option.map Ce.tone)
def mkT (g:List Int) (x:Option Int×Nat):Str:=if x.1=some 1 then (if (x.2:Int)∈g then "grey" else "dark") else "pale"
def ji (M:Wm):List Str:=(eG M).zipIdx.map (mkT M.sw.grey)
structure Nt where
 ms:List Str
 g:List Int
 out:List Int
def nt1 (a:Nt):Option Int→Nt
 | none=>a
 | some b=>if a.ms[(b - 1).toNat]? =some ("pale":Str) then ⟨a.ms.set (b - 1).toNat "grey",a.g ++ [b - 1],a.out ++ [b]⟩ else a
def Ou (a:Nt) (l:List (Option Int)):Nt:=l.foldl nt1 a
structure Wk (M:Wm):Prop where
 ph:M.sw.phase="walk"
 se:M.sw.sense=1
 hb:∀ x b,d8 M (some x)=some b→b=x + 1
section
variable {M:Wm}
theorem Dz (k:Nat):(ji M)[k]? =((eG M)[k]?).map fun t=>mkT M.sw.grey (t,k):=by
 unfold ji;rw [bx,List.getElem?_zipIdx];cases (eG M)[k]? with
 | none=>rfl
 | some t=>simp
theorem zA:(ji M).length=M.cells.length:=by
 unfold ji eG;rw [bh,List.length_zipIdx,bh]
theorem Rn (k:Nat):(eG M)[k]? =(M.cells[k]?).map (Option.map Ce.tone):=bx
theorem Rm {x:Int}{c c':Ce} (h:cellAt M x=some c) (ht:c'.tone=c.tone):eG (setCell M x c')=eG M:=by
 obtain ⟨_,h1⟩:=tV h;show (M.cells.set x.toNat (some c')).map _=_;rw [List.map_set,set_same (by rw [bx,h1];show _=some (some c'.tone);rw [ht];rfl)];rfl
theorem Oi (x:Option Int):d8 (bZ M x).2=d8 M:=by
 rw [← lD,GR,lD]
theorem Vc (x:Option Int):(bZ M x).2.sw.phase=M.sw.phase∧(bZ M x).2.sw.sense=M.sw.sense∧(bZ M x).2.sw.looked=M.sw.looked:=by
 rcases xJ M x with e | ⟨i,c,rfl,h,_,_,e⟩
 ·rw [e];exact ⟨rfl,rfl,rfl⟩
 ·rw [e];exact ⟨rfl,rfl,rfl⟩
theorem Wk.note (w:Wk M) (x:Option Int):Wk (bZ M x).2:=by
 obtain ⟨a,b,_⟩:=Vc (M:=M) x;exact ⟨a.trans w.ph,b.trans w.se,by rw [Oi];exact w.hb⟩
theorem Zki (w:Wk M) {x:Option Int} (hx:∀ y,x=some y→∃ c,cellAt M y=some c) (out:List Int):
  nt1 ⟨ji M,M.sw.grey,out⟩ (d8 M x)=⟨ji (bZ M x).2,(bZ M x).2.sw.grey,out ++ ofN (bZ M x).1⟩:=by
 cases x with
 | none=>show (⟨_,_,_⟩:Nt)=⟨_,_,out ++ []⟩;rw [List.append_nil];rfl
 | some i=>
  obtain ⟨c,hc⟩:=hx i rfl;obtain ⟨h0,h1⟩:=tV hc;have hbi:d8 M (some i)=some (i + 1):=by
   have e:d8 M (some i)=some c.birth:=by show (cellAt M i).map _=_;rw [hc];rfl
   rw [e,w.hb i _ e]
  have hbc:c.birth=i + 1:=by
   have e:d8 M (some i)=some c.birth:=by show (cellAt M i).map _=_;rw [hc];rfl
   exact w.hb i _ e
  have ei:(i + 1 - 1).toNat=i.toNat:=by congr 1;omega
  have en:((i.toNat:Nat):Int)=i:=by omega
  have tk:(eG M)[i.toNat]? =some (some c.tone):=by rw [Rn,h1];rfl
  have mk:(ji M)[i.toNat]? =some (if some c.tone=some 1 then (if i∈M.sw.grey then ("grey":Str) else "dark") else "pale"):=by
   rw [Dz,tk];show some (if some c.tone=some (1:Int) then (if ((i.toNat:Nat):Int)∈M.sw.grey then ("grey":Str) else "dark") else "pale")=_;rw [en]
  rw [hbi];show (if (ji M)[(i + 1 - 1).toNat]? =some ("pale":Str) then (⟨(ji M).set (i + 1 - 1).toNat "grey",M.sw.grey ++ [i + 1 - 1],out ++ [i + 1]⟩:Nt) else ⟨ji M,M.sw.grey,out⟩)=_;rw [ei,mk,show i + 1 - 1=i from by omega];rcases xJ M (some i) with hn | ⟨i',c',ei',hc',hp,hts,hn⟩
  ·by_cases ht:c.tone=1
   ·rw [hn,if_pos (congrArg some ht),if_neg (by
     split
     ·decide
     ·decide)]
    show _=(⟨_,_,out ++ []⟩:Nt);rw [List.append_nil]
   ·have e:bZ M (some i)=(match cellAt M i with | none=>(none,M) | some c=>if M.sw.phase="walk"∧c.tone≠M.sw.sense then (some c.birth,ntM M i c) else (none,M)):=rfl;rw [hc,hn] at e;have e:(none,M)=if M.sw.phase="walk"∧c.tone≠M.sw.sense then (some c.birth,ntM M i c) else (none,M):=e
    rw [if_pos ⟨w.ph,by rw [w.se];exact ht⟩] at e;cases e
  ·cases ei';rw [hc] at hc';cases hc';have ht:¬ c.tone=1:=by rw [← w.se];exact hts
   rw [hn,if_neg (fun z=>ht (Option.some.inj z)),if_pos rfl];show (⟨_,_,_⟩:Nt)=⟨ji (ntM M i c),M.sw.grey ++ [i],out ++ [c.birth]⟩;rw [hbc];congr 1;apply List.ext_getElem?;intro k;rw [Dz];have tk':eG (ntM M i c)=(eG M).set i.toNat (some 1):=by
    show (M.cells.set i.toNat (some { c with tone:=M.sw.sense })).map _=_;rw [List.map_set];show (M.cells.map _).set i.toNat (some M.sw.sense)=_;rw [w.se];rfl
   rw [tk']
   by_cases hk:i.toNat=k
   ·subst hk;rw [List.getElem?_set_self (cI mk).1,List.getElem?_set_self (cI tk).1];show _=some (if some (1:Int)=some 1 then (if ((i.toNat:Nat):Int)∈M.sw.grey ++ [i] then ("grey":Str) else "dark") else "pale");rw [if_pos rfl,en,if_pos (by simp)]
   ·rw [List.getElem?_set_ne hk,List.getElem?_set_ne hk,Dz];cases (eG M)[k]? with
    | none=>rfl
    | some t=>
     show some (mkT M.sw.grey (t,k))=some (mkT (M.sw.grey ++ [i]) (t,k));unfold mkT;have:((k:Int)∈M.sw.grey ++ [i])↔(k:Int)∈M.sw.grey:=by
      rw [List.mem_append,List.mem_singleton];constructor
      ·rintro (z | z)
       ·exact z
       ·omega
      ·exact .inl
     simp only [this]
theorem Zu {x:Option Int}{y:Int} (h:∃ c,cellAt M y=some c):∃ c,cellAt (bZ M x).2 y=some c:=by
 obtain ⟨c,hc⟩:=h;have e:d8 (bZ M x).2 (some y)=some c.birth:=by
  rw [Oi];show (cellAt M y).map _=_;rw [hc];rfl
 cases h':cellAt (bZ M x).2 y with
 | none=>
  have:(cellAt (bZ M x).2 y).map (·.birth)=some c.birth:=e;rw [h'] at this;cases this
 | some c'=>exact ⟨c',rfl⟩
end
theorem XN:∀ (l:List (Option Int)) (M:Wm) (out:List Int),Wk M→(∀ y,some y∈l→∃ c,cellAt M y=some c)→
  Ou ⟨ji M,M.sw.grey,out⟩ (l.map (d8 M))=⟨ji (bA M l).2,(bA M l).2.sw.grey,out ++ (bA M l).1⟩
 | [],M,out,_,_=>by show (⟨_,_,_⟩:Nt)=⟨_,_,out ++ []⟩;rw [List.append_nil];rfl
 | x :: l,M,out,w,h=>by
  show Ou (nt1 ⟨ji M,M.sw.grey,out⟩ (d8 M x)) (l.map (d8 M))=_;rw [Zki w (fun y e=>h y (by rw [e];exact List.mem_cons_self)) out,← Oi (M:=M) x,XN l _ _ (w.note x) fun y hy=>Zu (h y (List.mem_cons_of_mem _ hy)),List.append_assoc];rfl
structure Nk (M M':Wm):Prop where
 re:cg M'=cg M
 ph:M'.sw.phase=M.sw.phase
 se:M'.sw.sense=M.sw.sense
 lo:M'.sw.looked=M.sw.looked
 cl:M'.cells.length=M.cells.length
 w:M'.w=M.w
 t:M'.tells=M.tells
 hd:M'.hands=M.hands
theorem Nk.note (M:Wm) (x:Option Int):Nk M (bZ M x).2:=by
 obtain ⟨a,b,c⟩:=Vc (M:=M) x;have r:=GR (M:=M) x;refine ⟨r,a,b,c,?_,(show (cg (bZ M x).2).w=(cg M).w from by rw [r]),(show (cg (bZ M x).2).tells=(cg M).tells from by rw [r]),(show (cg (bZ M x).2).hands=(cg M).hands from by rw [r])⟩;have:=congrArg (fun m=>m.cells.length) r;simpa [cg] using this
theorem Nk.trans {M M1 M2:Wm} (a:Nk M M1) (b:Nk M1 M2):Nk M M2:=⟨b.re.trans a.re,b.ph.trans a.ph,b.se.trans a.se,b.lo.trans a.lo,b.cl.trans a.cl,b.w.trans a.w,b.t.trans a.t,b.hd.trans a.hd⟩
theorem Nk.notes:∀ (l:List (Option Int)) (M:Wm),Nk M (bA M l).2
 | [],_=>⟨rfl,rfl,rfl,rfl,rfl,rfl,rfl,rfl⟩
 | x :: l,M=>(Nk.note M x).trans (Nk.notes l (bZ M x).2)
structure Gk (M M':Wm) (n:Nat):Prop where
 tn:(∀ c,some c∈M.cells→c.tone=0∨c.tone=1)→∀ c,some c∈M'.cells→c.tone=0∨c.tone=1
 gb:(∀ x∈M.sw.grey,0≤x∧x < M.cells.length)→∀ x∈M'.sw.grey,0≤x∧x < M'.cells.length
 gl:M'.sw.grey.length≤M.sw.grey.length + n
theorem Gk.note {M:Wm} (hs:M.sw.sense=0∨M.sw.sense=1) (x:Option Int):Gk M (bZ M x).2 1:=by
 have Zs0:Gk M M 1:=⟨fun h=>h,fun h=>h,by omega⟩;rcases xJ M x with e | ⟨i,c,rfl,h,_,_,e⟩
 ·rw [e];exact Zs0
 ·rw [e];obtain ⟨h0,h1⟩:=tV h;have hl:=(cI h1).1;refine ⟨fun ht c' hc'=>?_,fun hg x hx=>?_,?_⟩
  ·rcases List.mem_or_eq_of_mem_set (show some c'∈M.cells.set i.toNat (some { c with tone:=M.sw.sense }) from hc') with z | z
   ·exact ht c' z
   ·have e:=Option.some.inj z;rw [e];exact hs
  ·show 0≤x∧x < ((M.cells.set i.toNat (some { c with tone:=M.sw.sense })).length:Int);rw [List.length_set];rcases List.mem_append.mp (show x∈M.sw.grey ++ [i] from hx) with z | z
   ·exact hg x z
   ·rw [List.mem_singleton.mp z];exact ⟨h0,by omega⟩
  ·show (M.sw.grey ++ [i]).length≤_;rw [List.length_append];exact Nat.le_refl _
theorem Gk.notes:∀ (l:List (Option Int)) {M:Wm},(M.sw.sense=0∨M.sw.sense=1)→Gk M (bA M l).2 l.length
 | [],M,_=>⟨fun h=>h,fun h=>h,Nat.le_refl _⟩
 | x :: l,M,hs=>by
  have a:=Gk.note hs x;have b:=Gk.notes l (M:=(bZ M x).2) (by rw [(Vc (M:=M) x).2.1];exact hs);refine ⟨fun h=>b.tn (a.tn h),fun h=>b.gb (a.gb h),?_⟩;have h1:=a.gl;have h2:=b.gl;rw [List.length_cons];show (bA (bZ M x).2 l).2.sw.grey.length≤_;omega
structure Qx (b:Bool) (M:Wm) (w t:Int) (sl:List Int) (i:Nat):Prop where
 q:Qm (cg M) sl i
 ph:M.sw.phase=if b=true then "walk" else "rest"
 se:M.sw.sense=if b=true then 1 else 0
 lo:b=true→M.sw.looked=rY w M.hands.length
 hw:M.w=w
 ht:M.tells=t
 h5:M.hands.length≤5
 tn:∀ c,some c∈M.cells→c.tone=0∨c.tone=1∧b=true
 gb:∀ x∈M.sw.grey,0≤x∧x < M.cells.length
 gl:M.sw.grey.length≤2 * i
 g0:b=false→M.sw.grey=[]
def Cu (S:Cw) (t w:Int):iC→List (Option Int)
 | .put h u f s=>(if t % 2=1 then [(((bV S h u).bind (dG S)).bind fun c=>c.fl[f]?).join] else []) ++ if t / 2 % 2=1∧¬ w=0 then [bV S h s] else []
 | .give h s _ _=>if t / 2 % 2=1∧¬ w=0 then [bV S h s] else []
 | .seek _ _ z=>[lU S z]
 | _=>[]
def Zq:iC→Bool
 | .make _ _ _ _=>true
 | _=>false
theorem rN {M:Wm}{y:Int}:(∃ c,cellAt M y=some c)↔∃ b,d8 M (some y)=some b:=by
 constructor
 ·rintro ⟨c,h⟩;exact ⟨c.birth,by show (cellAt M y).map _=_;rw [h];rfl⟩
 ·rintro ⟨b,h⟩;cases e:cellAt M y with
  | none=>
   have h:(cellAt M y).map (·.birth)=some b:=h;rw [e] at h;cases h
  | some c=>exact ⟨c,rfl⟩
theorem Zh8:∀ n,n < 6→∀ h,h < n→((2:Int) ^ n - 1) / 2 ^ h % 2=1:=by decide
section
variable {b:Bool}{M M':Wm}{w t:Int}{sl:List Int}{i:Nat}
theorem vZ {y:Int}:(∃ c,cellAt (cg M) y=some c)↔∃ c,cellAt M y=some c:=by rw [rN,rN,lD]
theorem Qx.ok (x:Qx b M w t sl i):Ok M:=by
 refine ⟨fun m hm y hy=>vZ.mp (x.q.ok.sl m hm y hy),fun c hc y hy=>vZ.mp (x.q.ok.fl (tz c) (List.mem_map.mpr ⟨some c,hc,rfl⟩) y hy),fun c hc=>?_⟩;rcases x.tn c hc with e | e
 ·exact .inl e
 ·exact .inr e.1
theorem Qx.Zm9 (x:Qx true M w t sl i) {h:Nat} (hh:h < M.hands.length):bM M h=decide (w=0):=by
 unfold bM;rw [x.lo rfl];unfold rY;have h5:=x.h5
 by_cases z:w=0
 ·rw [if_pos z,Zh8 _ (by omega) h hh,decide_eq_true z];rfl
 ·rw [if_neg z,Int.zero_ediv,decide_eq_false z];rfl
theorem Qx.full (x:Qx b M w t sl i):iu M.cells=M.cells.length:=by
 have:=x.q.full;rw [show (cg M).cells=M.cells.map (Option.map tz) from rfl,NP,bh] at this;exact this
theorem Qx.Zpv (x:Qx b M w t sl i) (c:Ce):jH M.cells c=M.cells ++ [some c]:=by
 unfold jH;rw [x.full,if_neg (Nat.lt_irrefl _)]
theorem Qx.dG (x:Qx b M w t sl i) {y:Int}{c:Ce} (h:cellAt M y=some c):rM.dG (stOf M) (y + 1)=some (jF M (some c)):=by
 have:=x.q.dG (x:=y) (c:=tz c) (by rw [kW,h];rfl);rw [vH] at this;rw [this];exact congrArg some (RJ (some c))
theorem Qx.birth (x:Qx b M w t sl i) {y:Int}{bb:Int} (h:d8 M (some y)=some bb):bb=y + 1:=by
 obtain ⟨c,hc⟩:=vZ.mpr (rN.mpr ⟨bb,h⟩);have:=x.q.d8 hc;rw [lD,h] at this;exact Option.some.inj this
structure Co (M:Wm) (t w:Int) (d:iC) (e:Ev) (M' M1:Wm) (l:List (Option Int)):Prop where
 en:e.notes=(bA M1 l).1
 em:M'=(bA M1 l).2
 sw:M1.sw=M.sw
 fw:M1.w=M.w
 ft:M1.tells=M.tells
 hl:M1.hands.length=M.hands.length
 tn:eG M1=if Zq d=true then eG M ++ [some M.sw.sense] else eG M
 cl:M.cells.length≤M1.cells.length
 va:∀ y,some y∈l→∃ c,cellAt M1 y=some c
 hb:∀ y bb,d8 M1 (some y)=some bb→bb=y + 1
 as:M.sw.phase="walk"→l.map (d8 M1)=Cu (stOf M) t w d
 ll:l.length≤2
theorem sS {h k:Nat}{x:Option Int}:(setSlot M h k x).hands.length=M.hands.length:=by
 show (M.hands.modify h _).length=_;rw [List.length_modify]
theorem Sv {y:Int}{c:Ce}:(setCell M y c).cells.length=M.cells.length:=List.length_set
theorem Fz:(eG M).length=M.cells.length:=bh _
theorem Zgj {h s:Nat} (o:Fw M h s):h < M.hands.length:=by
 obtain ⟨m,hm,_⟩:=o;exact (cI hm).1
theorem Qx.core (x:Qx b M w t sl i) {d:iC} (od:okD M d) {e:Ev} (h:qb M d=.ok (e,M')):∃ M1 l,Co M t w d e M' M1 l:=by
 have ok:=x.ok;have plain:∀ (M1:Wm),e.notes=[]→M'=M1→M1.sw=M.sw→M1.w=M.w→M1.tells=M.tells→M1.hands.length=M.hands.length→(eG M1=if Zq d=true then eG M ++ [some M.sw.sense] else eG M)→M.cells.length≤M1.cells.length→(∀ y bb,d8 M1 (some y)=some bb→bb=y + 1)→Cu (stOf M) t w d=[]→∃ M1 l,Co M t w d e M' M1 l:=fun M1 a1 a2 a3 a4 a5 a6 a7 a8 a9 a10=>
  ⟨M1,[],a1,a2,a3,a4,a5,a6,a7,a8,fun y hy=>(nomatch hy),a9,fun _=>a10.symm,by simp⟩
 have hbM:∀ y bb,d8 M (some y)=some bb→bb=y + 1:=fun y bb h=>x.birth h;cases d with
 | make hh s many bulk=>
  have e1:qb M (.make hh s many bulk)=if M.used + (1 + many + bulk)≤M.room then .ok (⟨"made",some (M.born + 1),[]⟩,setSlot { M with used:=M.used + (1 + many + bulk),born:=M.born + 1,cells:=jH M.cells ⟨M.born + 1,bulk,M.sw.sense,0,List.replicate many.toNat none⟩ } hh s (some (iu M.cells))) else .error .full:=rfl
  rw [e1] at h
  by_cases hf:M.used + (1 + many + bulk)≤M.room
  ·rw [if_pos hf] at h;cases h;have hx:=YM (M:=M) (by rw [x.ph];split<;>decide) (.make hh s many bulk);rw [e1,if_pos hf] at hx;have tn:=x.q.turn (d:=.make hh s many bulk) od;obtain ⟨_,_,_,_,q'⟩:=tn.ok _ _ hx;refine plain _ rfl rfl rfl rfl rfl sS ?_ ?_ ?_ rfl
   ·show (jH M.cells _).map _=_;rw [x.Zpv,List.map_append,if_pos (show Zq (iC.make hh s many bulk)=true from rfl)];rfl
   ·show _≤(jH M.cells _).length;rw [x.Zpv,List.length_append];omega
   ·intro y bb hy;have hq:rM.d8 (cg (setSlot { M with used:=M.used + (1 + many + bulk),born:=M.born + 1,cells:=jH M.cells ⟨M.born + 1,bulk,M.sw.sense,0,List.replicate many.toNat none⟩ } hh s (some (iu M.cells)))) (some y)=some bb:=by rw [lD];exact hy
    obtain ⟨c,hc⟩:=rN.mpr ⟨bb,hq⟩;have:=q'.d8 hc;rw [hq] at this;exact Option.some.inj this
  ·rw [if_neg hf] at h;cases h
 | get hh s u f=>
  have e1:qb M (.get hh s u f)=match aB M hh u with | none=>.error .empty | some x=>match cellAt M x with | none=>.error .empty | some c=>match c.fl[f]? with | none=>.error .jz | some v=>.ok (⟨"got",d8 M v,[]⟩,setSlot M hh s v):=rfl
  rw [e1] at h;cases hs:aB M hh u with
  | none=>rw [hs] at h;cases h
  | some p=>
   rw [hs] at h;cases hc:cellAt M p with
   | none=>simp only [hc] at h;cases h
   | some c=>
    simp only [hc] at h;cases hv:c.fl[f]? with
    | none=>rw [hv] at h;cases h
    | some v=>
     rw [hv] at h;cases h;exact plain _ rfl rfl rfl rfl rfl sS rfl (Nat.le_refl _) hbM rfl
 | put hh u f s=>
  have e1:qb M (.put hh u f s)=match aB M hh u with | none=>.error .empty | some x=>match cellAt M x with | none=>.error .empty | some c=>match c.fl[f]? with | none=>.error .jz | some v=>.ok (⟨"put",d8 M v,(bA (setCell M x { c with fl:=c.fl.set f (aB M hh s) }) ((if old? M=true then [v] else []) ++ if (jT M && !bM M hh)=true then [aB M hh s] else [])).1⟩,(bA (setCell M x { c with fl:=c.fl.set f (aB M hh s) }) ((if old? M=true then [v] else []) ++ if (jT M && !bM M hh)=true then [aB M hh s] else [])).2):=rfl
  rw [e1] at h;cases hs:aB M hh u with
  | none=>rw [hs] at h;cases h
  | some p=>
   rw [hs] at h;cases hc:cellAt M p with
   | none=>simp only [hc] at h;cases h
   | some c=>
    simp only [hc] at h;cases hv:c.fl[f]? with
    | none=>rw [hv] at h;cases h
    | some v=>
     rw [hv] at h;cases h;have eb:d8 (setCell M p { c with fl:=c.fl.set f (aB M hh s) })=d8 M:=EY hc rfl;refine ⟨setCell M p { c with fl:=c.fl.set f (aB M hh s) },_,rfl,rfl,rfl,rfl,rfl,rfl,?_,by rw [Sv];exact Nat.le_refl _,fun y hy=>?_,by rw [eb];exact hbM,fun hp=>?_,?_⟩
     ·rw [if_neg (show ¬ Zq (iC.put hh u f s)=true from Bool.false_ne_true)];exact Rm hc rfl
     ·rw [rN,eb,← rN];rcases List.mem_append.mp hy with z | z
      ·by_cases ho:old? M=true
       ·rw [if_pos ho] at z;have ev:=List.mem_singleton.mp z;exact ok.fl c (tU hc) y (by rw [ev];exact List.mem_of_getElem? hv)
       ·rw [if_neg ho] at z;cases z
      ·by_cases ho:(jT M && !bM M hh)=true
       ·rw [if_pos ho] at z;have ev:=List.mem_singleton.mp z;exact (show ∃ c,cellAt M y=some c from by
         obtain ⟨m,hm,hl⟩:=od.2;refine ok.sl m (List.mem_of_getElem? hm) y ?_;have:aB M hh s=m.2[s]:=by
          unfold aB;rw [hm];show (m.2[s]?).join=_;rw [bO hl];rfl
         rw [ev,this];exact List.getElem_mem hl)
       ·rw [if_neg ho] at z;cases z
     ·cases b with
      | false=>rw [x.ph] at hp;exact absurd hp (by decide)
      | true=>
       rw [eb,List.map_append];have hr:=nD od.1;have hr2:=nD od.2;have e2:(((bV (stOf M) hh u).bind (rM.dG (stOf M))).bind fun c=>c.fl[f]?).join=d8 M v:=by
        rw [hr,hs,show d8 M (some p)=some (p + 1) from by
         have e:d8 M (some p)=some c.birth:=by show (cellAt M p).map _=_;rw [hc];rfl
         rw [e,x.birth e]]
        show ((rM.dG (stOf M) (p + 1)).bind fun c=>c.fl[f]?).join=_;rw [x.dG hc];show ((c.fl.map (d8 M))[f]?).join=_;rw [bx,hv];rfl
       show _=(if t % 2=1 then [(((bV (stOf M) hh u).bind (rM.dG (stOf M))).bind fun c=>c.fl[f]?).join] else []) ++ if t / 2 % 2=1∧¬ w=0 then [bV (stOf M) hh s] else []
       rw [e2,hr2,x.Zm9 (Zgj od.1)];unfold old? jT;rw [x.ht];congr 1
       ·by_cases z:t % 2=1
        ·rw [if_pos (decide_eq_true z),if_pos z];rfl
        ·rw [if_neg (by rw [decide_eq_false z];decide),if_neg z];rfl
       ·by_cases z:t / 2 % 2=1∧¬ w=0
        ·rw [if_pos (by rw [decide_eq_true z.1,decide_eq_false z.2];rfl),if_pos z];rfl
        ·rw [if_neg z,if_neg (fun y=>z (by
          rw [Bool.and_eq_true,Bool.not_eq_true'] at y;exact ⟨of_decide_eq_true y.1,of_decide_eq_false y.2⟩))];rfl
     ·rw [List.length_append];have h1:(if old? M=true then [v] else []).length≤1:=by split<;>simp
      have h2:(if (jT M && !bM M hh)=true then [aB M hh s] else []).length≤1:=by split<;>simp
      omega
 | copy hh s u=>
  have e1:qb M (.copy hh s u)=.ok (⟨"copied",d8 M (aB M hh u),[]⟩,setSlot M hh s (aB M hh u)):=rfl;rw [e1] at h;cases h;exact plain _ rfl rfl rfl rfl rfl sS rfl (Nat.le_refl _) hbM rfl
 | drop hh s=>
  have e1:qb M (.drop hh s)=.ok (⟨"dropped",d8 M (aB M hh s),[]⟩,setSlot M hh s none):=rfl;rw [e1] at h;cases h;exact plain _ rfl rfl rfl rfl rfl sS rfl (Nat.le_refl _) hbM rfl
 | give hh s g u=>
  have e1:qb M (.give hh s g u)=.ok (⟨"given",d8 M (aB M hh s),(bA (setSlot M g u (aB M hh s)) (if (jT M && !bM M hh)=true then [aB M hh s] else [])).1⟩,(bA (setSlot M g u (aB M hh s)) (if (jT M && !bM M hh)=true then [aB M hh s] else [])).2):=rfl;rw [e1] at h;cases h;have eb:d8 (setSlot M g u (aB M hh s))=d8 M:=Jh;refine ⟨setSlot M g u (aB M hh s),_,rfl,rfl,rfl,rfl,rfl,sS,rfl,Nat.le_refl _,fun y hy=>?_,by rw [eb];exact hbM,fun hp=>?_,by split<;>simp⟩
  ·rw [rN,eb,← rN]
   by_cases ho:(jT M && !bM M hh)=true
   ·rw [if_pos ho] at hy;have ev:=List.mem_singleton.mp hy;obtain ⟨m,hm,hl⟩:=od.1;refine ok.sl m (List.mem_of_getElem? hm) y ?_;have:aB M hh s=m.2[s]:=by
     unfold aB;rw [hm];show (m.2[s]?).join=_;rw [bO hl];rfl
    rw [ev,this];exact List.getElem_mem hl
   ·rw [if_neg ho] at hy;cases hy
  ·cases b with
   | false=>rw [x.ph] at hp;exact absurd hp (by decide)
   | true=>
    have hr2:=nD od.1;show _=if t / 2 % 2=1∧¬ w=0 then [bV (stOf M) hh s] else []
    rw [eb,hr2,x.Zm9 (Zgj od.1)];unfold jT;rw [x.ht]
    by_cases z:t / 2 % 2=1∧¬ w=0
    ·rw [if_pos (by rw [decide_eq_true z.1,decide_eq_false z.2];rfl),if_pos z];rfl
    ·rw [if_neg z,if_neg (fun y=>z (by
      rw [Bool.and_eq_true,Bool.not_eq_true'] at y;exact ⟨of_decide_eq_true y.1,of_decide_eq_false y.2⟩))];rfl
 | write hh u l=>
  have e1:qb M (.write hh u l)=match aB M hh u with | none=>.error .empty | some x=>match cellAt M x with | none=>.error .empty | some c=>.ok (⟨"wrote",some c.load,[]⟩,setCell M x { c with load:=l }):=rfl
  rw [e1] at h;cases hs:aB M hh u with
  | none=>rw [hs] at h;cases h
  | some p=>
   rw [hs] at h;cases hc:cellAt M p with
   | none=>simp only [hc] at h;cases h
   | some c=>
    simp only [hc] at h;cases h;have eb:d8 (setCell M p { c with load:=l })=d8 M:=EY hc rfl;refine plain (setCell M p { c with load:=l }) rfl rfl rfl rfl rfl rfl ?_ (by rw [Sv];exact Nat.le_refl _) (by rw [eb];exact hbM) rfl;rw [if_neg (show ¬ Zq (iC.write hh u l)=true from Bool.false_ne_true)];exact Rm hc rfl
 | read hh u=>
  have e1:qb M (.read hh u)=match aB M hh u with | none=>.error .empty | some x=>match cellAt M x with | none=>.error .empty | some c=>.ok (⟨"read",some c.load,[]⟩,M):=rfl
  rw [e1] at h;cases hs:aB M hh u with
  | none=>rw [hs] at h;cases h
  | some p=>
   rw [hs] at h;cases hc:cellAt M p with
   | none=>simp only [hc] at h;cases h
   | some c=>
    simp only [hc] at h;cases h;exact plain _ rfl rfl rfl rfl rfl rfl rfl (Nat.le_refl _) hbM rfl
 | name hh u z=>
  have e1:qb M (.name hh u z)=match aB M hh u with | none=>.error .empty | some x=>match cellAt M x with | none=>.error .empty | some c=>.ok (⟨"named",some c.birth,[]⟩,{ M with names:=mR M.names z (x,c.birth) }):=rfl
  rw [e1] at h;cases hs:aB M hh u with
  | none=>rw [hs] at h;cases h
  | some p=>
   rw [hs] at h;cases hc:cellAt M p with
   | none=>simp only [hc] at h;cases h
   | some c=>
    simp only [hc] at h;cases h;exact plain _ rfl rfl rfl rfl rfl rfl rfl (Nat.le_refl _) hbM rfl
 | seek hh s z=>
  have e1:qb M (.seek hh s z)=match jW M.names z with | none=>.error .vg | some (p,b)=>if m8 M p b=true then .ok (⟨"sought",none,[]⟩,setSlot M hh s none) else .ok (⟨"sought",some b,(bA (setSlot M hh s (some p)) [some p]).1⟩,(bA (setSlot M hh s (some p)) [some p]).2):=rfl
  rw [e1] at h;cases hn:jW M.names z with
  | none=>rw [hn] at h;cases h
  | some pb=>
   obtain ⟨p,bb⟩:=pb;simp only [hn] at h;obtain ⟨c,hc,ebb,hg⟩:=x.q.found (z:=z) (p:=p) (b:=bb) hn;rw [Sq (by rw [x.ph];split<;>decide)] at hg;rw [if_neg (by rw [hg];decide)] at h;cases h;have eb:d8 (setSlot M hh s (some p))=d8 M:=Jh;have hv:=vZ.mp ⟨c,hc⟩;refine ⟨setSlot M hh s (some p),[some p],rfl,rfl,rfl,rfl,rfl,sS,rfl,Nat.le_refl _,fun y hy=>?_,by rw [eb];exact hbM,fun _=>?_,by simp⟩
   ·rw [List.mem_singleton] at hy;cases hy;exact hv
   ·show [d8 _ (some p)]=[lU (stOf M) z];rw [eb];have ew:lU (stOf M) z=some bb:=by
     show ((ud M.names).find? fun m=>decide (m.1=z)).map (·.2)=_;rw [Zc9,hn];rfl
    obtain ⟨b',hb'⟩:=rN.mp hv;rw [ew,hb',x.birth hb',ebb]
end
structure Tw (b:Bool) (M:Wm) (w t:Int) (sl:List Int) (i:Nat) (d:iC):Prop where
 er:∀ r,qb M d=.error r→rW (stOf M) d=rfS r
 ok:∀ e M',qb M d=.ok (e,M')→rW (stOf M) d=""∧e.word=Dh d∧Bp (stOf M) d=(e.thing,stOf M')∧Qx b M' w t sl (i + 1)∧
  ∃ ms,Ou ⟨ji M,M.sw.grey,[]⟩ (if b=true then Cu (stOf M) t w d else [])=⟨ms,M'.sw.grey,e.notes⟩∧ji M'=if Zq d=true then ms ++ [if b=true then ("dark":Str) else "pale"] else ms
theorem Jy {α:Type} (l:List α) (a:α):(l ++ [a]).zipIdx=l.zipIdx ++ [(a,l.length)]:=by
 rw [List.zipIdx_append];simp
theorem Zfl {M:Wm}{P:Int→Prop} (h:∀ c,some c∈M.cells→P c.tone) (u:Int) (hu:some u∈eG M):P u:=by
 obtain ⟨o,ho,e⟩:=List.mem_map.mp hu;cases o with
 | none=>cases e
 | some c=>
  have e:some c.tone=some u:=e;rw [← Option.some.inj e];exact h c ho
section
variable {b:Bool}{M M':Wm}{w t:Int}{sl:List Int}{i:Nat}
theorem Qx.turn (x:Qx b M w t sl i) {d:iC} (od:okD M d):Tw b M w t sl i d:=by
 have hp:M.sw.phase≠"give":=by rw [x.ph];split<;>decide
 have hr:=YM hp d;have od':okD (cg M) d:=by cases d<;>exact od
 have tn:=x.q.turn od';refine ⟨fun r h=>?_,fun e M' h=>?_⟩
 ·rw [h] at hr;have:=tn.er r hr;rw [vH] at this;exact this
 ·rw [h] at hr;obtain ⟨t1,_,t3,t4,t5⟩:=tn.ok _ _ hr;rw [vH] at t1 t4;have t4:Bp (stOf M) d=(e.thing,stOf (cg M')):=t4;rw [vH] at t4;obtain ⟨M1,l,co⟩:=x.core od h;have nk:Nk M1 M':=by rw [co.em];exact Nk.notes l M1
  have hs1:M1.sw.sense=0∨M1.sw.sense=1:=by
   rw [co.sw,x.se];split
   ·exact .inr rfl
   ·exact .inl rfl
  have gk:Gk M1 M' l.length:=by rw [co.em];exact Gk.notes l hs1
  have hcl:=co.cl;have hll:=co.ll;have tn1:∀ u,some u∈eG M1→u=0∨u=1∧b=true:=fun u hu=>by
   rw [co.tn] at hu;have old:=Zfl (P:=fun u=>u=0∨u=1∧b=true) x.tn u;split at hu
   ·rcases List.mem_append.mp hu with z | z
    ·exact old z
    ·have e:=Option.some.inj (List.mem_singleton.mp z);rw [e,x.se];cases b with
     | true=>exact .inr ⟨rfl,rfl⟩
     | false=>exact .inl rfl
   ·exact old hu
  have hM1:b=false→M'=M1∧e.notes=[]:=fun hb=>by
   have hn:=oJ (l:=l) (M:=M1) (by rw [co.sw,x.ph,hb];decide);exact ⟨by rw [co.em,hn],by rw [co.en,hn]⟩
  refine ⟨t1,t3,t4,⟨t5,nk.ph.trans (by rw [co.sw];exact x.ph),nk.se.trans (by rw [co.sw];exact x.se),fun hb=>?_,nk.w.trans (co.fw.trans x.hw),nk.t.trans (co.ft.trans x.ht),?_,fun c hc=>?_,?_,?_,fun hb=>?_⟩,?_⟩
  ·rw [nk.lo,co.sw,x.lo hb,nk.hd,co.hl]
  ·rw [nk.hd,co.hl];exact x.h5
  ·cases hb:b with
   | false=>
    rw [(hM1 hb).1] at hc;have:=tn1 c.tone (List.mem_map.mpr ⟨some c,hc,rfl⟩);rw [hb] at this;exact this
   | true=>
    rcases gk.tn (fun c hc=>(tn1 c.tone (List.mem_map.mpr ⟨some c,hc,rfl⟩)).imp id And.left) c hc with z | z
    ·exact .inl z
    ·exact .inr ⟨z,rfl⟩
  ·refine gk.gb fun y hy=>?_;rw [co.sw] at hy;have:=x.gb y hy;omega
  ·have h1:=gk.gl;rw [co.sw] at h1;have h2:=x.gl;omega
  ·rw [(hM1 hb).1,co.sw];exact x.g0 hb
  ·have m1:ji M1=(if Zq d=true then eG M ++ [some M.sw.sense] else eG M).zipIdx.map (mkT M.sw.grey):=by
    unfold ji;rw [co.tn,co.sw]
   have mk1:Zq d=true→ji M1=ji M ++ [if b=true then ("dark":Str) else "pale"]:=fun hm=>by
    rw [m1,if_pos hm,Jy,List.map_append];show ji M ++ [mkT M.sw.grey (some M.sw.sense,(eG M).length)]=_;congr 2;unfold mkT;rw [x.se,Fz];cases b with
    | true=>
     show (if some (1:Int)=some 1 then (if ((M.cells.length:Nat):Int)∈M.sw.grey then ("grey":Str) else "dark") else "pale")="dark";rw [if_pos rfl,if_neg (fun z=>by have:=x.gb _ z;omega)]
    | false=>rfl
   have mk0:¬ Zq d=true→ji M1=ji M:=fun hm=>by rw [m1,if_neg hm];rfl
   cases hb:b with
   | false=>
    obtain ⟨e1,e2⟩:=hM1 hb;refine ⟨ji M,?_,?_⟩
    ·rw [if_neg (by decide),e1,e2,co.sw];rfl
    ·rw [e1]
     by_cases hm:Zq d=true
     ·rw [if_pos hm,mk1 hm,hb]
     ·rw [if_neg hm,mk0 hm]
   | true=>
    rw [if_pos rfl];subst hb;have hph:M.sw.phase="walk":=x.ph;have ha:=co.as hph;have wk:Wk M1:=⟨by rw [co.sw];exact x.ph,by rw [co.sw];exact x.se,co.hb⟩;have nn:=XN l M1 [] wk co.va;rw [ha,← co.em,← co.en] at nn
    by_cases hm:Zq d=true
    ·have Zr3:Cu (stOf M) t w d=[]:=by cases d<;>first | rfl | exact absurd hm Bool.false_ne_true
     have hl:l=[]:=by
      rw [Zr3] at ha;exact List.map_eq_nil_iff.mp ha
     subst hl;have e1:M'=M1:=co.em;have e2:e.notes=[]:=co.en;refine ⟨ji M,?_,?_⟩
     ·rw [Zr3,e1,e2,co.sw];rfl
     ·rw [if_pos hm,e1,mk1 hm]
    ·rw [mk0 hm,co.sw] at nn;exact ⟨ji M',nn,by rw [if_neg hm]⟩
theorem Qx.begin (x:Qx false M w t sl i):Qx true (Jg M) w t sl i∧ji (Jg M)=ji M∧stOf (Jg M)=stOf M:=by
 have q:=x.q;have g:=x.g0 rfl;refine ⟨⟨⟨⟨q.ok.sl,q.ok.fl,q.ok.tn⟩,rfl,rfl,q.cl,q.ce,q.bo,q.nb,q.nl,q.tl,q.hl⟩,rfl,?_,fun _=>?_,x.hw,x.ht,x.h5,fun c hc=>?_,fun y hy=>(nomatch hy),?_,fun z=>(nomatch z)⟩,?_,rfl⟩
 ·show 1 - M.sw.sense=1;rw [x.se];rfl
 ·show rY M.w M.hands.length=_;rw [x.hw];rfl
 ·rcases x.tn c hc with z | z
  ·exact .inl z
  ·exact .inl (by cases z.2)
 ·show ([]:List Int).length≤_;simp
 ·show (eG M).zipIdx.map (mkT [])=(eG M).zipIdx.map (mkT M.sw.grey);rw [g]
theorem Qx.mono (x:Qx b M w t sl i):Qx b M w t sl (i + 1):=⟨x.q.mono,x.ph,x.se,x.lo,x.hw,x.ht,x.h5,x.tn,x.gb,by have:=x.gl;omega,x.g0⟩
theorem Qx.new {room:Int}{hands:List (Str×Int)} (eh:hands.map (·.2)=sl) (t0:0≤t) (t1:t < 4) (l5:hands.length≤5):Qx false (HS room hands w t) w t sl 0:=by
 have q:Qm (HS room hands w t) sl 0:=Qm.new eh t0 t1;refine ⟨⟨⟨q.ok.sl,q.ok.fl,q.ok.tn⟩,rfl,rfl,q.cl,q.ce,q.bo,q.nb,q.nl,q.tl,q.hl⟩,rfl,rfl,fun z=>(nomatch z),rfl,rfl,?_,fun c hc=>(nomatch hc),fun y hy=>(nomatch hy),Nat.le_refl _,fun _=>rfl⟩;show (hands.map _).length≤5;rw [bh];exact l5
theorem Qx.mark (x:Qx true M w t sl i) {k:Nat}{c:Ce} (h:M.cells[k]? =some (some c)):(ji M)[k]? =some (DW M k c):=by
 rw [Dz,Rn,h];show some (if some c.tone=some (1:Int) then (if (k:Int)∈M.sw.grey then ("grey":Str) else "dark") else "pale")=some (DW M k c);have hph:M.sw.phase="walk":=x.ph;have hse:M.sw.sense=1:=x.se;have e:DW M k c=if c.tone=1 then (if (k:Int)∈M.sw.grey then ("grey":Str) else "dark") else "pale":=by
  unfold DW;rw [if_neg (by rw [hph];decide),if_neg (by rw [hph];decide),hse]
 rw [e]
 by_cases z:c.tone=1
 ·rw [if_pos z,if_pos (congrArg some z)]
 ·rw [if_neg z,if_neg (fun y=>z (Option.some.inj y))]
end
local macro_rules | `(tactic| walk_at "nx")=>`(tactic| (refine sO (fun z=>absurd z (by decide)) (fun _=>?_);walk_at "ev"))
local macro_rules | `(tactic| walk_at "yx")=>`(tactic| (refine sO (fun _=>?_) (fun z=>absurd rfl z);walk_at "ev"))
local macro_rules | `(tactic| walk_at "tx")=>`(tactic| (refine ⟨_,_,_,_,rfl,rfl,j4.of (by assumption),rfl,?_⟩;walk_at "ev"))
def Fx (ms:List Str):List (L2.Key×V):=ms.zipIdx.map fun x=>(Sum.inl ((x.2:Int) + 1),V.str x.1)
theorem Vf (ms:List Str) (j:Nat):(Fx ms)[j]? =(ms[j]?).map fun z=>(Sum.inl ((j:Int) + 1),V.str z):=by
 unfold Fx;rw [bx,List.getElem?_zipIdx];cases ms[j]? with
 | none=>rfl
 | some z=>simp
theorem Ve (ms:List Str):(Fx ms).length=ms.length:=by unfold Fx;rw [bh,List.length_zipIdx]
theorem Zgu (ms:List Str) (z:Str):Fx (ms ++ [z])=Fx ms ++ [(Sum.inl ((ms.length:Int) + 1),V.str z)]:=by
 unfold Fx;rw [Jy,List.map_append];rfl
theorem Zgw {ms:List Str}{i:Nat}{z:Str} (h:ms[i]? =some z):oK (Fx ms) (Sum.inl ((i:Int) + 1))=some (.str z):=by
 have go:∀ (ms:List Str) (n i:Nat),ms[i]? =some z→oK ((ms.zipIdx n).map fun x=>((Sum.inl ((x.2:Int) + 1):L2.Key),V.str x.1)) (Sum.inl (((n + i:Nat):Int) + 1))=some (.str z):=by
  intro ms
  induction ms with
  | nil=>intro n i h;simp at h
  | cons a ms ih=>
   intro n i h;rw [List.zipIdx_cons,List.map_cons];cases i with
   | zero=>
    have e:a=z:=by simpa using h
    subst e;exact sV rfl
   | succ i=>
    refine (qD (fun e=>?_)).trans ?_
    ·have:=Sum.inl.inj e;dsimp only at this;omega
    ·have:=ih (n + 1) i (by simpa using h);rw [show n + (i + 1)=n + 1 + i from by omega];exact this
 have:=go ms 0 i h;rw [Nat.zero_add] at this;exact this
theorem Zgv {ms:List Str}{b:Int} (h:(ms.length:Int) < b):oK (Fx ms) (Sum.inl b)=none:=by
 cases e:oK (Fx ms) (Sum.inl b) with
 | none=>rfl
 | some v=>
  have hm:=Zca e;unfold Fx at hm;rw [List.map_map] at hm;obtain ⟨x,hx,ex⟩:=List.mem_map.mp hm;have e2:((x.2:Int) + 1)=b:=Sum.inl.inj ex;have:=List.snd_lt_of_mem_zipIdx hx;omega
theorem Zcl {ms:List Str}{i:Nat}{z:Str} (h:i < ms.length):putK (Fx ms) (Sum.inl ((i:Int) + 1)) (.str z)=Fx (ms.set i z):=by
 unfold putK;rw [if_pos]
 ·apply List.ext_getElem?;intro j;rw [bx,Vf,Vf]
  by_cases e:i=j
  ·subst e;rw [List.getElem?_set_self h,bO h];simp
  ·rw [List.getElem?_set_ne e];cases ms[j]? with
   | none=>rfl
   | some u=>
    have ne:¬ ((j:Int) + 1=(i:Int) + 1):=by omega
    simp [ne]
 ·rw [List.any_eq_true];refine ⟨(Sum.inl ((i:Int) + 1),V.str ms[i]),?_,by simp⟩;refine List.mem_of_getElem? (i:=i) ?_;rw [Vf,bO h];rfl
theorem Zkn (ms:List Str) (z:Str):putK (Fx ms) (Sum.inl ((ms.length:Int) + 1)) (.str z)=Fx (ms ++ [z]):=by
 rw [Mu _ (Zgv (by omega)),Zgu]
structure Kr (H:Hp) (T:Tg) (dm lg:Addr) (ms:List Str) (g:List Int):Prop where
 tm:T dm=(3,0)
 om:H dm=some (.dK (Fx ms))
 tg:T lg=(3,1)
 og:H lg=some (.lst (g.map V.int))
section
variable {H H':Hp}{T T':Tg}{dm lg:Addr}{ms:List Str}{g:List Int}
theorem Kr.keep (m:Kr H T dm lg ms g) (hk:∀ b o,H b=some o→(T b).1=3→H' b=some o) (ht:∀ b o,H b=some o→T' b=T b):Kr H' T' dm lg ms g:=
 ⟨(ht _ _ m.om).trans m.tm,hk _ _ m.om (by rw [m.tm]),(ht _ _ m.og).trans m.tg,hk _ _ m.og (by rw [m.tg])⟩
theorem Kr.same (m:Kr H T dm lg ms g) (s:bN H H'):Kr H' T dm lg ms g:=m.keep (fun b o h _=>s b o h) fun _ _ _=>rfl
theorem Kr.other {q:Nat} (m:Kr H T dm lg ms g) (st:Stp q H H' T T') (n:q≠3):Kr H' T' dm lg ms g:=m.keep (fun b o h t=>st.kp b o h (by rw [t];exact fun z=>n z.symm)) st.tg
theorem Kr.setM (m:Kr H T dm lg ms g) (w:WT H T) (ms':List Str):qz 3 H (upd H dm (.dK (Fx ms'))) T T∧Kr (upd H dm (.dK (Fx ms'))) T dm lg ms' g:=
 ⟨qz.upd w m.om (by rw [m.tm]) (fun _ z=>by cases z),m.tm,aq,m.tg,(aA (tQ m.tg m.tm (by simp))).trans m.og⟩
theorem Kr.setG (m:Kr H T dm lg ms g) (w:WT H T) (g':List Int):qz 3 H (upd H lg (.lst (g'.map V.int))) T T∧Kr (upd H lg (.lst (g'.map V.int))) T dm lg ms g':=
 ⟨qz.upd w m.og (by rw [m.tg]) (fun _ z=>by cases z),m.tm,(aA (tQ m.tm m.tg (by simp))).trans m.om,m.tg,aq⟩
end
def Zrt (dm lg lb:Addr) (H:Hp) (Q:VK):Prop:=∃ (T:Tg) (ms:List Str) (g:List Int) (bs:List (Option Int)),WT H T∧Kr H T dm lg ms g∧H lb=some (.lst (bs.map oV))∧T lb=(0,0)∧bs.length≤10∧ms.length≤1000∧g.length≤1000∧(∀ b:Int,some b∈bs→1≤b∧b≤ms.length)∧
 ∀ l H',qz 3 H H' T T→Kr H' T dm lg (Ou ⟨ms,g,[]⟩ bs).ms (Ou ⟨ms,g,[]⟩ bs).g→H l=none→H' l=some (.lst ((Ou ⟨ms,g,[]⟩ bs).out.map V.int))→Q (.ref l) H'
def K6:Sp:=fun vs H Q E=>∃ dm lg lb,vs=[.ref dm,.ref lg,.ref lb]∧Zrt dm lg lb H Q
theorem Zgm (a:Nt) (l:List (Option Int)) (x:Option Int):Ou a (l ++ [x])=nt1 (Ou a l) x:=by
 unfold Ou;rw [List.foldl_append];rfl
theorem Zkg (a:Nt) (x:Option Int):(nt1 a x).ms.length=a.ms.length∧(nt1 a x).g.length≤a.g.length + 1∧(nt1 a x).out.length≤a.out.length + 1:=by
 cases x with
 | none=>exact ⟨rfl,Nat.le_succ _,Nat.le_succ _⟩
 | some b=>
  have e:nt1 a (some b)=if a.ms[(b - 1).toNat]? =some ("pale":Str) then ⟨a.ms.set (b - 1).toNat "grey",a.g ++ [b - 1],a.out ++ [b]⟩ else a:=rfl
  rw [e];split
  ·exact ⟨List.length_set,by rw [List.length_append];exact Nat.le_refl _,by rw [List.length_append];exact Nat.le_refl _⟩
  ·exact ⟨rfl,Nat.le_succ _,Nat.le_succ _⟩
theorem Vb (a:Nt) (l:List (Option Int)):(Ou a l).ms.length=a.ms.length∧(Ou a l).g.length≤a.g.length + l.length∧(Ou a l).out.length≤a.out.length + l.length:=by
 induction l generalizing a with
 | nil=>exact ⟨rfl,Nat.le_refl _,Nat.le_refl _⟩
 | cons x l ih=>
  obtain ⟨h1,h2,h3⟩:=ih (nt1 a x);obtain ⟨k1,k2,k3⟩:=Zkg a x;show (Ou (nt1 a x) l).ms.length=_∧(Ou (nt1 a x) l).g.length≤_∧(Ou (nt1 a x) l).out.length≤_;rw [List.length_cons];exact ⟨h1.trans k1,by omega,by omega⟩
section
theorem Q5 {dm lg lb:Addr} (q:Zrt dm lg lb H Q):uR K ⟨n,Q,bk,ct⟩ [some (.ref dm),some (.ref lg),some (.ref lb),none,none] H:=by
 obtain ⟨T,ms,g,bs,w,mk,ob,tb,l10,l1,l2,hb,q⟩:=q;unfold uR;walk_at "ev";refine ⟨by decide,fun ln nln=>?_⟩;have s1:=aN nln (.lst []);have g1:upd H ln (.lst []) ln=some (.lst []):=aq;have tln:=w _ nln;generalize upd H ln (.lst [])=H1 at s1 g1 ⊢;walk_at "ev";refine ⟨lb,rfl,⟨_,cF.of (s1 _ _ ob)⟩,forL (bs.map oV) (fun k σ Hx=>∃ v4,σ=[some (.ref dm),some (.ref lg),some (.ref lb),some (.ref ln),v4]∧qz 3 H Hx T T∧Kr Hx T dm lg (Ou ⟨ms,g,[]⟩ (bs.take k)).ms (Ou ⟨ms,g,[]⟩ (bs.take k)).g∧Hx ln=some (.lst ((Ou ⟨ms,g,[]⟩ (bs.take k)).out.map V.int))) ⟨_,rfl,qz.same w s1,mk.same s1,g1⟩ (fun _ _ _ _ ⟨_,_,st,_⟩=>cF.of (st.kp _ _ ob (by rw [tb];decide))) ?_ ?_⟩
 ·rintro k x σ Hx hk ⟨v4,rfl,st,m,og⟩;rw [bx] at hk;obtain ⟨y,hy,rfl⟩:=Option.map_eq_some_iff.mp hk;have hkl:=(cI hy).1;have et:bs.take (k + 1)=bs.take k ++ [y]:=by rw [List.take_add_one,hy];rfl
  rw [et,Zgm];obtain ⟨e1,e2,e3⟩:=Vb ⟨ms,g,[]⟩ (bs.take k);have e0:(bs.take k).length≤10:=by rw [List.length_take];omega
  have e1:(Ou ⟨ms,g,[]⟩ (bs.take k)).ms.length=ms.length:=e1;have e2:(Ou ⟨ms,g,[]⟩ (bs.take k)).g.length≤g.length + (bs.take k).length:=e2;have e3:(Ou ⟨ms,g,[]⟩ (bs.take k)).out.length≤0 + (bs.take k).length:=e3;generalize Ou ⟨ms,g,[]⟩ (bs.take k)=a at m og e1 e2 e3 ⊢;cases y with
  | none=>
   rw [show oV none=V.non from rfl];walk_at "ev";exact ⟨_,rfl,st,m,og⟩
  | some b=>
   obtain ⟨b1,b2⟩:=hb b (List.mem_of_getElem? hy);rw [show oV (some b)=V.int b from rfl];have hbl:(b - 1).toNat < a.ms.length:=by omega
   have eb:(((b - 1).toNat:Nat):Int) + 1=b:=by omega
   have hz:a.ms[(b - 1).toNat]? =some a.ms[(b - 1).toNat]:=bO hbl;have hd:qg Hx dm (.int b) (some (.str a.ms[(b - 1).toNat])):=by
    have:=qg.k (k:=Sum.inl ((((b - 1).toNat:Nat):Int) + 1)) m.om;rw [Zgw hz,eb] at this;exact this
   have en:nt1 a (some b)=if a.ms[(b - 1).toNat]? =some ("pale":Str) then ⟨a.ms.set (b - 1).toNat "grey",a.g ++ [b - 1],a.out ++ [b]⟩ else a:=rfl
   walk_at "ev";refine ⟨dm,_,rfl,hd,?_⟩;walk_at "ev";refine sO (fun z=>?_) (fun z=>?_)
   ·rw [en,if_pos (by rw [hz,z])];walk_at "ev";have hp:zY Hx dm (.int b) (.str "grey") (upd Hx dm (.dK (Fx (a.ms.set (b - 1).toNat "grey")))):=by
     have:=zY.k (k:=Sum.inl ((((b - 1).toNat:Nat):Int) + 1)) (v:=.str "grey") m.om (by rw [Ve,e1];exact Nat.lt_of_le_of_lt l1 (by decide));rw [Zcl hbl,eb] at this;exact this
    refine ⟨dm,_,rfl,hp,?_⟩;obtain ⟨st2,m2⟩:=m.setM st.wt (a.ms.set (b - 1).toNat "grey");have ndl:ln≠dm:=tQ tln mk.tm (by simp);have og2:=(aA (H:=Hx) (o:=.dK (Fx (a.ms.set (b - 1).toNat "grey"))) ndl).trans og;generalize upd Hx dm (.dK (Fx (a.ms.set (b - 1).toNat "grey")))=H2 at st2 m2 og2 ⊢;walk_at "ev";refine ⟨.inl ⟨rfl,_,cF.of m2.og⟩,?_⟩;walk_at "ev";refine ⟨lg,_,_,rfl,rfl,m2.og,by rw [bh];exact Nat.lt_of_le_of_lt (show _≤2000 by omega) (by decide),?_⟩;rw [show a.g.map V.int ++ [V.int (b - 1)]=(a.g ++ [b - 1]).map V.int from by rw [List.map_append];rfl];obtain ⟨st3,m3⟩:=m2.setG st2.wt (a.g ++ [b - 1]);have nlg:ln≠lg:=tQ tln mk.tg (by simp);have og3:=(aA (H:=H2) (o:=.lst ((a.g ++ [b - 1]).map V.int)) nlg).trans og2;generalize upd H2 lg (.lst ((a.g ++ [b - 1]).map V.int))=H3 at st3 m3 og3 ⊢;walk_at "ev";refine ⟨.inl ⟨rfl,_,cF.of og3⟩,?_⟩;walk_at "ev";refine ⟨ln,_,_,rfl,rfl,og3,by rw [bh];exact Nat.lt_of_le_of_lt (show _≤2000 by omega) (by decide),?_⟩;rw [show a.out.map V.int ++ [V.int b]=(a.out ++ [b]).map V.int from by rw [List.map_append];rfl];have kp4:∀ c u,H3 c=some u→c≠ln→upd H3 ln (.lst ((a.out ++ [b]).map V.int)) c=some u:=fun c u hc ne=>(aA ne).trans hc;have Zj3:=st.trans (st2.trans st3);have st4:qz 3 H (upd H3 ln (.lst ((a.out ++ [b]).map V.int))) T T:=⟨⟨fun c u hc ht=>kp4 c u (Zj3.kp c u hc ht) (aD hc nln),fun c u hc=>by
      obtain ⟨u',hu⟩:=Zj3.al c u hc;exact ⟨u',kp4 c u' hu (aD hc nln)⟩,fun _ _ _=>rfl,fun c hc=>Zj3.wt c (by
      by_cases z:c=ln
      ·rw [z,aq] at hc;cases hc
      ·rw [aA z] at hc;exact hc)⟩,fun c xs hc=>kp4 c _ (Zj3.tk c xs hc) (aD hc nln)⟩
    walk_at "ev";exact ⟨_,rfl,st4,m3.keep (fun c u hc ht=>kp4 c u hc (fun z=>by rw [z,tln] at ht;cases ht)) (fun _ _ _=>rfl),aq⟩
   ·rw [en,if_neg (by rw [hz];exact fun y=>z (Option.some.inj y))];walk_at "ev";exact ⟨_,rfl,st,m,og⟩
 ·rintro σ Hx ⟨v4,rfl,st,m,og⟩;rw [bh,List.take_length] at m og;walk_at "ev";exact q ln Hx st m nln og
end
local macro_rules | `(tactic| walk_at "nx")=>`(tactic| (refine sO (fun z=>absurd z (by decide)) (fun _=>?_);walk_at "ev"))
local macro_rules | `(tactic| walk_at "yx")=>`(tactic| (refine sO (fun _=>?_) (fun z=>absurd rfl z);walk_at "ev"))
local macro_rules | `(tactic| walk_at "tx")=>`(tactic| (refine ⟨_,_,_,_,rfl,rfl,j4.of (by assumption),rfl,?_⟩;walk_at "ev"))
theorem Eh {w t:Int}{P:Int→Int→Prop} (hw:0≤w∧w < 3) (ht:0≤t∧t < 4) (h:∀ a∈([0,1,2]:List Int),∀ b∈([0,1,2,3]:List Int),P a b):P w t:=by
 have h1:w=0∨w=1∨w=2:=by omega
 have h2:t=0∨t=1∨t=2∨t=3:=by omega
 exact h w (by simp;omega) t (by simp;omega)
theorem Znz {w t:Int} (hw:0≤w∧w < 3) (ht:0≤t∧t < 4):(!(Builtin.Str.occurrences (words w t) (" old":Str) 0 (words w t).length 1).isEmpty)=decide (t % 2=1):=
 Eh (P:=fun w t=>(!(Builtin.Str.occurrences (words w t) (" old":Str) 0 (words w t).length 1).isEmpty)=decide (t % 2=1)) hw ht (by decide +kernel)
theorem Zb4 {w t:Int} (hw:0≤w∧w < 3) (ht:0≤t∧t < 4):(!(Builtin.Str.occurrences (words w t) (" new":Str) 0 (words w t).length 1).isEmpty)=decide (t / 2 % 2=1):=
 Eh (P:=fun w t=>(!(Builtin.Str.occurrences (words w t) (" new":Str) 0 (words w t).length 1).isEmpty)=decide (t / 2 % 2=1)) hw ht (by decide +kernel)
theorem Zow {w t:Int} (hw:0≤w∧w < 3) (ht:0≤t∧t < 4):decide (G.Wh (words w t) none (some 5)=("first":Str))=decide (w=0):=
 Eh (P:=fun w t=>decide (G.Wh (words w t) none (some 5)=("first":Str))=decide (w=0)) hw ht (by decide +kernel)
theorem Xf {w t:Int} (hw:0≤w∧w < 3) (ht:0≤t∧t < 4):¬ words w t="":=
 Eh (P:=fun w t=>¬ words w t="") hw ht (by decide +kernel)
theorem Zda {w t:Int} (hw:0≤w∧w < 3) (ht:0≤t∧t < 4):(words w t).length≤20:=
 Eh (P:=fun w t=>(words w t).length≤20) hw ht (by decide +kernel)
def Zrv (d dd:Addr) (kz:Str) (lk:Bool) (H:Hp) (Q:VK):Prop:=∃ T r A S dl w t,lH H T r A S∧A.d=d∧H dd=some (.tup (dV dl))∧Ze6 S dl∧WfS S∧rW S dl=""∧(0≤w∧w < 3)∧(0≤t∧t < 4)∧kz=words w t∧lk=decide (w=0)∧∀ l H',bN H H'→H l=none→H' l=some (.lst ((Cu S t w dl).map oV))→Q (.ref l) H'
def Ld (K:aG):Sp:=fun vs H Q E=>∃ d dd kz lk,vs=[.ref d,.ref dd,.str kz,.bl lk]∧Zrv d dd kz lk H Q
def Zmd:iC→Nat
 | .make h _ _ _=>h
 | .get h _ _ _=>h
 | .put h _ _ _=>h
 | .copy h _ _=>h
 | .drop h _=>h
 | .give h _ _ _=>h
 | .write h _ _=>h
 | .read h _=>h
 | .name h _ _=>h
 | .seek h _ _=>h
theorem Zhv {S:Cw}{dl:iC} (o:Ze6 S dl):∃ x,S.rows[Zmd dl]? =some x:=by
 cases dl<;>first | exact ⟨_,o.1.choose_spec.1⟩ | exact ⟨_,o.choose_spec.1⟩
theorem dV1 (d:iC):Y8 (dV d) 1=some (.int (Zmd d)):=by cases d<;>rfl
section
theorem Jj {d dd:Addr}{kz:Str}{lk:Bool} (q:Zrv d dd kz lk H Q):pQ K ⟨n,Q,bk,ct⟩ [some (.ref d),some (.ref dd),some (.str kz),some (.bl lk),none,none,none] H:=by
 obtain ⟨T,r,A,S,dl,w,t,so,rfl,ed,od,wf,du,hw,ht,rfl,rfl,q⟩:=q;obtain ⟨x,hx⟩:=Zhv od;obtain ⟨ra,hra,Zx,xX⟩:=so.row hx;unfold pQ;walk_at "ev";refine ⟨dd,_,0,_,rfl,rfl,j4.of ed,dV0 dl,?_⟩;walk_at "ev";refine ⟨_,_,rfl,so.rows,?_⟩;walk_at "ev";refine ⟨dd,_,1,_,rfl,rfl,j4.of ed,dV1 dl,?_⟩;walk_at "ev";refine bK (cF.of so.orr) (aX (v:=.ref ra) (by rw [bx,hra];rfl)) ?_;walk_at "ev";refine ⟨by decide,fun l nl=>?_⟩;have s1:=aN nl (.lst []);have g1:upd H l (.lst []) l=some (.lst []):=aq;generalize upd H l (.lst [])=H1 at s1 g1 ⊢;have s2:∀ {Hx:Hp}{o:HO},bN H Hx→bN H (upd Hx l o):=fun {Hx o} s b u hb=>(aA (aD hb nl)).trans (s _ _ hb);walk_at "ev";cases dl with
 | put h u f s=>
  rw [show sU (.put h u f s)=("put":Str) from rfl];have ed0:H dd=some (.tup [.str "put",.int h,.int u,.int f,.int s]):=ed;have ed:=s1 _ _ ed0;have vI:=so.same s1;obtain ⟨ot,os⟩:=od;obtain ⟨x',hx',hxs,Qv⟩:=fP os;obtain ⟨x2,hx2,hxt,Zzr⟩:=fP ot;have hx:S.rows[h]? =some x:=hx;rw [hx] at hx' hx2;cases hx';cases hx2;have hdu:zT S (bV S h u) f="":=du;obtain ⟨b,hb⟩:=Ss hdu;rw [hb] at hdu;obtain ⟨i,c,rfl,hc,hcS⟩:=wf.at ot hb;have hf:=YC hdu hcS;have hfl:c.fl[f]? =some c.fl[f]:=bO hf;obtain ⟨p,hp,t1,t2,o1,o2⟩:=vI.cell hc;have ev:(((bV S h u).bind (dG S)).bind fun c=>c.fl[f]?).join=c.fl[f]:=by
   rw [hb];show ((dG S ((i:Int) + 1)).bind fun c=>c.fl[f]?).join=_;rw [hcS];show (c.fl[f]?).join=_;rw [hfl];rfl
  have ea:Cu S t w (.put h u f s)=(if t % 2=1 then [c.fl[f]] else []) ++ if t / 2 % 2=1∧¬ w=0 then [bV S h s] else []:=by
   show (if t % 2=1 then [(((bV S h u).bind (dG S)).bind fun c=>c.fl[f]?).join] else []) ++ _=_;rw [ev]
  rw [ea] at q;walk_at "yx";rw [Znz hw ht];refine sO (fun z=>?_) (fun z=>?_)
  ·rw [if_pos z] at q;walk_at "ev";refine ⟨.inl ⟨rfl,_,cF.of g1⟩,?_⟩;walk_at "ev";refine ⟨_,_,rfl,vI.cells,?_⟩;walk_at "ev";walk_at "tx";refine bK (cF.of (s1 _ _ xX)) (aX (v:=oV (bV S h u)) (by rw [bx,hxt];rfl)) ?_;rw [hb];walk_at "ev";refine ⟨_,_,rfl,vI.JX hp,?_⟩;walk_at "ev";refine bK (cF.of o1) (aX (j:=2) (v:=.ref p.2) rfl) ?_;walk_at "ev";walk_at "tx";refine bK (cF.of o2) (aX (v:=oV c.fl[f]) (by rw [bx,hfl];rfl)) ?_;refine ⟨l,_,_,rfl,rfl,g1,by decide,?_⟩;have g2:upd H1 l (.lst ([] ++ [oV c.fl[f]])) l=some (.lst ([c.fl[f]].map oV)):=aq;have s2':=s2 (o:=.lst ([] ++ [oV c.fl[f]])) s1;generalize upd H1 l (.lst ([] ++ [oV c.fl[f]]))=H2 at g2 s2' ⊢;have ed:=s2' _ _ ed0;walk_at "ev";rw [Zb4 hw ht];refine sO (fun z1=>?_) (fun z1=>?_)
   ·by_cases z2:w=0
    ·rw [decide_eq_true z2];walk_at "ev";walk_at "nx";walk_at "nx";rw [if_neg (fun y=>y.2 z2)] at q;exact q l H2 s2' nl g2
    ·rw [decide_eq_false z2];walk_at "ev";refine ⟨.inl ⟨rfl,_,cF.of g2⟩,?_⟩;walk_at "ev";walk_at "tx";refine bK (cF.of (s2' _ _ xX)) (aX (v:=oV (bV S h s)) (by rw [bx,hxs];rfl)) ?_;refine ⟨l,_,_,rfl,rfl,g2,by show 1 < sizeLine;decide,?_⟩;walk_at "ev";walk_at "nx";walk_at "nx";rw [if_pos ⟨z1,z2⟩] at q;exact q l _ (s2 s2') nl aq
   ·walk_at "ev";walk_at "nx";walk_at "nx";rw [if_neg (fun y=>z1 y.1)] at q;exact q l H2 s2' nl g2
  ·rw [if_neg z] at q;walk_at "ev";rw [Zb4 hw ht];refine sO (fun z1=>?_) (fun z1=>?_)
   ·by_cases z2:w=0
    ·rw [decide_eq_true z2];walk_at "ev";walk_at "nx";walk_at "nx";rw [if_neg (fun y=>y.2 z2)] at q;exact q l H1 s1 nl g1
    ·rw [decide_eq_false z2];walk_at "ev";refine ⟨.inl ⟨rfl,_,cF.of g1⟩,?_⟩;walk_at "ev";walk_at "tx";refine bK (cF.of (s1 _ _ xX)) (aX (v:=oV (bV S h s)) (by rw [bx,hxs];rfl)) ?_;refine ⟨l,_,_,rfl,rfl,g1,by decide,?_⟩;walk_at "ev";walk_at "nx";walk_at "nx";rw [if_pos ⟨z1,z2⟩] at q;exact q l _ (s2 s1) nl aq
   ·walk_at "ev";walk_at "nx";walk_at "nx";rw [if_neg (fun y=>z1 y.1)] at q;exact q l H1 s1 nl g1
 | give h s g u=>
  rw [show sU (.give h s g u)=("give":Str) from rfl];have ed0:H dd=some (.tup [.str "give",.int h,.int s,.int g,.int u]):=ed;have ed:=s1 _ _ ed0;obtain ⟨os,ot⟩:=od;obtain ⟨x',hx',hxs,Qv⟩:=fP os;have hx:S.rows[h]? =some x:=hx;rw [hx] at hx';cases hx';have ea:Cu S t w (.give h s g u)=if t / 2 % 2=1∧¬ w=0 then [bV S h s] else []:=rfl
  rw [ea] at q;walk_at "nx";walk_at "yx";rw [Zb4 hw ht];refine sO (fun z1=>?_) (fun z1=>?_)
  ·by_cases z2:w=0
   ·rw [decide_eq_true z2];walk_at "ev";walk_at "nx";rw [if_neg (fun y=>y.2 z2)] at q;exact q l H1 s1 nl g1
   ·rw [decide_eq_false z2];walk_at "ev";refine ⟨.inl ⟨rfl,_,cF.of g1⟩,?_⟩;walk_at "ev";walk_at "tx";refine bK (cF.of (s1 _ _ xX)) (aX (v:=oV (bV S h s)) (by rw [bx,hxs];rfl)) ?_;refine ⟨l,_,_,rfl,rfl,g1,by decide,?_⟩;walk_at "ev";walk_at "nx";rw [if_pos ⟨z1,z2⟩] at q;exact q l _ (s2 s1) nl aq
  ·walk_at "ev";walk_at "nx";rw [if_neg (fun y=>z1 y.1)] at q;exact q l H1 s1 nl g1
 | seek h s z=>
  rw [show sU (.seek h s z)=("seek":Str) from rfl];have ed0:H dd=some (.tup [.str "seek",.int h,.int s,.str z]):=ed;have ed:=s1 _ _ ed0;have vI:=so.same s1;walk_at "nx";walk_at "nx";walk_at "yx";refine ⟨.inl ⟨rfl,_,cF.of g1⟩,?_⟩;walk_at "ev";refine ⟨_,_,rfl,vI.words,?_⟩;walk_at "ev";walk_at "tx";have hd:(if (lU S z).isSome=true then ("":Str) else "name")="":=du;cases hv:lU S z with
  | none=>rw [hv] at hd;exact absurd hd (by decide)
  | some b=>
   refine ⟨_,.int b,rfl,?_,?_⟩
   ·have:=qg.k (k:=Sum.inr z) vI.ow;rw [S5] at this;rw [show (((S.words.find? fun m=>decide (m.1=z)).map (·.2)).map V.int)=some (.int b) from by
     have:(S.words.find? fun m=>decide (m.1=z)).map (·.2)=some b:=hv;rw [this];rfl] at this
    exact this
   refine ⟨l,_,_,rfl,rfl,g1,by decide,?_⟩;walk_at "ev";have ea:Cu S t w (.seek h s z)=[some b]:=by show [lU S z]=_;rw [hv]
   rw [ea] at q;exact q l _ (s2 s1) nl aq
 | make h s m b=>
  rw [show sU (.make h s m b)=("make":Str) from rfl];walk_at "nx";walk_at "nx";walk_at "nx";exact q l H1 s1 nl g1
 | get h s u f=>
  rw [show sU (.get h s u f)=("get":Str) from rfl];walk_at "nx";walk_at "nx";walk_at "nx";exact q l H1 s1 nl g1
 | copy h s u=>
  rw [show sU (.copy h s u)=("copy":Str) from rfl];walk_at "nx";walk_at "nx";walk_at "nx";exact q l H1 s1 nl g1
 | drop h s=>
  rw [show sU (.drop h s)=("drop":Str) from rfl];walk_at "nx";walk_at "nx";walk_at "nx";exact q l H1 s1 nl g1
 | write h u z=>
  rw [show sU (.write h u z)=("write":Str) from rfl];walk_at "nx";walk_at "nx";walk_at "nx";exact q l H1 s1 nl g1
 | read h u=>
  rw [show sU (.read h u)=("read":Str) from rfl];walk_at "nx";walk_at "nx";walk_at "nx";exact q l H1 s1 nl g1
 | name h u z=>
  rw [show sU (.name h u z)=("name":Str) from rfl];walk_at "nx";walk_at "nx";walk_at "nx";exact q l H1 s1 nl g1
end
structure qN (H H':Hp) (T T':Tg):Prop where
 kp:∀ b o,H b=some o→(T b).1≠1→(T b).1≠2→(T b).1≠3→H' b=some o
 tg:∀ b o,H b=some o→T' b=T b
 al:∀ b o,H b=some o→∃ o',H' b=some o'
 wt:WT H' T'
theorem qN.of {q:Nat}{H H':Hp}{T T':Tg} (a:Stp q H H' T T') (hq:q=1∨q=2∨q=3):qN H H' T T':=⟨fun b o h n1 n2 n3=>a.kp b o h (by rcases hq with e | e | e<;>rw [e]<;>assumption),a.tg,a.al,a.wt⟩
theorem qN.trans {H H1 H2:Hp}{T T1 T2:Tg} (a:qN H H1 T T1) (b:qN H1 H2 T1 T2):qN H H2 T T2 where
 kp:=fun x o h n m k=>b.kp x o (a.kp x o h n m k) (by rw [a.tg x o h];exact n) (by rw [a.tg x o h];exact m) (by rw [a.tg x o h];exact k)
 tg:=fun x o h=>by
  obtain ⟨o',h'⟩:=a.al x o h;exact (b.tg x o' h').trans (a.tg x o h)
 al:=fun x o h=>by
  obtain ⟨o',h'⟩:=a.al x o h;exact b.al x o' h'
 wt:=b.wt
theorem qN.same {H H':Hp}{T:Tg} (w:WT H T) (s:bN H H'):qN H H' T T:=qN.of (q:=1) (Stp.same w s) (.inl rfl)
def TuX (X:Cs) (wo d dm lg dd:Addr) (kz:Str) (H:Hp) (Q:VK):Prop:=∃ T A B M b w t sl i dl,WT H T∧WJ X H T 1 A M∧A.wo=wo∧lH H T 2 B (stOf M)∧B.d=d∧Kr H T dm lg (ji M) M.sw.grey∧H dd=some (.tup (dV dl))∧T dd=(0,0)∧okD M dl∧Qx b M w t sl i∧i≤100∧(0≤w∧w < 3)∧(0≤t∧t < 4)∧kz=(if b=true then words w t else "")∧
 ∀ H' T' A' B' M',qN H H' T T'→WJ X H' T' 1 A' M'→A'.wo=wo→lH H' T' 2 B' (stOf M')→B'.d=d→Kr H' T' dm lg (ji M') M'.sw.grey→Qx b M' w t sl (i + 1)→Q (.bl true) H'
def K3 (X:Cs):Sp:=fun vs H Q E=>∃ wo d dm lg kz dd,vs=[.ref wo,.ref d,.ref dm,.ref lg,.str kz,.ref dd]∧TuX X wo d dm lg dd kz H Q
theorem Zck (dl:iC):(sU dl="make")↔Zq dl=true:=by cases dl<;>simp only [sU,Zq]<;>decide
theorem Zj8 {H:Hp}{a b:Addr}{l:List Int} (h1:H a=some (.lst (l.map V.int))) (h2:H b=some (.lst (l.map V.int))) (hl:l.length≤1000000):Sm H 3 (.ref a) (.ref b):=
 .inr ⟨a,b,_,_,rfl,rfl,.inl ⟨h1,h2⟩,by rw [bh];exact hl,yw (Su _)⟩
section
theorem Qx.asked {b:Bool}{M:Wm}{w t:Int}{sl:List Int}{i:Nat} (x:Qx b M w t sl i) (hb:b=true) {dl:iC} (od:okD M dl) {e:Ev}{M':Wm} (h:qb M dl=.ok (e,M')):(∀ y,some y∈Cu (stOf M) t w dl→1≤y∧y≤(ji M).length)∧(Cu (stOf M) t w dl).length≤2:=by
 obtain ⟨M1,l,co⟩:=x.core od h;have ha:=co.as (by rw [x.ph,if_pos hb]);refine ⟨fun y hy=>?_,by rw [← ha,bh];exact co.ll⟩;rw [← ha] at hy;obtain ⟨o,ho,e1⟩:=List.mem_map.mp hy;cases o with
 | none=>cases e1
 | some p=>
  have e2:=co.hb p y e1;obtain ⟨c,hc⟩:=co.va p ho;obtain ⟨h0,h1⟩:=tV hc;have hl:=(cI h1).1;have tl:(eG M1).length=M1.cells.length:=Fz;rw [co.tn] at tl;rw [zA];have hm:¬ Zq dl=true:=fun hm=>by
   have:Cu (stOf M) t w dl=[]:=by cases dl<;>first | rfl | exact absurd hm Bool.false_ne_true
   rw [this] at ha;rw [List.map_eq_nil_iff.mp ha] at ho;cases ho
  rw [if_neg hm,Fz] at tl;omega
theorem Wt {wo d dm lg dd:Addr}{kz:Str} (Tx:vB K X) (q:TuX X wo d dm lg dd kz H Q):
  wO K (Ld K) (Zd7 K) K6 Jl (oG 3) (Fd K) (K4 X rf) ⟨n,Q,bk,ct⟩ [some (.ref wo),some (.ref d),some (.ref dm),some (.ref lg),some (.str kz),some (.ref dd),none,none,none,none] H:=by
 obtain ⟨T,A,B,M,b,w,t,sl,i,dl,wt,j,rfl,so,rfl,mk,ed,td,od,x,hi,hw,ht,rfl,q⟩:=q;have tn:=x.turn od;have hcl:M.cells.length≤i:=by
  have:=x.q.cl;rw [show (cg M).cells.length=M.cells.length from bh _] at this;exact this
 have hnl:M.names.length≤i:=x.q.nl;have htl:0≤M.tells∧M.tells < 4:=x.q.tl;have hgl:=x.gl;have wfS:WfS (stOf M):=by have:=x.q.wf;rw [vH] at this;exact this
 unfold wO;walk_at "ev";refine ⟨_,dd,rfl,T,2,B,stOf M,dl,so,rfl,ed,U8 od,wfS,fun H1 s1=>?_⟩;have w1:=wt.same s1;have j1:=j.same s1;have vI:=so.same s1;have mk1:=mk.same s1;have ed1:=s1 _ _ ed;walk_at "ev";refine ⟨_,dd,rfl,T,1,A,M,dl,w1,by decide,j1,rfl,ed1,od,x.ok,by omega,fun _=>by omega,htl,by omega,fun rr er a l H2 s2 oa ol=>?_,fun e M' he H2 T2 A2 a st2 j2 aw2 ev=>?_⟩
 ·rw [tn.er rr er];walk_at "ev";refine vO (fun _=>?_) (fun z=>absurd z (Zmu rr));walk_at "ev";refine ⟨by decide,fun l' nl'=>?_⟩;refine ⟨bu (by simp),fun b' nb=>?_⟩;have s3:=aN nl' (.lst []);have s4:=aN nb (.tup [.str "refused",.str (rfS rr),.ref l']);have s34:=s3.trans s4;refine ⟨.ref a,.ref b',rfl,Zmr (s34 _ _ oa) (s34 _ _ ol) aq (s4 _ _ aq),?_⟩;have s04:=s1.trans (s2.trans s34);exact q _ T A B M (qN.same wt s04) (j.same s04) rfl (so.same s04) rfl (mk.same s04) x.mono
 ·obtain ⟨t1,t3w,t4,x',ms,tnt,tms⟩:=tn.ok e M' he;obtain ⟨lv,nlv,ev1,ev2⟩:=ev
  let T3:Tg:=fun b=>if H1 b=none∧((T2 b).1=2∨(T2 b).1=3) then (0,0) else T2 b
  let T3a:Tg:=fun b=>if H1 b=none∧(T2 b).1=2 then (0,0) else T2 b
  have t3a:∀ b,(T2 b).1≠2→T3a b=T2 b:=fun b hb=>if_neg (fun z=>hb z.2);have t3b:∀ b,(T3a b).1≠3→T3 b=T3a b:=fun b hb=>by
   show (if H1 b=none∧((T2 b).1=2∨(T2 b).1=3) then ((0,0):Nat×Nat) else T2 b)=if H1 b=none∧(T2 b).1=2 then (0,0) else T2 b
   by_cases z1:H1 b=none∧(T2 b).1=2
   ·rw [if_pos z1,if_pos ⟨z1.1,.inl z1.2⟩]
   ·have hb':(T2 b).1≠3:=by
     have e:T3a b=T2 b:=if_neg z1;rw [e] at hb;exact hb
    rw [if_neg z1,if_neg (fun z=>by
     rcases z.2 with y | y
     ·exact z1 ⟨z.1,y⟩
     ·exact hb' y)]
  have t3':∀ b o,H1 b=some o→T3 b=T2 b:=fun b o hb=>if_neg (fun z=>by rw [hb] at z;cases z.1);have w3':WT H2 T3:=fun b hb=>by
   have e:T2 b=(0,0):=st2.wt b hb;show (if H1 b=none∧((T2 b).1=2∨(T2 b).1=3) then ((0,0):Nat×Nat) else T2 b)=_;rw [e];split<;>rfl
  have j3:WJ X H2 T3 1 A2 M':=(j2.Zm5 2 (by decide) (by decide) t3a).Zm5 3 (by decide) (by decide) t3b;have st3:Stp 1 H1 H2 T T3:=⟨st2.kp,st2.al,fun b o hb=>(t3' b o hb).trans (st2.tg b o hb),w3'⟩;have so2:lH H2 T3 2 B (stOf M):=vI.other st3 (by decide);have mk2:Kr H2 T3 dm lg (ji M) M.sw.grey:=mk1.other st3 (by decide);have tlv:(T3 lv).1≠2∧(T3 lv).1≠3:=by
   show (if H1 lv=none∧((T2 lv).1=2∨(T2 lv).1=3) then ((0,0):Nat×Nat) else T2 lv).1≠2∧(if H1 lv=none∧((T2 lv).1=2∨(T2 lv).1=3) then ((0,0):Nat×Nat) else T2 lv).1≠3
   by_cases z:(T2 lv).1=2∨(T2 lv).1=3
   ·rw [if_pos ⟨nlv,z⟩];exact ⟨by decide,by decide⟩
   ·rw [if_neg (fun y=>z y.2)];exact ⟨fun y=>z (.inl y),fun y=>z (.inr y)⟩
  clear_value T3 T3a;have k2:H2 dd=some (.tup (dV dl))∧T3 dd=(0,0):=⟨st3.kp _ _ ed1 (by rw [td];decide),(st3.tg _ _ ed1).trans td⟩;have Zs6:qN H H2 T T3:=(qN.same wt s1).trans (qN.of st3 (.inl rfl));rw [t1];walk_at "ev";refine vO (fun z=>absurd rfl z) (fun _=>?_);walk_at "ev";refine ⟨by decide,fun l8 nl8=>?_⟩;have s5:=aN nl8 (.lst []);have g5:upd H2 l8 (.lst []) l8=some (.lst []):=aq;have tl8:=w3' _ nl8;generalize upd H2 l8 (.lst [])=H5 at s5 g5 ⊢;have tail:∀ (Hx:Hp) (ln:Addr),Stp 3 H2 Hx T3 T3→Kr Hx T3 dm lg ms M'.sw.grey→T3 ln=(0,0)→Hx ln=some (.lst (e.notes.map V.int))→Hx a=some (.tup [.str e.word,oV e.thing,.ref lv])→
    aK (bB (bz (Fd K) [] E0 (ak (aj 1) (ak (aj 5) aL))) (aO 9)) (aK (cZ (bR (aY (uZ) (aY (cC K) (aj 5) (tC (.int 0))) (tC (.str "make")))) (aK (xU (aj 2) (aj 9) (tC (.str "dark"))) (cZ (bR (aY (uZ) (aj 4) (tC (.str "")))) (xU (aj 2) (aj 9) (tC (.str "pale"))) bT)) bT) (bI ((Aw (bz (oG 3) [] E0 (ak (aj 7) (ak (lG (ak (bz Jl [] E0 (ak (aY (cC K) (aj 5) (tC (.int 0))) aL)) (ak (aj 9) (ak (aj 8) aL)))) aL))) (bz (oG 3) [] E0 (ak (cA K (cA K (aj 0) "sweeper") "grey") (ak (aj 3) aL))))))) ⟨n,Q,bk,ct⟩
     [some (.ref A.wo),some (.ref B.d),some (.ref dm),some (.ref lg),some (.str (if b=true then words w t else "")),some (.ref dd),some (.str ""),some (.ref a),some (.ref ln),none] Hx:=by
   intro Hx ln st mx tln oln oa;have jx:=j3.other st (by decide) (by decide);have sox:=so2.other st (by decide);have kx:Hx dd=some (.tup (dV dl)):=st.kp _ _ k2.1 (by rw [k2.2];decide);have elv:=st.kp _ _ ev2 tlv.2;have lms:ms.length=(ji M).length:=by
    have:=(Vb ⟨ji M,M.sw.grey,[]⟩ (if b=true then Cu (stOf M) t w dl else [])).1;rw [tnt] at this;exact this
   have Zsn:=zA (M:=M);walk_at "ev";have hbo:(stOf M).born=((stOf M).cells.length:Int):=by
    show M.born=((M.cells.map (jF M)).length:Int);rw [bh];have:=x.q.bo;rw [show (cg M).cells.length=M.cells.length from bh _] at this;exact this
   refine ⟨_,dd,rfl,⟨T3,2,B,stOf M,dl,trivial,st.wt,by decide,sox,rfl,kx,k2.2,U8 od,wfS,hbo,by show (M.cells.map (jF M)).length≤1000;rw [bh];omega,by show (M.names.map _).length≤1000;rw [bh];omega,t1,fun H6 T6 B6 ZG so6 bd6=>?_⟩⟩;rw [t4] at so6 ⊢;have ev1:=ZG.tk _ _ oa;have ev2:=ZG.kp _ _ elv tlv.1;have j6:=jx.other ZG.toStp (by decide) (by decide);have mk6:=mx.other ZG.toStp (by decide);have k6:H6 dd=some (.tup (dV dl)):=ZG.kp _ _ kx (by rw [k2.2];decide);have Zsc:=ZG.kp _ _ oln (by rw [tln];decide);have Zs2:=(ZG.tg _ _ oln).trans tln;have Zs1:(T6 lv).1≠3:=by rw [ZG.tg _ _ elv];exact tlv.2
   have td6:T6 dd=(0,0):=(ZG.tg _ _ kx).trans k2.2;have Zs4:qN H2 H6 T3 T6:=(qN.of st (.inr (.inr rfl))).trans (qN.of ZG.toStp (.inr (.inl rfl)));have fin:∀ (H7:Hp),Stp 3 H6 H7 T6 T6→Kr H7 T6 dm lg (ji M') M'.sw.grey→H7 a=some (.tup [.str e.word,oV e.thing,.ref lv])→
     bI ((Aw (bz (oG 3) [] E0 (ak (aj 7) (ak (lG (ak (bz Jl [] E0 (ak (aY (cC K) (aj 5) (tC (.int 0))) aL)) (ak (aj 9) (ak (aj 8) aL)))) aL))) (bz (oG 3) [] E0 (ak (cA K (cA K (aj 0) "sweeper") "grey") (ak (aj 3) aL))))) ⟨n,Q,bk,ct⟩
      [some (.ref A.wo),some (.ref B.d),some (.ref dm),some (.ref lg),some (.str (if b=true then words w t else "")),some (.ref dd),some (.str ""),some (.ref a),some (.ref ln),some (oV e.thing)] H7:=by
    intro H7 J9 mk7 oa7;have k7:=J9.kp _ _ k6 (by rw [td6];decide);have ol7:=J9.kp _ _ Zsc (by rw [Zs2];decide);have ov7:=J9.kp _ _ ev2 Zs1;have j7:=j6.other J9 (by decide) (by decide);have so7:=so6.other J9 (by decide);walk_at "ev";refine ⟨dd,_,0,_,rfl,rfl,j4.of k7,dV0 dl,?_⟩;walk_at "ev";refine ⟨_,rfl,dl,rfl,fun H8 s8=>?_⟩;walk_at "ev";refine ⟨bu (by simp),fun b' nb=>?_⟩;have s9:=aN nb (.tup [.str (Dh dl),oV e.thing,.ref ln]);have g9:upd H8 b' (.tup [.str (Dh dl),oV e.thing,.ref ln]) b'=some (.tup [.str (Dh dl),oV e.thing,.ref ln]):=aq;generalize upd H8 b' (.tup [.str (Dh dl),oV e.thing,.ref ln])=H9 at s9 g9 ⊢;have s79:=s8.trans s9;have Zzs:e.notes.length≤1000:=by
     have:=(Vb ⟨ji M,M.sw.grey,[]⟩ (if b=true then Cu (stOf M) t w dl else [])).2.2;rw [tnt] at this;have h3:(if b=true then Cu (stOf M) t w dl else []).length≤2:=by
      by_cases hb:b=true
      ·rw [if_pos hb];exact (x.asked hb od he).2
      ·rw [if_neg hb];simp
     have this:e.notes.length≤0 + _:=this;omega
    refine ⟨.ref a,.ref b',rfl,.inr ⟨a,b',_,_,rfl,rfl,.inr ⟨s79 _ _ oa7,by rw [t3w];exact g9⟩,by show 3≤1000000;decide,.cons (qi rfl) (.cons (qi (Zcw _)) (.cons (.inr ⟨lv,ln,_,_,rfl,rfl,.inl ⟨s79 _ _ ov7,s79 _ _ ol7⟩,by rw [bh];omega,yw (Su _)⟩) .nil))⟩,?_⟩;have j9:=j7.same s79;obtain ⟨dx,ow⟩:=j9.jb.ow;obtain ⟨ds,os⟩:=j9.js.os;rw [aw2] at ow;walk_at "ev";refine aR ow Tx.cW Tx.nWs eE ?_;walk_at "ev";refine aR os Tx.cS Tx.n3 sW ?_;walk_at "ev";have hg':=x'.gl;refine ⟨_,_,rfl,Zj8 j9.js.og (mk7.same s79).og (by omega),?_⟩;exact q H9 T6 A2 B6 M' ((Zs6.trans Zs4).trans ((qN.of J9 (.inr (.inr rfl))).trans (qN.same J9.wt s79))) j9 aw2 (so7.same s79) bd6 (mk7.same s79) x'
   walk_at "ev";refine ⟨dd,_,0,_,rfl,rfl,j4.of k6,dV0 dl,?_⟩;walk_at "ev";refine sO (fun z=>?_) (fun z=>?_)
   ·have hm:Zq dl=true:=(Zck dl).mp z;rw [if_pos hm] at tms;obtain ⟨hh,ss,mm,bb,rfl⟩:∃ h s m b,dl=.make h s m b:=by
     cases dl<;>first | exact ⟨_,_,_,_,rfl⟩ | exact absurd hm Bool.false_ne_true
    have eth:e.thing=some ((ms.length:Int) + 1):=by
     have:(Bp (stOf M) (.make hh ss mm bb)).1=some (M.born + 1):=rfl;rw [t4] at this;rw [show e.thing=some (M.born + 1) from this,lms,Zsn];have hb':M.born=(M.cells.length:Int):=by
      have:M.born=((M.cells.map (jF M)).length:Int):=hbo;rw [bh] at this;exact this
     rw [hb']
    rw [eth];rw [eth] at fin;rw [show oV (some ((ms.length:Int) + 1))=V.int ((ms.length:Int) + 1) from rfl] at fin ⊢;walk_at "ev";have hp1:zY H6 dm (.int ((ms.length:Int) + 1)) (.str "dark") (upd H6 dm (.dK (Fx (ms ++ [("dark":Str)])))):=by
     have:=zY.k (k:=Sum.inl ((ms.length:Int) + 1)) (v:=.str "dark") mk6.om (by rw [Ve];exact Nat.lt_of_le_of_lt (show _≤1000 by omega) (by decide));rw [Zkn] at this;exact this
    refine ⟨dm,_,rfl,hp1,?_⟩;obtain ⟨J9,mk7⟩:=mk6.setM ZG.wt (ms ++ [("dark":Str)]);have nad:a≠dm:=Dy ev1 mk6.om (fun z=>by cases z);have oa7:=(aA (H:=H6) (o:=.dK (Fx (ms ++ [("dark":Str)]))) nad).trans ev1;generalize upd H6 dm (.dK (Fx (ms ++ [("dark":Str)])))=H7 at J9 mk7 oa7 ⊢;walk_at "ev";cases b with
    | true=>
     rw [(show (if (true:Bool)=true then words w t else ("":Str))=words w t from if_pos rfl)] at fin ⊢;refine sO (fun z=>absurd z (Xf hw ht)) (fun _=>?_);refine Nr ?_;rw [if_pos rfl] at tms;exact fin H7 J9.toStp (by rw [tms];exact mk7) (by rw [eth] at oa7;exact oa7)
    | false=>
     rw [(show (if (false:Bool)=true then words w t else ("":Str))="" from if_neg Bool.false_ne_true)] at fin ⊢;refine sO (fun _=>?_) (fun z=>absurd rfl z);walk_at "es";have hp2:zY H7 dm (.int ((ms.length:Int) + 1)) (.str "pale") (upd H7 dm (.dK (Fx (ms ++ [("pale":Str)])))):=by
      have:=zY.k (k:=Sum.inl ((ms.length:Int) + 1)) (v:=.str "pale") mk7.om (by rw [Ve,List.length_append];exact Nat.lt_of_le_of_lt (show _≤1001 by simp;omega) (by decide));rw [Zcl (by rw [List.length_append];simp)] at this;rw [show (ms ++ [("dark":Str)]).set ms.length "pale"=ms ++ [("pale":Str)] from by rw [List.set_append_right _ _ (Nat.le_refl _),Nat.sub_self];rfl] at this;exact this
     refine ⟨dm,_,rfl,hp2,?_⟩;obtain ⟨st8,mk8⟩:=mk7.setM J9.wt (ms ++ [("pale":Str)]);have oa8:=(aA (H:=H7) (o:=.dK (Fx (ms ++ [("pale":Str)]))) nad).trans oa7;generalize upd H7 dm (.dK (Fx (ms ++ [("pale":Str)])))=H8 at st8 mk8 oa8 ⊢;rw [if_neg Bool.false_ne_true] at tms;exact fin H8 (J9.trans st8).toStp (by rw [tms];exact mk8) (by rw [eth] at oa8;exact oa8)
   ·have hm:¬ Zq dl=true:=fun y=>z ((Zck dl).mpr y);rw [if_neg hm] at tms;refine Nr ?_;exact fin H6 (Stp.refl ZG.wt) (by rw [tms];exact mk6) ev1
  have g5a:=s5 _ _ ev1;walk_at "ev";cases hb:b with
  | false=>
   subst hb;rw [if_neg Bool.false_ne_true] at tnt;have e1:ms=ji M:=(congrArg Nt.ms tnt).symm;have e2:M'.sw.grey=M.sw.grey:=(congrArg Nt.g tnt).symm;have e3:e.notes=[]:=(congrArg Nt.out tnt).symm;rw [(show (if (false:Bool)=true then words w t else ("":Str))="" from if_neg Bool.false_ne_true)] at tail ⊢;refine vO (fun z=>absurd rfl z) (fun _=>?_);refine Nr ?_;exact tail H5 l8 (Stp.same w3' s5) (by rw [e1,e2];exact mk2.same s5) tl8 (by rw [e3];exact g5) g5a
  | true=>
   subst hb;rw [if_pos rfl] at tnt;rw [(show (if (true:Bool)=true then words w t else ("":Str))=words w t from if_pos rfl)] at tail ⊢;refine vO (fun _=>?_) (fun z=>absurd z (Xf hw ht));walk_at "ev";refine ⟨_,rfl,by exact Nat.le_trans (Zda hw ht) (by decide),?_⟩;walk_at "ev";rw [Zow hw ht];obtain ⟨ak1,ak2⟩:=x.asked rfl od he;refine ⟨_,dd,_,_,rfl,T3,2,B,stOf M,dl,w,t,so2.same s5,rfl,s5 _ _ k2.1,U8 od,wfS,t1,hw,ht,rfl,rfl,fun lb H6 s6 nlb olb=>?_⟩;walk_at "ev";have s26:=s5.trans s6;refine ⟨dm,lg,lb,rfl,T3,ji M,M.sw.grey,Cu (stOf M) t w dl,w3'.same s26,mk2.same s26,olb,w3' _ (s5.free nlb),by omega,by rw [zA];omega,by omega,ak1,fun ln H7 J9 mk7 nln oln=>?_⟩;rw [tnt] at mk7 oln;exact tail H7 ln ((Stp.same w3' s26).trans J9.toStp) mk7 (w3' _ (s26.free nln)) oln (J9.tk _ _ (s6 _ _ g5a))
end
def pr1 (one:Int) (sl:List Int):iC:=.make (one % sl.length).toNat (one / 5 % mG sl (one % sl.length)).toNat 2 0
def pr2 (one two:Int) (sl:List Int):iC:=.put (one % sl.length).toNat (two % mG sl (one % sl.length)).toNat (two / 9 % 2).toNat (two / 18 % mG sl (one % sl.length)).toNat
def Zme (c:Int) (ls:Addr) (H:Hp) (Q:VK):Prop:=∃ sl ws,H ls=some (.lst (sl.map V.int))∧Zc6 sl ws∧∀ l d1 d2 one two H',bN H H'→H l=none→H d1=none→H d2=none→H' l=some (.lst [.ref d1,.ref d2])→H' d1=some (.tup (dV (pr1 one sl)))→H' d2=some (.tup (dV (pr2 one two sl)))→Q (.ref l) H'
def WL:Sp:=fun vs H Q E=>∃ c ls,vs=[.int c,.ref ls]∧Zme c ls H Q
def Zrn (X:Cs) (wo d dm:Addr) (H:Hp) (Q:VK):Prop:=∃ T A B M w t sl i lg,WT H T∧WJ X H T 1 A M∧A.wo=wo∧lH H T 2 B (stOf M)∧B.d=d∧Kr H T dm lg (ji M) M.sw.grey∧Qx true M w t sl i∧i≤100∧(∀ k∈sl,k≤1000)∧∀ H',Q (.bl true) H'
def Aa (X:Cs):Sp:=fun vs H Q E=>∃ wo d dm,vs=[.ref wo,.ref d,.ref dm]∧Zrn X wo d dm H Q
structure DuX (H:Hp) (due:Addr) (j:Nat) (c:Sc) (z:Str) (p:Addr×Addr):Prop where
 o1:H p.1=some (.tup [.int j,.int ((j:Int) + 1),.int (c.un - 1 - c.fl.length),.int c.ld,.ref p.2,.str z])
 o2:H p.2=some (.lst (c.fl.map oV))
 n1:p.1≠due
 n2:p.2≠due
theorem DuX.mv {H H':Hp}{due:Addr}{j:Nat}{c:Sc}{z:Str}{p:Addr×Addr} (o:DuX H due j c z p) (s:∀ b o,H b=some o→b≠due→H' b=some o):DuX H' due j c z p:=⟨s _ _ o.o1 o.n1,s _ _ o.o2 o.n2,o.n1,o.n2⟩
structure DuL (H1 Hx:Hp) (due dc:Addr) (o:Obj) (cs:List (Addr×Addr)) (cells:List Sc) (ms:List Str) (ps:List (Addr×Addr)):Prop where
 ol:Hx due=some (.lst (ps.map fun p=>V.ref p.1))
 od:Hx dc=some (.yd o (.dK (Sx cs)))
 kp:∀ b u,H1 b=some u→b≠due→b≠dc→Hx b=some u
 rw_:∀ (j:Nat) p,ps[j]? =some p→∃ c z,cells[j]? =some c∧ms[j]? =some z∧DuX Hx due j c z p
section
theorem Ww {c:Int}{ls:Addr} (q:Zme c ls H Q):wR K pG ⟨n,Q,bk,ct⟩ [some (.int c),some (.ref ls),none,none,none,none] H:=by
 obtain ⟨sl,ws,hs,o,q⟩:=q;have o1:=o.a;unfold wR;walk_at "ev";refine ⟨_,_,rfl,by decide,by decide,fun one p1 _=>?_⟩;walk_at "ev";refine ⟨_,_,rfl,by decide,by decide,fun two p2 _=>?_⟩;walk_at "ev";refine jV (cF.of hs) ?_;rw [bh];have hl:(0:Int) < sl.length:=by omega
 refine ⟨_,_,rfl,rfl,hl,?_⟩;have h0:=Int.emod_nonneg one (show (sl.length:Int)≠0 by omega);have h1:=Int.emod_lt_of_pos one hl;have sb:=Tu o (one % sl.length);have q:∀ l d1 d2 H',bN H H'→H l=none→H d1=none→H d2=none→H' l=some (.lst [.ref d1,.ref d2])→H' d1=some (.tup (dV (pr1 one sl)))→H' d2=some (.tup (dV (pr2 one two sl)))→Q (.ref l) H':=fun l d1 d2=>q l d1 d2 one two;unfold pr1 pr2 at q;have a1:=Int.emod_nonneg (one / 5) (show mG sl (one % sl.length)≠0 by omega);have a2:=Int.emod_nonneg two (show mG sl (one % sl.length)≠0 by omega);have a3:=Int.emod_nonneg (two / 18) (show mG sl (one % sl.length)≠0 by omega);have a4:=Int.emod_nonneg (two / 9) (show (2:Int)≠0 by decide);walk_at "ev";refine bK (cF.of hs) (at_getD h0 h1 3) ?_;refine ⟨_,_,rfl,rfl,by show 0 < mG sl (one % sl.length);omega,?_⟩;walk_at "ev";refine bK (cF.of hs) (at_getD h0 h1 3) ?_;refine ⟨_,_,rfl,rfl,by show 0 < mG sl (one % sl.length);omega,?_⟩;walk_at "ev";refine ⟨bu (by simp),fun d2 n2=>?_⟩;have e2:HO.tup [V.str "put",.int (one % sl.length),.int (two % mG sl (one % sl.length)),.int (two / 9 % 2),.int (two / 18 % mG sl (one % sl.length))]=.tup (dV (.put (one % sl.length).toNat (two % mG sl (one % sl.length)).toNat (two / 9 % 2).toNat (two / 18 % mG sl (one % sl.length)).toNat)):=by
  show _=HO.tup [V.str "put",.int ((one % sl.length).toNat:Nat),.int ((two % mG sl (one % sl.length)).toNat:Nat),.int ((two / 9 % 2).toNat:Nat),.int ((two / 18 % mG sl (one % sl.length)).toNat:Nat)];rw [Int.toNat_of_nonneg h0,Int.toNat_of_nonneg a2,Int.toNat_of_nonneg a4,Int.toNat_of_nonneg a3]
 have s2:=aN n2 (.tup [V.str "put",.int (one % sl.length),.int (two % mG sl (one % sl.length)),.int (two / 9 % 2),.int (two / 18 % mG sl (one % sl.length))]);have g2:upd H d2 (.tup [V.str "put",.int (one % sl.length),.int (two % mG sl (one % sl.length)),.int (two / 9 % 2),.int (two / 18 % mG sl (one % sl.length))]) d2=some (.tup (dV (.put (one % sl.length).toNat (two % mG sl (one % sl.length)).toNat (two / 9 % 2).toNat (two / 18 % mG sl (one % sl.length)).toNat))):=by rw [aq,e2]
 show bI _ _ [some (.int c),some (.ref ls),some (.int one),some (.int two),some (.int (one % sl.length)),some (.ref d2)] (upd H d2 (.tup [V.str "put",.int (one % sl.length),.int (two % mG sl (one % sl.length)),.int (two / 9 % 2),.int (two / 18 % mG sl (one % sl.length))]));generalize upd H d2 (.tup [V.str "put",.int (one % sl.length),.int (two % mG sl (one % sl.length)),.int (two / 9 % 2),.int (two / 18 % mG sl (one % sl.length))])=H2 at s2 g2 ⊢;walk_at "ev";refine bK (cF.of (s2 _ _ hs)) (at_getD h0 h1 3) ?_;refine ⟨_,_,rfl,rfl,by show 0 < mG sl (one % sl.length);omega,?_⟩;walk_at "ev";refine ⟨bu (by simp),fun d1 n1=>?_⟩;have e1:HO.tup [V.str "make",.int (one % sl.length),.int (one / 5 % mG sl (one % sl.length)),.int 2,.int 0]=.tup (dV (.make (one % sl.length).toNat (one / 5 % mG sl (one % sl.length)).toNat 2 0)):=by
  show _=HO.tup [V.str "make",.int ((one % sl.length).toNat:Nat),.int ((one / 5 % mG sl (one % sl.length)).toNat:Nat),.int 2,.int 0];rw [Int.toNat_of_nonneg h0,Int.toNat_of_nonneg a1]
 have s3:=aN n1 (.tup [V.str "make",.int (one % sl.length),.int (one / 5 % mG sl (one % sl.length)),.int 2,.int 0]);have g3:upd H2 d1 (.tup [V.str "make",.int (one % sl.length),.int (one / 5 % mG sl (one % sl.length)),.int 2,.int 0]) d1=some (.tup (dV (.make (one % sl.length).toNat (one / 5 % mG sl (one % sl.length)).toNat 2 0))):=by rw [aq,e1]
 walk_at "ev";refine ⟨bu (by simp),fun l nl=>?_⟩;have s4:=aN nl (.lst [.ref d1,.ref d2]);refine q l d1 d2 _ (s2.trans (s3.trans s4)) (s2.free (s3.free nl)) (s2.free n1) n2 aq (s4 _ _ g3) (s4 _ _ (s3 _ _ g2))
theorem Zde {H:Hp}{M:Wm}{w t:Int}{sl:List Int}{i:Nat}{lt due:Addr}{ls:List Addr}{ps:List (Addr×Addr)} (x:Qx true M w t sl i) (hi:i≤100) (g1:H lt=some (.lst (ls.map V.ref))) (g2:ls.length=(oO M).length) (g3:∀ (j:Nat) r t,ls[j]? =some r→(oO M)[j]? =some t→∃ f,TcO M H (r,f) t)
  (ol:H due=some (.lst (ps.map fun p=>V.ref p.1))) (lp:ps.length=M.cells.length) (rw_:∀ (j:Nat) p,ps[j]? =some p→∃ c z,(M.cells.map (jF M))[j]? =some c∧(ji M)[j]? =some z∧DuX H due j c z p):Sm H 3 (.ref lt) (.ref due):=by
 have hce:∀ k,k < M.cells.length→∃ c,M.cells[k]? =some (some c)∧c.birth=(k:Int) + 1∧c.fl.length≤1000:=fun k hk=>by
  have hk':(cg M).cells[k]? =some (Option.map tz M.cells[k]):=by
   show (M.cells.map (Option.map tz))[k]? =_;rw [bx,bO hk];rfl
  obtain ⟨c,e,e1,e2⟩:=x.q.ce k _ hk';cases hc:M.cells[k] with
  | none=>rw [hc] at e;cases e
  | some c0=>
   rw [hc] at e;have e:tz c0=c:=Option.some.inj e;subst e;exact ⟨c0,by rw [bO hk,hc],e1,e2⟩
 have hcl:M.cells.length≤i:=by
  have:=x.q.cl;rw [show (cg M).cells.length=M.cells.length from bh _] at this;exact this
 obtain ⟨t1',t2'⟩:=Zi9 (fun (i:Nat)=>((M.cells[i]?).join).map fun c=>((i:Int),c)) M.cells.length fun k hk=>by
  obtain ⟨c,e,_⟩:=hce k hk;exact ⟨((k:Int),c),by rw [e];rfl⟩
 have tl:(oO M).length=M.cells.length:=t1';refine .inr ⟨lt,due,_,_,rfl,rfl,.inl ⟨g1,ol⟩,by rw [bh,g2,tl];omega,Zit (by rw [bh,bh,g2,tl,lp]) fun k a b ex ey=>?_⟩;rw [bx] at ex ey;obtain ⟨r,hr,rfl⟩:=Option.map_eq_some_iff.mp ex;obtain ⟨p,hp,rfl⟩:=Option.map_eq_some_iff.mp ey;have hk:k < M.cells.length:=by rw [← lp];exact (cI hp).1
 obtain ⟨c,hck,e1,e2⟩:=hce k hk;have htk:(oO M)[k]? =some ((k:Int),c):=by
  have:=t2' k hk;rw [hck] at this;exact this
 obtain ⟨f,o1,o2⟩:=g3 k r _ hr htk;obtain ⟨c',z,hc',hz,u⟩:=rw_ k p hp;rw [x.mark hck] at hz;have hz:=Option.some.inj hz;rw [bx,hck] at hc';have hc'':jF M (some c)=c':=Option.some.inj hc';subst hc'';simp only at o1 o2;rw [e1,hz] at o1;have u1:=u.o1;have eu:(jF M (some c)).un - 1 - (((jF M (some c)).fl.length:Nat):Int)=c.bulk:=by
  show 1 + (c.fl.length:Int) + c.bulk - 1 - ((c.fl.map (d8 M)).length:Nat)=_;rw [bh];omega
 rw [eu] at u1;refine .inr ⟨r,p.1,_,_,rfl,rfl,.inr ⟨o1,u1⟩,by simp,.cons (qi rfl) (.cons (qi rfl) (.cons (qi rfl) (.cons (qi rfl) (.cons (.inr ⟨f,p.2,_,_,rfl,rfl,.inl ⟨o2,u.o2⟩,?_,yw (Zis _)⟩) (.cons (qi rfl) .nil)))))⟩;rw [bh,bh];omega
theorem Oj {wo d dm:Addr} (q:Zrn X wo d dm H Q):tK K (oG 3) (Ff X) (WK X) ⟨n,Q,bk,ct⟩ [some (.ref wo),some (.ref d),some (.ref dm),none,none,none,none] H:=by
 obtain ⟨T,A,B,M,w,t,sl,i,lg,wt,j,rfl,so,rfl,mk,x,hi,hsl,q⟩:=q;have hcl:M.cells.length≤i:=by
  have:=x.q.cl;rw [show (cg M).cells.length=M.cells.length from bh _] at this;exact this
 unfold tK;walk_at "ev";refine ⟨by decide,fun due Ze8=>?_⟩;have s1:=aN Ze8 (.lst []);have g1:upd H due (.lst []) due=some (.lst []):=aq;generalize upd H due (.lst [])=H1 at s1 g1 ⊢;have vI:=so.same s1;have mk1:=mk.same s1;walk_at "ev";refine ⟨_,_,rfl,vI.cells,?_⟩;walk_at "ev";refine ⟨_,_,rfl,vI.oc,fun o=>?_⟩;have ndc:due≠B.dc:=(aD so.oc Ze8).symm;have ndm:dm≠due:=aD mk.om Ze8;have nmc:dm≠B.dc:=tQ mk.tm so.tc (by simp);have lcs:B.cs.length=M.cells.length:=by
  have:=so.cl;rw [this];show (M.cells.map (jF M)).length=_;rw [bh]
 have d0:DuL H1 (upd H1 B.dc (.yd o (.dK (Sx B.cs)))) due B.dc o B.cs (M.cells.map (jF M)) (ji M) []:=
  ⟨(aA ndc).trans g1,aq,fun b u hb z1 z2=>(aA z2).trans hb,fun j p e=>by simp at e⟩
 generalize upd H1 B.dc (.yd o (.dK (Sx B.cs)))=H2 at d0 ⊢;refine Zzc (Sx B.cs) (fun i σ Hx=>∃ v5 v6 ps,σ=[some (.ref A.wo),some (.ref B.d),some (.ref dm),some (.ref due),some (.ref B.dc),v5,v6]∧DuL H1 Hx due B.dc o B.cs (M.cells.map (jF M)) (ji M) ps∧ps.length=i) ⟨_,_,[],rfl,d0,rfl⟩ (fun _ _ _ _ ⟨_,_,_,_,e,_⟩=>e.od) ?_ ?_
 ·rintro k kv σ Hx hkv ⟨v5,v6,ps,rfl,dl,lp⟩;obtain ⟨p,hp,rfl⟩:=Zlq hkv;have hk:k < M.cells.length:=by rw [← lcs];exact (cI hp).1
  have hc:(stOf M).cells[k]? =some ((stOf M).cells[k]'(by show k < (M.cells.map (jF M)).length;rw [bh];exact hk)):=bO _;generalize (stOf M).cells[k]'(by show k < (M.cells.map (jF M)).length;rw [bh];exact hk)=c at hc;have hz:(ji M)[k]? =some ((ji M)[k]'(by rw [zA];exact hk)):=bO _;generalize (ji M)[k]'(by rw [zA];exact hk)=z at hz;obtain ⟨t1,t2,o1,o2⟩:=vI.cc k p c hp hc;have np1:p.1≠due:=aD (so.cc k p c hp hc).2.2.1 Ze8;have np2:p.2≠due:=aD (so.cc k p c hp hc).2.2.2 Ze8;have tc1:=vI.tc;have nq1:p.1≠B.dc:=tQ t1 tc1 (by simp;omega);have nq2:p.2≠B.dc:=tQ t2 tc1 (by simp;omega);have o1:=dl.kp _ _ o1 np1 nq1;have o2:=dl.kp _ _ o2 np2 nq2;have om:=dl.kp _ _ mk1.om ndm nmc;rw [show kV ((Sum.inl ((k:Int) + 1):L2.Key),V.ref p.1).1=V.int ((k:Int) + 1) from rfl];walk_at "ev";refine ⟨B.dc,_,rfl,.inl ⟨Sx B.cs,Sum.inl ((k:Int) + 1),.inr ⟨o,dl.od⟩,rfl,(Zio hp).symm⟩,?_⟩;walk_at "ev";refine ⟨.inl ⟨rfl,_,cF.of dl.ol⟩,?_⟩;walk_at "ev";refine bK (cF.of o1) (aX (j:=0) (v:=.int c.un) rfl) ?_;walk_at "ev";refine bK (cF.of o1) (aX (j:=2) (v:=.ref p.2) rfl) ?_;walk_at "ev";refine jV (cF.of o2) ?_;walk_at "ev";refine bK (cF.of o1) (aX (j:=1) (v:=.int c.ld) rfl) ?_;walk_at "ev";refine bK (cF.of o1) (aX (j:=2) (v:=.ref p.2) rfl) ?_;walk_at "ev";refine Zl2 (cF.of o2) fun l nl=>?_;rw [bh,show (k:Int) + 1 - 1=k from by omega];have s3:=aN nl (.lst (c.fl.map oV));have g3:upd Hx l (.lst (c.fl.map oV)) l=some (.lst (c.fl.map oV)):=aq;have nld:l≠due:=(aD dl.ol nl).symm;generalize upd Hx l (.lst (c.fl.map oV))=H3 at s3 g3 ⊢;walk_at "ev";refine ⟨dm,.str z,rfl,?_,?_⟩
  ·have:=qg.k (k:=Sum.inl ((k:Int) + 1)) (s3 _ _ om);rw [Zgw hz] at this;exact this
  walk_at "ev";refine ⟨bu (by simp),fun t nt=>?_⟩;have s4:=aN nt (.tup [.int k,.int ((k:Int) + 1),.int (c.un - 1 - c.fl.length),.int c.ld,.ref l,.str z]);have g4:upd H3 t (.tup [.int k,.int ((k:Int) + 1),.int (c.un - 1 - c.fl.length),.int c.ld,.ref l,.str z]) t=some (.tup [.int k,.int ((k:Int) + 1),.int (c.un - 1 - c.fl.length),.int c.ld,.ref l,.str z]):=aq;have ntd:t≠due:=(aD (s3 _ _ dl.ol) nt).symm;generalize upd H3 t (.tup [.int k,.int ((k:Int) + 1),.int (c.un - 1 - c.fl.length),.int c.ld,.ref l,.str z])=H4 at s4 g4 ⊢;have s24:=s3.trans s4;walk_at "ev";refine ⟨due,_,_,rfl,rfl,s24 _ _ dl.ol,by rw [bh,lp];exact Nat.lt_of_le_of_lt (show _≤1000 by omega) (by decide),?_⟩;rw [show (ps.map fun p=>V.ref p.1) ++ [V.ref t]=(ps ++ [(t,l)]).map fun p=>V.ref p.1 from by rw [List.map_append];rfl];walk_at "ev";have ok:∀ b u,H4 b=some u→b≠due→upd H4 due (.lst ((ps ++ [(t,l)]).map fun p=>V.ref p.1)) b=some u:=fun b u hb z=>(aA z).trans hb;refine ⟨_,_,ps ++ [(t,l)],rfl,⟨aq,ok _ _ (s24 _ _ dl.od) ndc.symm,fun b u hb z1 z2=>ok _ _ (s24 _ _ (dl.kp b u hb z1 z2)) z1,fun m p' e=>?_⟩,by rw [List.length_append,lp];rfl⟩
  by_cases hm:m < ps.length
  ·rw [List.getElem?_append_left hm] at e;obtain ⟨c',z',hc',hz',u⟩:=dl.rw_ m p' e;exact ⟨c',z',hc',hz',u.mv fun b o hb z=>ok _ _ (s24 _ _ hb) z⟩
  ·have hm':=(cI e).1;rw [List.length_append,List.length_singleton] at hm';have em:m=ps.length:=by omega
   subst em;rw [List.getElem?_append_right (Nat.le_refl _),Nat.sub_self] at e;have e':(t,l)=p':=by simpa using e
   subst e';rw [lp];exact ⟨c,z,hc,hz,⟨ok _ _ g4 ntd,ok _ _ (s4 _ _ g3) nld,ntd,nld⟩⟩
 ·rintro σ Hx ⟨v5,v6,ps,rfl,dl,lp⟩;rw [Zd3,lcs] at lp;have kpx:∀ b u,H b=some u→b≠B.dc→Hx b=some u:=fun b u hb z=>dl.kp _ _ (s1 _ _ hb) (aD hb Ze8) z;have ntc:∀ b m,T b=m→m≠(2,2)→b≠B.dc:=fun b m h z=>tQ h so.tc z;have jx:WJ X Hx T 1 A M:=j.mv ⟨fun b u hb hs _=>kpx b u hb (fun z=>by rw [z,so.tc] at hs;cases hs),fun _ _ _=>rfl⟩ fun b u hb ht=>kpx b u hb (ntc _ _ ht (by simp));have odx:Hx B.d=some (.dK (zK stN (stV (stOf M).room (stOf M).used (stOf M).born B.lr B.dc B.dw))):=kpx _ _ so.od (ntc _ _ so.td (by simp));have orx:=kpx _ _ so.orr (ntc _ _ so.tr (by simp));have rrx:∀ (j:Nat) a x,B.rs[j]? =some a→(rowsOf M)[j]? =some x→Hx a=some (.lst (x.map oV)):=fun j a x e1 e2=>by
   obtain ⟨b1,b2⟩:=so.rr j a x e1 e2;exact kpx _ _ b2 (ntc _ _ b1 (by simp;omega))
  have hfl:∀ c,some c∈M.cells→c.fl.length≤1000:=fun c hc=>by
   obtain ⟨k,hk,e⟩:=List.getElem_of_mem (show some (tz c)∈(cg M).cells from List.mem_map.mpr ⟨some c,hc,rfl⟩);obtain ⟨c',e1,_,e3⟩:=x.q.ce k _ (by rw [bO hk,e]);cases e1;exact e3
  have hhl:∀ m∈M.hands,m.2.length≤1000:=fun m hm=>by
   have:m.2.length∈M.hands.map fun m=>m.2.length:=List.mem_map.mpr ⟨m,hm,rfl⟩;rw [show (M.hands.map fun m=>m.2.length)=sl.map Int.toNat from x.q.hl] at this;obtain ⟨k,hk,e⟩:=List.mem_map.mp this;have:=hsl k hk;omega
  have hrl:∀ x∈rowsOf M,x.length≤1000:=fun x hx=>by
   obtain ⟨m,hm,rfl⟩:=List.mem_map.mp hx;rw [bh];exact hhl m hm
  have Ztk:(rowsOf M).length≤1000:=by
   have h1:=so.rl;have h2:=so.r5;have h1:B.rs.length=(rowsOf M).length:=h1;omega
  walk_at "ev";refine ⟨_,rfl,T,1,A,M,jx,rfl,by omega,hfl,fun lt lts H3 s3 g1 g2 g3=>?_⟩;walk_at "ev";refine ⟨_,_,rfl,Zde x hi g1 g2 g3 (s3 _ _ dl.ol) lp (fun m p e=>?_),?_⟩
  ·obtain ⟨c,z,hc,hz,u⟩:=dl.rw_ m p e;exact ⟨c,z,hc,hz,u.mv fun b o hb _=>s3 _ _ hb⟩
  walk_at "ev";refine ⟨_,rfl,T,1,A,M,jx.same s3,rfl,by omega,hhl,fun lb lbs H4 s4 h1 h2 h3=>?_⟩;have s34:=s3.trans s4;walk_at "ev";refine ⟨_,_,rfl,Xe (i:=3) (s34 _ _ odx) rfl (by decide +kernel) rfl,?_⟩;walk_at "ev";exact ⟨_,_,rfl,Zj7 h1 (s34 _ _ orx) h2 so.rl Ztk hrl h3 (fun j a x e1 e2=>s34 _ _ (rrx j a x e1 e2)),q _⟩
end
structure Lx (X:Cs) (b:Bool) (H:Hp) (T:Tg) (A:Wa) (B:Sa) (M:Wm) (wo d dm lg:Addr) (w t:Int) (ns:List Int) (i:Nat):Prop where
 wt:WT H T
 j:WJ X H T 1 A M
 a:A.wo=wo
 s:lH H T 2 B (stOf M)
 e:B.d=d
 m:Kr H T dm lg (ji M) M.sw.grey
 x:Qx b M w t ns i
structure Fy (H:Hp) (T:Tg) (lm lw src:Addr) (ns zs:List Int) (ws:List Str):Prop where
 m:H lm=some (.lst (ns.map V.int))∧T lm=(0,0)
 s:H lw=some (.lst (ws.map V.str))∧T lw=(0,0)
 z:H src=some (.lst (zs.map V.int))∧T src=(0,0)
section
variable {X:Cs}{b:Bool}{H H':Hp}{T T':Tg}{A:Wa}{B:Sa}{M:Wm}{wo d dm lg lm lw src:Addr}{w t:Int}{ns zs:List Int}{ws:List Str}{i:Nat}
theorem Lx.same (l:Lx X b H T A B M wo d dm lg w t ns i) (s:bN H H'):Lx X b H' T A B M wo d dm lg w t ns i:=⟨l.wt.same s,l.j.same s,l.a,l.s.same s,l.e,l.m.same s,l.x⟩
theorem k00 {b:Addr}{o:HO} (st:qN H H' T T') (h:H b=some o∧T b=(0,0)):H' b=some o∧T' b=(0,0):=⟨st.kp b o h.1 (by rw [h.2];decide) (by rw [h.2];decide) (by rw [h.2];decide),(st.tg b o h.1).trans h.2⟩
theorem Fy.st (f:Fy H T lm lw src ns zs ws) (st:qN H H' T T'):Fy H' T' lm lw src ns zs ws:=⟨k00 st f.m,k00 st f.s,k00 st f.z⟩
theorem Fy.same (f:Fy H T lm lw src ns zs ws) (w:WT H T) (s:bN H H'):Fy H' T lm lw src ns zs ws:=f.st (qN.same w s)
end
def SqZ (K:aG) (H:Hp) (T:Tg) (a:Addr) (xs:List V):Prop:=(∃ o,(H a=some o∧T a=(0,0))∧(o=.lst xs∨∃ u,o=.yd u (.lst xs)))∨∀ H',cF K H' a xs
theorem SqZ.sq {K:aG}{H:Hp}{T:Tg}{a:Addr}{xs:List V} (h:SqZ K H T a xs):cF K H a xs:=by
 rcases h with ⟨o,⟨h,_⟩,rfl | ⟨u,rfl⟩⟩ | h
 ·exact .inl (.inl h)
 ·exact .inl (.inr ⟨u,h⟩)
 ·exact h H
theorem SqZ.st {K:aG}{H H':Hp}{T T':Tg}{a:Addr}{xs:List V} (h:SqZ K H T a xs) (st:qN H H' T T'):SqZ K H' T' a xs:=by
 rcases h with ⟨o,h,e⟩ | h
 ·exact .inl ⟨o,k00 st h,e⟩
 ·exact .inr h
def Zd6 (K:aG):Sp:=fun vs H Q E=>∃ a,vs=[.ref a]∧∃ ns:List Int,cF K H a (ns.map V.int)∧ns.length≤63∧Xc ns∧∀ H',Q (.bl true) H'
theorem YX (M6:List Int) (lo hi:Nat):∃ zs:List Int,Y0 (M6.map V.int) (some (lo:Int)) (some (hi:Int))=zs.map V.int∧zs.length≤hi∧∀ z∈zs,z∈M6:=by
 refine ⟨(M6.drop (HT.oM M6.length 0 (some (lo:Int)))).take (HT.oM M6.length M6.length (some (hi:Int)) - HT.oM M6.length 0 (some (lo:Int))),?_,?_,fun z hz=>List.mem_of_mem_drop (List.mem_of_mem_take hz)⟩
 ·unfold Y0;rw [List.map_take,List.map_drop,bh]
 ·rw [List.length_take];have:HT.oM M6.length M6.length (some (hi:Int))≤hi:=by
   show (if (hi:Int) < 0 then ((hi:Int) + (M6.length:Int)).toNat else min (hi:Int).toNat M6.length)≤hi;rw [if_neg (by omega)];omega
  omega
section
theorem Znp {a:Addr} (q:∃ ns:List Int,cF K H a (ns.map V.int)∧ns.length≤63∧Xc ns∧∀ H',Q (.bl true) H'):
  Za7 K X.W (rZ X) (Zlx K) (La K) K9 pG K7 WL (Aa X) (K5 K) (K3 X) (Lb X) (Ac X) ⟨n,Q,bk,ct⟩ [some (.ref a),none,none,none,none,none,none,none,none,none,none] H:=by
 obtain ⟨M6,hS,hlen,Zr2,h⟩:=q;unfold Za7;walk_at "ev";refine ⟨a,0,rfl,M6,hS,by decide,fun zr=>?_⟩;walk_at "ev";refine ⟨_,rfl,fun w t H0 w0 w1 t0 t1 s0=>?_⟩;walk_at "ev";refine ⟨a,1,rfl,M6,s0.seq hS,by decide,fun z0=>?_⟩;walk_at "ev";have b1:=Int.emod_nonneg z0 (show (5:Int)≠0 by decide);have b2:=Int.emod_lt_of_pos z0 (show (0:Int) < 5 by decide);have d1:1≤1 + z0 % 5∧1 + z0 % 5≤5:=by omega
 generalize 1 + z0 % 5=count at d1 ⊢;clear b1 b2;refine Nu ?_;walk_at "ev";refine ⟨_,rfl,by omega,by omega,?_⟩;refine Zkq (n:=count.toNat) rfl (by omega) (fun _ y _=>∃ k:Int,y=.int k∧3≤k∧k≤9) (fun _ _ _ _ z _=>z) (fun i H1 q hq=>zP hq) (fun i H1 hi s1 q hq=>?_) ?_
 ·walk_at "caps";walk_at "ev";refine ⟨a,1,rfl,M6,(s0.trans s1).seq hS,by decide,fun z1=>?_⟩;walk_at "ev";have hii:(i:Int) * i≤25:=by
   have h5:i≤5:=by omega
   have:=Nat.mul_le_mul h5 h5;have e:((i * i:Nat):Int)=(i:Int) * i:=by push_cast;rfl
   omega
  have hi0:0≤(i:Int) * i:=Int.mul_nonneg (by omega) (by omega);refine ⟨_,_,rfl,by omega,by omega,fun z2 h2 _=>?_⟩;walk_at "ev";have c1:=Int.emod_nonneg z2 (show (7:Int)≠0 by decide);have c2:=Int.emod_lt_of_pos z2 (show (0:Int) < 7 by decide);exact hq _ _ (bN.refl _) ⟨_,rfl,by omega,by omega⟩
 intro ys H1 s1 ly hR lm hlm;obtain ⟨ns,rfl,nb⟩:=Zny (R:=fun _ _=>True) hR;have lns:ns.length=count.toNat:=by rw [← ly,bh]
 have s2:=aN hlm (.lst (ns.map V.int));have g2:upd H1 lm (.lst (ns.map V.int)) lm=some (.lst (ns.map V.int)):=aq;generalize upd H1 lm (.lst (ns.map V.int))=H2 at s2 g2 ⊢;have s02:=s0.trans (s1.trans s2);walk_at "ev";refine ⟨a,2,rfl,M6,s02.seq hS,by decide,fun z9=>?_⟩;walk_at "ev";refine ⟨_,_,rfl,⟨by decide,by decide⟩,fun lw ws Hw sw ow lws nlw=>?_⟩;have gmw:=sw _ _ g2;have Zps:=s02.trans sw;walk_at "ev";refine ⟨_,rfl,w,t,w0,w1,t0,t1,rfl,fun ki lk H4 s4 nki nlk kd=>?_⟩;have s04:=Zps.trans s4;have g4:=s4 _ _ gmw;have ow4:=s4 _ _ ow;walk_at "ev";refine Nu ?_;walk_at "ev";refine ⟨_,rfl,by omega,by omega,?_⟩;refine Zhf (n:=count.toNat) rfl (by omega) (fun i r Hx=>∃ (nm:Str) (k:Int),ns[i]? =some k∧Hx r=some (.tup [.str nm,.int k])) (fun _ _ _ _ ⟨nm,k,e,z⟩ s=>⟨nm,k,e,s _ _ z⟩) (fun _ _ _ ⟨_,_,_,z⟩=>⟨_,z⟩) (fun i H1 q hq=>zP hq) (fun i H5 hi s5 q hq=>?_) ?_
 ·walk_at "caps";walk_at "ev";have hi5:i < 5:=by omega
  refine Zb5 (by decide) (by omega) (by show (i:Int) < 5;omega) fun ch=>?_;walk_at "ev";have hn:i < ns.length:=by omega
  refine bK (cF.of (s5 _ _ g4)) (aX (v:=.int ns[i]) (by rw [bx,bO hn];rfl)) ?_;walk_at "ev";exact ⟨bu (by simp),fun r nr=>hq r _ (aN nr _) nr ⟨_,ns[i],bO hn,aq⟩⟩
 intro ts H5 s5 lts nd _ hT hl0 Zsk;have s6:=aN Zsk (.lst (ts.map V.ref));have g6:upd H5 hl0 (.lst (ts.map V.ref)) hl0=some (.lst (ts.map V.ref)):=aq;generalize upd H5 hl0 (.lst (ts.map V.ref))=H6 at s6 g6 ⊢;obtain ⟨hands,eh,alh⟩:=Zkk (H:=H6) (ts:=ts) (ns:=ns) (by omega) nb fun i t et=>by
  obtain ⟨nm,k,e1,e2⟩:=hT i t et;exact ⟨nm,k,e1,s6 _ _ e2⟩
 have lh:hands.length=ns.length:=by rw [← eh,bh]
 have kd6:=(kd.same s5).same s6;have g6m:=s6 _ _ (s5 _ _ g4);have g6w:=s6 _ _ (s5 _ _ ow4);have s06:=s04.trans (s5.trans s6);have Zj9:Zc6 ns ws:=⟨by omega,by omega,nb,by omega,by omega⟩;clear s1 s2 hR g2 s02 gmw Zps sw ow nlw s4 g4 ow4 s04 s5 s6 hT;walk_at "ev";intro wo dx nwo ndx ned;have s7:bN H6 (upd (upd H6 dx (.own wo)) wo (.ins X.W dx [])):=fun b o hb=>by rw [aA (aD hb nwo),aA (aD hb ndx)];exact hb
 have g7:upd (upd H6 dx (.own wo)) wo (.ins X.W dx []) wo=some (.ins X.W dx []):=aq;generalize upd (upd H6 dx (.own wo)) wo (.ins X.W dx [])=H7 at s7 g7 ⊢;have kd7:=kd6.same s7;have hki:∃ o,H6 ki=some o:=by
  obtain ⟨⟨_,e⟩,_⟩:=kd6;exact ⟨_,e⟩
 have hlk:∃ o,H6 lk=some o:=by
  obtain ⟨_,⟨_,e⟩⟩:=kd6;rcases e with ⟨_,e⟩ | ⟨_,e⟩ | ⟨_,e⟩
  ·exact ⟨_,e⟩
  ·exact ⟨_,e⟩
  ·exact ⟨_,e⟩
 obtain ⟨oki,hki⟩:=hki;obtain ⟨olk,hlk⟩:=hlk;refine ⟨wo,_,ki,hl0,rfl,dx,fun _=>(0,0),1,lk,w,t,ts,hands,g7,fun _ _=>rfl,by decide,kd7,rfl,rfl,aD hki nwo,aD hlk nwo,s7 _ _ g6,alh.mono fun x m ⟨z1,z2⟩=>⟨s7 _ _ z1,z2⟩,by omega,fun H8 T8 A8 k8 t8 w8 aw8 j8=>⟨rfl,?_⟩⟩;have s68:bN H6 H8:=fun b o hb=>k8 b o (s7 _ _ hb) (aD hb nwo);have t68:∀ b o,H6 b=some o→T8 b=(0,0):=fun b o hb=>t8 b o (s7 _ _ hb) (aD hb nwo);have tH8:∀ b o,H b=some o→T8 b=(0,0):=fun b o hb=>t68 b o (s06 _ _ hb);have gm:=s68 _ _ g6m;have tm:=t68 _ _ g6m;have gw:=s68 _ _ g6w;have tw:=t68 _ _ g6w;have x0:=Qx.new (room:=10 ^ Int.toNat 15) (w:=w) eh t0 t1 (by omega);have es:stOf (HS (10 ^ Int.toNat 15) hands w t)=newS (10 ^ Int.toNat 15) ns:=Zfo eh;have em:ji (HS (10 ^ Int.toNat 15) hands w t)=[]:=rfl;have eg:(HS (10 ^ Int.toNat 15) hands w t).sw.grey=[]:=rfl;have s08:=s06.trans s68;clear k8 t8 kd7 s68 t68 s7 g7 kd6 hki hlk alh g6 g6m g6w s06 kd;walk_at "ev";refine ⟨_,_,rfl,T8,2,ns,w8,gm,by omega,fun k hk=>by have:=nb k hk;omega,fun H9 T9 B s9 t9 w9 so9=>?_⟩;have j9:=j8.mv (H':=H9) (T':=T9) ⟨fun b o hb _ _=>s9 _ _ hb,t9⟩ fun b o hb _=>s9 _ _ hb;have gm9:=s9 _ _ gm;have tm9:=(t9 _ _ gm).trans tm;have gw9:=s9 _ _ gw;have tw9:=(t9 _ _ gw).trans tw;rw [← es] at so9;generalize HS (10 ^ Int.toNat 15) hands w t=M0 at x0 so9 j9 em eg;walk_at "ev";intro dm ndm;have Zo:=aN ndm (.dK []);have f10:∀ b o,H9 b=some o→fG T9 dm (3,0) b=T9 b:=fun b o hb=>fO (aD hb ndm);have w10:WT (upd H9 dm (.dK [])) (fG T9 dm (3,0)):=Lj (w9.same Zo) aq;have j10:=j9.mv (H':=upd H9 dm (.dK [])) (T':=fG T9 dm (3,0)) ⟨fun b o hb _ _=>Zo _ _ hb,f10⟩ fun b o hb _=>Zo _ _ hb;have Zj6:=so9.keep (H':=upd H9 dm (.dK [])) (T':=fG T9 dm (3,0)) (fun b o h _=>Zo b o h) f10;have Zkf:upd H9 dm (.dK []) dm=some (.dK (Fx [])):=aq;have Zml:fG T9 dm (3,0) dm=(3,0):=fB;have Zlg:=Zo _ _ gm9;have Zmk:=(f10 _ _ gm9).trans tm9;have Zle:=Zo _ _ gw9;have tw10:=(f10 _ _ gw9).trans tw9;generalize upd H9 dm (.dK [])=H10 at Zo w10 j10 Zj6 Zkf Zlg Zle ⊢;generalize fG T9 dm (3,0)=T10 at w10 j10 Zj6 Zml Zmk tw10 f10;walk_at "ev";refine ⟨by decide,fun lg nlg=>?_⟩;have s11:=aN nlg (.lst []);have f11:∀ b o,H10 b=some o→fG T10 lg (3,1) b=T10 b:=fun b o hb=>fO (aD hb nlg);have w11:WT (upd H10 lg (.lst [])) (fG T10 lg (3,1)):=Lj (w10.same s11) aq;have l11:Lx X false (upd H10 lg (.lst [])) (fG T10 lg (3,1)) A8 B M0 wo B.d dm lg w t ns 0:=
  ⟨w11,j10.mv ⟨fun b o hb _ _=>s11 _ _ hb,f11⟩ fun b o hb _=>s11 _ _ hb,aw8,Zj6.keep (fun b o h _=>s11 b o h) f11,rfl,⟨(f11 _ _ Zkf).trans Zml,by rw [em];exact s11 _ _ Zkf,fB,by rw [eg];exact aq⟩,x0⟩
 have Zr6:=s11 _ _ Zlg;have Zpn:=(f11 _ _ Zlg).trans Zmk;have Zr4:=s11 _ _ Zle;have tw11:=(f11 _ _ Zle).trans tw10;have Zjj:=s08.trans (s9.trans (Zo.trans s11));have Zmo:∀ b o,H b=some o→fG T10 lg (3,1) b=(0,0):=fun b o hb=>(f11 b o (Zo _ _ (s9 _ _ (s08 _ _ hb)))).trans ((f10 b o (s9 _ _ (s08 _ _ hb))).trans ((t9 b o (s08 _ _ hb)).trans (tH8 b o hb)));generalize upd H10 lg (.lst [])=H11 at s11 w11 l11 Zr6 Zr4 Zjj ⊢;generalize fG T10 lg (3,1)=T11 at w11 l11 Zpn tw11 Zmo;have z11:SqZ K H11 T11 a (M6.map V.int):=by
  rcases hS with (hS | ⟨o,hS⟩) | hS
  ·exact .inl ⟨_,⟨Zjj _ _ hS,Zmo _ _ hS⟩,.inl rfl⟩
  ·exact .inl ⟨_,⟨Zjj _ _ hS,Zmo _ _ hS⟩,.inr ⟨o,rfl⟩⟩
  ·exact .inr fun H'=>.inr hS
 clear s9 t9 w9 so9 j9 gm9 tm9 gw9 tw9 Zo f10 w10 j10 Zj6 Zkf Zml Zlg Zmk Zle tw10 f11 s08 em eg es x0;have hsl:∀ k∈ns,k≤1000:=fun k hk=>by have:=nb k hk;omega
 generalize B.d=sd at l11 ⊢;walk_at "ev";refine ⟨a,_,rfl,Zjj.seq hS,fun src Zqx=>?_⟩;obtain ⟨zs,ez,lz,mz⟩:=YX M6 3 13;obtain ⟨zs2,ez2,lz2,mz2⟩:=YX M6 13 63;rw [show Y0 (M6.map V.int) (some 3) (some 13)=zs.map V.int from ez];have Zrz:=l11.wt _ Zqx;have s12:=aN Zqx (.lst (zs.map V.int));have Zoq:upd H11 src (.lst (zs.map V.int)) src=some (.lst (zs.map V.int)):=aq;have l12:=l11.same s12;have f12:Fy (upd H11 src (.lst (zs.map V.int))) T11 lm lw src ns zs ws:=⟨⟨s12 _ _ Zr6,Zpn⟩,⟨s12 _ _ Zr4,tw11⟩,⟨Zoq,Zrz⟩⟩;have z12:=z11.st (qN.same l11.wt s12);generalize upd H11 src (.lst (zs.map V.int))=H12 at s12 Zoq l12 f12 z12 ⊢;refine ⟨src,rfl,⟨_,cF.of Zoq⟩,forL (zs.map V.int) (fun i σ Hx=>∃ T A B M v9 v10,σ=[some (.ref a),some (.str (words w t)),some (.int count),some (.ref lm),some (.ref lw),some (.ref wo),some (.ref sd),some (.ref dm),some (.ref lg),v9,v10]∧Lx X false Hx T A B M wo sd dm lg w t ns (2 * i)∧Fy Hx T lm lw src ns zs ws∧SqZ K Hx T a (M6.map V.int)) ⟨T11,A8,B,M0,_,_,rfl,l12,f12,z12⟩ (fun _ _ _ _ ⟨_,_,_,_,_,_,_,_,e,_⟩=>cF.of e.z.1) ?_ ?_⟩
 ·rintro i x σ Hx hi ⟨T,A,B,M,v9,v10,rfl,l,f,z⟩;have hil:=(cI hi).1;rw [bh] at hil;obtain ⟨c,hc,rfl⟩:=List.mem_map.mp (List.mem_of_getElem? hi);walk_at "ev";refine ⟨_,_,rfl,ns,ws,f.m.1,Zj9,fun lp e1 e2 one two H1 s1 nlp n1 n2 olp o1 o2=>?_⟩;have st1:=qN.same l.wt s1;have l1:=l.same s1;have f1:=f.st st1;have z1:=z.st st1;have tlp:=l.wt _ nlp;have te1:=l.wt _ n1;have te2:=l.wt _ n2;have hh0:=Int.emod_nonneg one (show (ns.length:Int)≠0 by omega);have hh1:=Int.emod_lt_of_pos one (show (0:Int) < ns.length by omega);refine ⟨lp,rfl,⟨_,cF.of olp⟩,forL [.ref e1,.ref e2] (fun k σ Hy=>∃ T A B M v10,σ=[some (.ref a),some (.str (words w t)),some (.int count),some (.ref lm),some (.ref lw),some (.ref wo),some (.ref sd),some (.ref dm),some (.ref lg),some (.int c),v10]∧Lx X false Hy T A B M wo sd dm lg w t ns (2 * i + k)∧Fy Hy T lm lw src ns zs ws∧SqZ K Hy T a (M6.map V.int)∧(Hy lp=some (.lst [.ref e1,.ref e2])∧T lp=(0,0))∧(Hy e1=some (.tup (dV (pr1 one ns)))∧T e1=(0,0))∧(Hy e2=some (.tup (dV (pr2 one two ns)))∧T e2=(0,0))) ⟨T,A,B,M,_,rfl,l1,f1,z1,⟨olp,tlp⟩,⟨o1,te1⟩,⟨o2,te2⟩⟩ (fun _ _ _ _ ⟨_,_,_,_,_,_,_,_,_,e,_⟩=>cF.of e.1) ?_ ?_⟩
  ·rintro k y σ Hy hk ⟨T,A,B,M,v10,rfl,l,f,z,klp,ke1,ke2⟩;have hk2:=(cI hk).1;have hk2:k < 2:=hk2;have key:∃ dd dl,y=.ref dd∧Hy dd=some (.tup (dV dl))∧T dd=(0,0)∧okD M dl:=by
    have hn:M.hands.map (fun m=>m.2.length)=ns.map Int.toNat:=l.x.q.hl;have oks:∀ y:Int,Fw M (one % ns.length).toNat (y % mG ns (one % ns.length)).toNat:=fun y=>Zaq (M:=cg M) l.x.q Zj9 hh0 hh1 y
    match k,hk2,hk with
    | 0,_,hk=>exact ⟨e1,_,(Option.some.inj hk).symm,ke1.1,ke1.2,⟨oks _,by decide,by decide,by decide⟩⟩
    | 1,_,hk=>exact ⟨e2,_,(Option.some.inj hk).symm,ke2.1,ke2.2,⟨oks _,oks _⟩⟩
   obtain ⟨dd,dl,rfl,odd,tdd,okd⟩:=key;walk_at "ev";refine ⟨_,_,_,_,_,dd,rfl,T,A,B,M,false,w,t,ns,2 * i + k,dl,l.wt,l.j,l.a,l.s,l.e,l.m,odd,tdd,okd,l.x,by omega,⟨w0,w1⟩,⟨t0,t1⟩,rfl,fun H2 T2 A2 B2 M2 st j2 aw2 so2 vA mk2 x2=>?_⟩;walk_at "ev";exact ⟨T2,A2,B2,M2,_,rfl,⟨st.wt,j2,aw2,so2,vA,mk2,x2⟩,f.st st,z.st st,k00 st klp,k00 st ke1,k00 st ke2⟩
  ·rintro σ Hy ⟨T,A,B,M,v10,rfl,l,f,z,_⟩;exact ⟨T,A,B,M,_,_,rfl,l,f,z⟩
 ·rintro σ Hx ⟨T,A,B,M,v9,v10,rfl,l,f,z⟩;rw [bh] at l;walk_at "ev";refine ⟨_,rfl,T,1,A,M,l.wt,by decide,l.j,l.a,fun H2 T2 A2 st j2 aw2=>?_⟩;obtain ⟨x2,em,es⟩:=l.x.begin;have eg:M.sw.grey=[]:=l.x.g0 rfl;have st3:=qN.of st (.inl rfl);have l2:Lx X true H2 T2 A2 B (Jg M) wo sd dm lg w t ns (2 * zs.length):=⟨st.wt,j2,aw2,by rw [es];exact l.s.other st (by decide),l.e,by
   have:=l.m.other st (by decide);rw [eg] at this;rw [em];exact this,x2⟩
  have f2:=f.st st3;have z2:=z.st st3;walk_at "ev";refine ⟨a,_,rfl,z2.sq,fun ZJ Zmc=>?_⟩;rw [show Y0 (M6.map V.int) (some 13) (some 63)=zs2.map V.int from ez2];have Zpm:=l2.wt _ Zmc;have s3:=aN Zmc (.lst (zs2.map V.int));have Zhx:upd H2 ZJ (.lst (zs2.map V.int)) ZJ=some (.lst (zs2.map V.int)):=aq;have l3:=l2.same s3;have f3:Fy (upd H2 ZJ (.lst (zs2.map V.int))) T2 lm lw ZJ ns zs2 ws:=⟨⟨s3 _ _ f2.m.1,f2.m.2⟩,⟨s3 _ _ f2.s.1,f2.s.2⟩,⟨Zhx,Zpm⟩⟩;generalize upd H2 ZJ (.lst (zs2.map V.int))=H3 at s3 Zhx l3 f3 ⊢;refine ⟨ZJ,rfl,⟨_,cF.of Zhx⟩,forL (zs2.map V.int) (fun i σ Hx=>∃ T A B M v9 v10,σ=[some (.ref a),some (.str (words w t)),some (.int count),some (.ref lm),some (.ref lw),some (.ref wo),some (.ref sd),some (.ref dm),some (.ref lg),v9,v10]∧Lx X true Hx T A B M wo sd dm lg w t ns (2 * zs.length + i)∧Fy Hx T lm lw ZJ ns zs2 ws) ⟨T2,A2,B,_,_,_,rfl,l3,f3⟩ (fun _ _ _ _ ⟨_,_,_,_,_,_,_,_,e⟩=>cF.of e.z.1) ?_ ?_⟩
  ·rintro i x σ Hx hi ⟨T,A,B,M,v9,v10,rfl,l,f⟩;have hil:=(cI hi).1;rw [bh] at hil;obtain ⟨c,hc,rfl⟩:=List.mem_map.mp (List.mem_of_getElem? hi);have hcb:=Zr2 c (mz2 c hc);walk_at "ev";refine ⟨_,_,_,rfl,ns,ws,f.m.1,f.s.1,hcb,Zj9,fun dd H1 s1 ndd odd=>?_⟩;have tdd:=l.wt _ ndd;have l1:=l.same s1;have f1:=f.same l.wt s1;have okd:okD M (N7 c ns ws):=by
    have:=l.x.q.okD Zj9 c
    revert this
    generalize N7 c ns ws=dl;cases dl<;>exact id
   walk_at "ev";refine ⟨_,_,_,_,_,dd,rfl,T,A,B,M,true,w,t,ns,2 * zs.length + i,_,l1.wt,l1.j,l1.a,l1.s,l1.e,l1.m,odd,tdd,okd,l1.x,by omega,⟨w0,w1⟩,⟨t0,t1⟩,rfl,fun H2 T2 A2 B2 M2 st j2 aw2 so2 vA mk2 x2=>?_⟩;walk_at "ev";exact ⟨T2,A2,B2,M2,_,_,rfl,⟨st.wt,j2,aw2,so2,vA,mk2,x2⟩,f1.st st⟩
  ·rintro σ Hx ⟨T,A,B,M,v9,v10,rfl,l,f⟩;rw [bh] at l;walk_at "ev";exact ⟨_,_,_,rfl,T,A,B,M,w,t,ns,2 * zs.length + zs2.length,lg,l.wt,l.j,l.a,l.s,l.e,l.m,l.x,by omega,hsl,fun H'=>h H'⟩
end
def top (i:Nat):Stmt:=PySem.Challenge.pw_greywalk_k22_what_is_told.main.body.getD i (.Pass ⟨0,0,0,0⟩)
abbrev qX:Stmt:=inClass (top 8) 0
abbrev wH:Stmt:=inClass (top 8) 1
abbrev pO:Stmt:=inClass (top 8) 2
abbrev qU:Stmt:=inClass (top 9) 0
abbrev uf:Stmt:=inClass (top 9) 1
abbrev Bw:Stmt:=inClass (top 9) 2
abbrev yN:Stmt:=inClass (top 9) 4
abbrev wF:Stmt:=inClass (top 9) 5
abbrev GP:Stmt:=top 10
abbrev Bu:Stmt:=top 11
abbrev Mq:Stmt:=top 15
abbrev nY:Stmt:=inClass (top 16) 2
abbrev wG:Stmt:=inClass (top 17) 0
abbrev pN:Stmt:=inClass (top 17) 2
abbrev yO:Stmt:=inClass (top 18) 0
abbrev yM:Stmt:=inClass (top 19) 0
abbrev qT:Stmt:=inClass (top 20) 0
abbrev wD:Stmt:=inClass (top 20) 2
abbrev Gv:Stmt:=top 21
abbrev qW:Stmt:=inClass (top 23) 0
abbrev nW:Stmt:=inClass (top 24) 0
abbrev pM:Stmt:=inClass (top 25) 0
abbrev uL:Stmt:=top 26
abbrev yF:Stmt:=top 27
abbrev yC:Stmt:=top 28
abbrev yD:Stmt:=top 29
abbrev Gu:Stmt:=top 30
abbrev wg:Stmt:=top 31
abbrev yz:Stmt:=top 32
abbrev Uh:Stmt:=top 33
abbrev Za2:Stmt:=top 34
abbrev Bs:Stmt:=top 35
abbrev Za3:Stmt:=top 36
abbrev Br:Stmt:=top 38
abbrev GK:Stmt:=top 39
abbrev yE:Stmt:=top 40
abbrev uI:Stmt:=top 41
abbrev uJ:Stmt:=top 42
abbrev Gz:Stmt:=top 43
abbrev Mp:Stmt:=top 44
abbrev Mm:Stmt:=top 45
abbrev GJ:Stmt:=top 46
abbrev GF:Stmt:=top 47
abbrev GD:Stmt:=top 48
abbrev Bt:Stmt:=top 49
abbrev Gx:Stmt:=top 50
abbrev Gy:Stmt:=top 51
abbrev Gw:Stmt:=top 52
abbrev uK:Stmt:=top 53
abbrev Zmt:Stmt:=top 55
abbrev Bv:Stmt:=top 57
abbrev sZ:Stmt:=top 58
abbrev yK:Stmt:=top 59
abbrev wB:Stmt:=top 60
abbrev ue:Stmt:=top 61
abbrev wz:Stmt:=top 62
abbrev qQ:Stmt:=top 63
abbrev sY:Stmt:=top 64
abbrev wC:Stmt:=top 65
abbrev wu:Stmt:=top 66
abbrev yJ:Stmt:=top 67
abbrev yL:Stmt:=top 68
abbrev wj:Stmt:=top 69
abbrev yH:Stmt:=top 70
abbrev qR:Stmt:=top 71
abbrev wA:Stmt:=top 72
abbrev yG:Stmt:=top 73
abbrev yI:Stmt:=top 74
abbrev uM:Stmt:=top 75
abbrev Ml:Stmt:=top 76
structure Hh (P:Program) (w:World) (K:aG) (mg:Str→Option Value) (base:Heap) (n:Nat) (f:Addr) (fd:FuncData) (ps:List Str) (sp:Sp):Prop where
 g:qP P w K mg base (G.Kv P w) n f fd ps sp
 b:Binds K fd ps []
 k:PySem.W.keepIn K (.ref f)=true
theorem hh {P:Program}{w:World}{K:aG}{mg:Str→Option Value}{base:Heap}{n:Nat}{f:Addr}{fd:FuncData}{ps:List Str}{sp:Sp} (g:qP P w K mg base (G.Kv P w) n f fd ps sp) (b:Binds K fd ps []) (k:PySem.W.keepIn K (.ref f)=true):Hh P w K mg base n f fd ps sp:=⟨g,b,k⟩
abbrev mQ (P:Program) (w:World) (K:aG) (mg:Str→Option Value) (base:Heap) (n:Nat) (f:Addr) (fd:FuncData) (ps:List Str) (sp:Sp):Prop:=qP P w K mg base (G.Kv P w) n f fd ps sp
theorem jZ {X:Cx}{n k:Nat}{f:Addr}{fd:FuncData}{ps:List Str}{sp:Sp}{x:Str}{e:Expr}{es:List Expr}{t:TA}{p pos:Pos} (g0:Hh X.prog X.w X.K X.mg X.base n f fd ps sp) (hr:Room k X.A) (hm:X.mg x=some (.ref f)) (ha:PA X (e :: es) t) (hn:n≤k:=by decide) (hg:X.env.kindOf x=some .globalImplicit:=by rfl) (hdb:(x == ("__debug__":Str))=false:=by decide) (he:starEach (e :: es) X.env=(false,eval e X.env) :: starEach es X.env:=by rfl) (hpl:(backTo pos (starEach es X.env)).any (·.1)=false:=by rfl):PE X (.Call (.Name x p) (e :: es) [] pos) (bz sp [] E0 t):=qj g0.g (hr.mono hn) hg hm g0.k g0.b .nil G.jD ha hdb he hpl
theorem dX {N P:List Str}{sc:Scope} (a:sc.kind=.function:=by rfl) (b:sc.isCoroutine=false:=by rfl) (c:sc.isGenerator=false:=by rfl) (d:N.Nodup:=by decide +kernel) (e:N.take P.length=P:=by rfl) (f:∀ x∈P,sc.names.lookup x=some .local∨sc.names.lookup x=some .cell:=by decide +kernel) (g:∀ y∈sc.names,y.2≠.free:=by decide +kernel):aU N P sc:=⟨a,b,c,d,e,f,g⟩
structure Txt (w:World) (K:aG) (mg:Str→Option Value) (bF bC fC ir iJ iK jP bD dZ aF aP bH aV cQ fX cU cN gB ju ie fV jl dO m9 bJ fW cT ig gZ cM fU lF cP cu cG fL gY iT gA lE gJ iR qy vp iw vq dB jk gW fJ eO gh iB iz gq gn gj d9 fZ gf fY fK QV fc eV iZ gQ dR gO dU eU gR gM iY je gK iV dW gP iU iW fM:Addr):Prop where
 RB:G.Tab K w mg "DEEDS" [("make",gh),("get",iB),("put",iz),("copy",gq),("drop",gn),("give",gj),("write",d9),("read",fZ),("name",gf),("seek",fY)]
 dz:Bo K bF
 Zh7:mg "Cell"=some (.ref bF)
 KQ:Mk K bF cQ
 eX:bG K bF "birth"
 kJ:bG K bF "bulk"
 kE:bG K bF "tone"
 iM:bG K bF "load"
 fH:bG K bF "fields"
 KY:G.EqD K bF
 dH:Bo K bC
 Zh4:mg "Heap"=some (.ref bC)
 KJ:Mk K bC cN
 lX:bG K bC "room"
 cH:bG K bC "cells"
 jK:bG K bC "used"
 kj:bG K bC "born"
 Ob:Bo K fC
 Zco:mg "First"=some (.ref fC)
 RP:G.Mk0 K fC
 Wl:Bo K ir
 Zh6:mg "Each"=some (.ref ir)
 Yb:G.Mk0 K ir
 Wi:Bo K iJ
 Zh2:mg "Last"=some (.ref iJ)
 X8:G.Mk0 K iJ
 Wj:Bo K iK
 Zh3:mg "Kind"=some (.ref iK)
 KH:Mk K iK cM
 pC:bG K iK "looking"
 rR:bG K iK "tells"
 Zd2:Bo K jP
 Zh5:mg "Hand"=some (.ref jP)
 KN:Mk K jP cP
 uq:bG K jP "name"
 rT:bG K jP "slots"
 Oa:Bo K bD
 RV:mg "Sweeper"=some (.ref bD)
 xK:Mk K bD cu
 nM:bG K bD "sense"
 nO:bG K bD "phase"
 pB:bG K bD "grey"
 mO:bG K bD "looked"
 o9:bG K bD "turn"
 rQ:bG K bD "at"
 pq:bG K bD "stop"
 nJ:bG K bD "walks"
 nP:bG K bD "looks"
 mL:bG K bD "passes"
 pA:bG K bD "loss"
 Y5:Bo K dZ
 Zcn:mg "World"=some (.ref dZ)
 DG:Mk K dZ cG
 rP:bG K dZ "heap"
 rO:bG K dZ "kind"
 qw:bG K dZ "hands"
 qt:bG K dZ "names"
 nH:bG K dZ "sweeper"
 zH:mg "EmptySlot"=some (.ref aF)
 Ib:mg "NoField"=some (.ref aP)
 Zax:mg "Full"=some (.ref bH)
 Nb:mg "NoName"=some (.ref aV)
 uc:G.Ziw K aF
 SX:G.Ziw K bH
 zZ:G.Ziw K aP
 Cy:G.Ziw K aV
 jB:PySem.W.exmOne K (.ref aF) (.ref aF)=some true
 uy:PySem.W.exmOne K (.ref bH) (.ref bH)=some true
 lO:PySem.W.exmOne K (.ref aP) (.ref aP)=some true
 nQ:PySem.W.exmOne K (.ref aV) (.ref aV)=some true
 lN:PySem.W.exmOne K (.ref bH) (.ref aF)=some false
 nG:PySem.W.exmOne K (.ref bH) (.ref aP)=some false
 jJ:PySem.W.exmOne K (.ref aP) (.ref aF)=some false
 jU:PySem.W.exmOne K (.ref aV) (.ref aF)=some false
 o8:PySem.W.exmOne K (.ref aV) (.ref bH)=some false
 lM:PySem.W.exmOne K (.ref aV) (.ref aP)=some false
 vL:Meth K ir "at_begin" bJ
 vK:Meth K iJ "at_begin" bJ
 Ia:Meth K bF "__init__" cQ
 vh:Meth K bF "units" fX
 uv:Meth K bF "has_field" cU
 HX:Meth K bC "__init__" cN
 DP:Meth K bC "make" gB
 JC:Meth K bC "lay" ju
 DQ:Meth K bC "free" ie
 Bb:Meth K bC "there" fV
 vN:mg "cell_at"=some (.ref jl)
 lq:mg "birth_at"=some (.ref dO)
 Yg:mg "all_of"=some (.ref m9)
 Ak:Meth K ir "at_begin" bJ
 Bc:Meth K fC "word" fW
 ur:Meth K fC "at_begin" cT
 DR:Meth K ir "word" ig
 DN:Meth K iJ "word" gZ
 HW:Meth K iK "__init__" cM
 Ba:Meth K iK "words" fU
 RT:mg "kind_of"=some (.ref lF)
 HY:Meth K jP "__init__" cP
 Aj:Meth K bD "__init__" cu
 DK:Meth K dZ "__init__" cG
 Bf:mg "births_held"=some (.ref fL)
 zE:mg "births_at"=some (.ref gY)
 JF:mg "looked_at"=some (.ref iT)
 uw:mg "has_sense"=some (.ref gA)
 RQ:mg "mark_of"=some (.ref lE)
 DX:mg "told_cells"=some (.ref gJ)
 JD:mg "told_cell"=some (.ref iR)
 Zcm:mg "begin"=some (.ref qy)
 Zgy:mg "note"=some (.ref vp)
 xM:mg "note_all"=some (.ref iw)
 Zgz:mg "gone"=some (.ref vq)
 jr:mg "slots_of"=some (.ref dB)
 vM:mg "cell_in"=some (.ref jk)
 zB:mg "fields_in"=some (.ref gW)
 Bd:mg "told_as_old"=some (.ref fJ)
 vm:mg "told_as_new"=some (.ref eO)
 Zee:mg "do_make"=some (.ref gh)
 Zh1:mg "do_get"=some (.ref iB)
 Zh0:mg "do_put"=some (.ref iz)
 Zeh:mg "do_copy"=some (.ref gq)
 Zeg:mg "do_drop"=some (.ref gn)
 Zef:mg "do_give"=some (.ref gj)
 Zaw:mg "do_write"=some (.ref d9)
 Zec:mg "do_read"=some (.ref fZ)
 Zed:mg "do_name"=some (.ref gf)
 Zeb:mg "do_seek"=some (.ref fY)
 Be:mg "place_named"=some (.ref fK)
 Zq2:mg "do"=some (.ref QV)
 fQ:mg "_law_mix"=some (.ref fc)
 lZ:mg "_law_cell_at"=some (.ref eV)
 JL:mg "_law_kind"=some (.ref iZ)
 Ed:mg "_law_names"=some (.ref gQ)
 kO:mg "_law_same"=some (.ref dR)
 Eb:mg "_law_store"=some (.ref gO)
 xY:mg "_law_due_word"=some (.ref dU)
 zG:mg "_law_made_in"=some (.ref eU)
 Ef:mg "_law_moved"=some (.ref gR)
 Ea:mg "_law_thing"=some (.ref gM)
 JK:mg "_law_load"=some (.ref iY)
 JM:mg "_law_deed"=some (.ref je)
 DY:mg "_law_tried"=some (.ref gK)
 JG:mg "_law_said"=some (.ref iV)
 xZ:mg "_law_asked_of"=some (.ref dW)
 Ec:mg "_law_noted"=some (.ref gP)
 zF:mg "_law_turn"=some (.ref iU)
 JH:mg "_law_pair"=some (.ref iW)
 Bg:mg "_law_stands"=some (.ref fM)
 Li:mg "bool"=none
 Lh:mg "int"=none
 bW:mg "isinstance"=none
 kh:mg "len"=none
 yq:mg "list"=none
 oN:mg "range"=none
 Lg:mg "str"=none
 vY:mg "tuple"=none
 Zi1:G.GC mg "NEW" (.int 2)
 Zi0:G.GC mg "OLD" (.int 1)
abbrev rF:List Str:=["self","birth","many","bulk","tone"]
abbrev p6:List Str:=["self","field"]
abbrev rD:List Str:=["self","room"]
abbrev zq:List Str:=["self","many","bulk","tone"]
abbrev Ck:List Str:=["self","cell"]
abbrev sJ:List Str:=["heap","place"]
abbrev jM:List Str:=["heap","place"]
abbrev nZ:List Str:=["self","hands"]
abbrev pZ:List Str:=["self","hands"]
abbrev rC:List Str:=["self","looking","tells"]
abbrev rE:List Str:=["self","name","many"]
abbrev pY:List Str:=["self","room","kind","hands"]
abbrev uo:List Str:=["heap","places"]
abbrev za:List Str:=["world","hand"]
abbrev qJ:List Str:=["world","cell"]
abbrev Hi:List Str:=["world","place"]
abbrev yZ:List Str:=["world","place"]
abbrev Zac:List Str:=["world","place"]
abbrev tL:List Str:=["world","places"]
abbrev Zad:List Str:=["world","place","birth"]
abbrev jq:List Str:=["world","hand"]
abbrev sI:List Str:=["world","hand","slot"]
abbrev um:List Str:=["world","hand","slot","field"]
abbrev u9:List Str:=["world","place"]
abbrev qm:List Str:=["world","hand","place"]
abbrev Hq:List Str:=["world","deed"]
abbrev My:List Str:=["world","deed"]
abbrev Mx:List Str:=["world","deed"]
abbrev Ht:List Str:=["world","deed"]
abbrev Hs:List Str:=["world","deed"]
abbrev Hr:List Str:=["world","deed"]
abbrev Cj:List Str:=["world","deed"]
abbrev Hl:List Str:=["world","deed"]
abbrev Ho:List Str:=["world","deed"]
abbrev Hj:List Str:=["world","deed"]
abbrev vd:List Str:=["world","word"]
abbrev Zn2:List Str:=["world","deed"]
abbrev lW:List Str:=["_law_cell","_law_factor"]
abbrev tO:List Str:=["_law_script","_law_k"]
abbrev zm:List Str:=["_law_cell"]
abbrev xx:List Str:=["_law_cell","_law_many"]
abbrev qK:List Str:=["_law_found","_law_due"]
abbrev xr:List Str:=["_law_room","_law_slots"]
abbrev rA:List Str:=["_law_store_here","_law_deed_here"]
abbrev tM:List Str:=["_law_store_here","_law_deed_here"]
abbrev xF:List Str:=["_law_store_here","_law_deed_here"]
abbrev xq:List Str:=["_law_store_here","_law_deed_here"]
abbrev zj:List Str:=["_law_cell"]
abbrev zp:List Str:=["_law_cell","_law_slots","_law_words"]
abbrev xm:List Str:=["_law_world","_law_deed_here"]
abbrev zf:List Str:=["_law_word"]
abbrev rB:List Str:=["_law_store_here","_law_deed_here","_law_kind_here","_law_looked"]
abbrev xu:List Str:=["_law_marks","_law_grey","_law_births"]
abbrev zb:List Str:=["_law_world","_law_store_here","_law_marks","_law_grey","_law_kind_here","_law_deed_here"]
abbrev zg:List Str:=["_law_cell","_law_slots"]
abbrev vf:List Str:=["_law_world","_law_store_here","_law_marks"]
theorem Gs:aU ["self","birth","many","bulk","tone"] rF (aJ qX):=dX
theorem Pq:aU ["self"] ["self"] (aJ wH):=dX
theorem Dg:aU ["self","field"] p6 (aJ pO):=dX
theorem Gq:aU ["self","room"] rD (aJ qU):=dX
theorem Ud:aU ["self","many","bulk","tone","cell"] zq (aJ uf):=dX
theorem Xu:aU ["self","cell","place"] Ck (aJ Bw):=dX
theorem Ue:aU ["self"] ["self"] (aJ yN):=dX
theorem Pk:aU ["self"] ["self"] (aJ wF):=dX
theorem Za0:aU ["heap","place"] sJ (aJ GP):=dX
theorem Xq:aU ["heap","place","cell"] jM (aJ Bu):=dX
theorem Zdr:aU ["hands"] ["hands"] (aJ Mq):=dX
theorem Ag:aU ["self","hands"] nZ (aJ nY):=dX
theorem Pn:aU ["self"] ["self"] (aJ wG):=dX
theorem Df:aU ["self","hands"] pZ (aJ pN):=dX
theorem Ug:aU ["self"] ["self"] (aJ yO):=dX
theorem Uc:aU ["self"] ["self"] (aJ yM):=dX
theorem Gp:aU ["self","looking","tells"] rC (aJ qT):=dX
theorem Pj:aU ["self","text"] ["self"] (aJ wD):=dX
theorem Z1:aU ["text","looking","tells","kind"] ["text"] (aJ Gv):=dX
theorem Gr:aU ["self","name","many"] rE (aJ qW):=dX
theorem Af:aU ["self"] ["self"] (aJ nW):=dX
theorem De:aU ["self","room","kind","hands"] pY (aJ pM):=dX
theorem Mi:aU ["world"] ["world"] (aJ uL):=dX
theorem TQ:aU ["heap","places"] uo (aJ yF):=dX
theorem Tz:aU ["world","hand"] za (aJ yC):=dX
theorem TF:aU ["world","cell"] qJ (aJ yD):=dX
theorem Z0:aU ["world","place","sweeper","toned"] Hi (aJ Gu):=dX
theorem O7:aU ["world"] ["world"] (aJ wg):=dX
theorem Tv:aU ["world","place","cell","fields"] yZ (aJ yz):=dX
theorem Zfr:aU ["world","sweeper"] ["world"] (aJ Uh):=dX
theorem Zjb:aU ["world","place","sweeper","cell"] Zac (aJ Za2):=dX
theorem Xo:aU ["world","places","births","place","birth"] tL (aJ Bs):=dX
theorem Zjc:aU ["world","place","birth","cell"] Zad (aJ Za3):=dX
theorem Xn:aU ["world","hand"] jq (aJ Br):=dX
theorem Z9:aU ["world","hand","slot","cell"] sI (aJ GK):=dX
theorem TJ:aU ["world","hand","slot","field","cell"] um (aJ yE):=dX
theorem Mf:aU ["world","place"] u9 (aJ uI):=dX
theorem Mg:aU ["world","hand","place"] qm (aJ uJ):=dX
theorem Z5:aU ["world","deed","slots","many","bulk","place"] Hq (aJ Gz):=dX
theorem Zdq:aU ["world","deed","hand","source","field","place"] My (aJ Mp):=dX
theorem Zdp:aU ["world","deed","hand","field","fields","old","new","noted"] Mx (aJ Mm):=dX
theorem Z8:aU ["world","deed","slots","place"] Ht (aJ GJ):=dX
theorem Z7:aU ["world","deed","slots","place"] Hs (aJ GF):=dX
theorem Z6:aU ["world","deed","giver","taker","place","noted"] Hr (aJ GD):=dX
theorem Xp:aU ["world","deed","cell","before"] Cj (aJ Bt):=dX
theorem Z3:aU ["world","deed","cell"] Hl (aJ Gx):=dX
theorem Z4:aU ["world","deed","hand","slot","birth"] Ho (aJ Gy):=dX
theorem Z2:aU ["world","deed","place","noted"] Hj (aJ Gw):=dX
theorem Mh:aU ["world","word","place","birth"] vd (aJ uK):=dX
theorem Zpr:aU ["world","deed","act"] Zn2 (aJ Zmt):=dX
theorem Xr:aU ["_law_cell","_law_factor","_law_mixed"] lW (aJ Bv):=dX
theorem Kd:aU ["_law_script","_law_k"] tO (aJ sZ):=dX
theorem Ua:aU ["_law_cell","_law_word"] zm (aJ yK):=dX
theorem Pg:aU ["_law_cell","_law_many","_law_letters","_law_size","_law_word","_law_k","_law_at","_law_start","_law_words","_law_one"] xx (aJ wB):=dX
theorem Dd:aU ["_law_found","_law_due","_law_k"] qK (aJ ue):=dX
theorem Pa:aU ["_law_room","_law_slots"] xr (aJ wz):=dX
theorem Gm:aU ["_law_store_here","_law_deed_here","_law_word","_law_at","_law_birth"] rA (aJ qQ):=dX
theorem Kc:aU ["_law_store_here","_law_deed_here","_law_units"] tM (aJ sY):=dX
theorem Ph:aU ["_law_store_here","_law_deed_here","_law_row","_law_old"] xF (aJ wC):=dX
theorem O9:aU ["_law_store_here","_law_deed_here","_law_word","_law_row","_law_birth","_law_one","_law_old"] xq (aJ wu):=dX
theorem T7:aU ["_law_cell","_law_load_here"] zj (aJ yJ):=dX
theorem Ub:aU ["_law_cell","_law_slots","_law_words","_law_one","_law_two","_law_tri","_law_h","_law_s","_law_t","_law_f","_law_what","_law_bulk","_law_g"] zp (aJ yL):=dX
theorem O8:aU ["_law_world","_law_deed_here","_law_event","_law_word"] xm (aJ wj):=dX
theorem TX:aU ["_law_word","_law_words"] zf (aJ yH):=dX
theorem Gn:aU ["_law_store_here","_law_deed_here","_law_kind_here","_law_looked","_law_word","_law_row","_law_births"] rB (aJ qR):=dX
theorem Pb:aU ["_law_marks","_law_grey","_law_births","_law_new","_law_birth"] xu (aJ wA):=dX
theorem TV:aU ["_law_world","_law_store_here","_law_marks","_law_grey","_law_kind_here","_law_deed_here","_law_word","_law_event","_law_births","_law_thing_here"] zb (aJ yG):=dX
theorem TY:aU ["_law_cell","_law_slots","_law_one","_law_two","_law_h","_law_put"] zg (aJ yI):=dX
theorem Mj:aU ["_law_world","_law_store_here","_law_marks","_law_due","_law_cells","_law_birth","_law_one"] vf (aJ uM):=dX
theorem Zms:aU ["_law_script","_law_kind_here","_law_count","_law_slots","_law_words","_law_world","_law_store_here","_law_marks","_law_grey","_law_cell","_law_deed_here"] ["_law_script"] (aJ Ml):=dX
section
variable {X:Cx}
theorem dj {a b:Expr}{ta tb:TE}{pos:Pos}{r:R2} (hr:IxR X r) (ha:PE X a ta) (hb:PE X b tb) (hs:Le b:=by exact fun _ _=>rfl):PE X (.Subscript a b pos) (aY r ta tb):=Zgc hr ha hb hs
theorem xW {o i:Expr}{td ty:TE}{pos:Pos}{k:Nat} (hr:Room k X.A) (ho:PE X o td) (hi:PE X i ty) (hs:Zly i:=by exact fun _ _=>rfl):PE X (.Subscript o i pos) (fu td ty):=Zk6 (vQ hr) ho hi hs
theorem lQ {a b:Expr}{ta tb:TE}{pos:Pos}{op:CmpOp}{r:R2} (ho:ym X (compareOp op) r) (ha:PE X a ta) (hb:PE X b tb) (hm:behindInMarks op b=false:=by exact ou _):PT X (.Compare a [op] [b] pos) (bR (aY r ta tb)):=Zjm ho ha hb hm
theorem gD (i:Nat) {x:Str}{e:Expr}{te:TE}{pos' pos:Pos} (hN:X.N.Nodup) (he:PE X e te) (hi:X.N[i]? =some x:=by rfl) (hx:Loc X.env.scope x:=by exact Or.inl rfl) (hs:swapsWith e (some (.Name x pos')) pos.line X.env=pure false:=by rfl) (hf:X.fn x=true∨X.env.scope.names.lookup x=some .local:=by first | exact .inl rfl | exact .inr rfl | assumption):PS X (.Assign [.Name x pos'] e pos) (bB te (aO i)):=Uq hN hi hx he hs hf
end
structure PAw (X:Cx) (es:List Expr) (t:TA):Prop where
 h:PA X es t
structure PSw (X:Cx) (st:List Stmt) (t:TS):Prop where
 h:SQ X st t
structure PPw (X:Cx) (pos:Pos) (keys:List (Option Expr)) (values:List Expr) (Xg:List (TE×TE)):Prop where
 h:PPs X pos keys values Xg
structure PEw (X:Cx) (e:Expr) (t:TE):Prop where
 h:PE X e t
section
variable {X:Cx}
theorem nF {z k p}:PEw X (.Constant (.str z) k p) (tC (.str z)):=⟨aH⟩
theorem Zjp {pos:Pos}:PPw X pos [] [] []:=⟨Ur⟩
theorem vJ {pos:Pos}{k v:Expr}{keys:List (Option Expr)}{values:List Expr}{tk tv:TE}{Xg:List (TE×TE)} (hk:PEw X k tk) (hv:PEw X v tv) (h:PPw X pos keys values Xg):PPw X pos (some k :: keys) (v :: values) ((tk,tv) :: Xg):=⟨lV hk.h hv.h h.h⟩
theorem KD:PAw X [] aL:=⟨az⟩
theorem cX {e es te t} (ha:PE X e te) (hr:PAw X es t) (hs:starEach (e :: es) X.env=(false,eval e X.env) :: starEach es X.env:=by rfl):PAw X (e :: es) (ak te t):=⟨aa ha hr.h hs⟩
theorem Zk7 {b es fs tb t u p q} (h:PAw X es t) (hb:PE X b tb) (hp:Le b) (hr:PAw X fs u) (hs:starEach (.Subscript (.List es p) b q :: fs) X.env=(false,eval (.Subscript (.List es p) b q) X.env) :: starEach fs X.env:=by rfl):PAw X (.Subscript (.List es p) b q :: fs) (ak (aY (d7 X.K) (jR t) tb) u):=⟨aa (Zgc bf (dJ h.h) hb hp) hr.h hs⟩
theorem Zjn:PSw X [] bT:=⟨aQ⟩
theorem iy {st rest t u} (h1:PS X st t) (h2:PSw X rest u):PSw X (st :: rest) (aK t u):=⟨ao h1 h2.h⟩
theorem Zch {st t} (h1:PS X st t):PSw X [st] t:=⟨aC h1⟩
theorem Zmx {c a b tc t u rest v pos} (hc:PT X c tc) (ha:PSw X a t) (hb:PSw X b u) (h2:PSw X rest v):PSw X (.If c a b pos :: rest) (aK (cZ tc t u) v):=⟨ao (bQ hc ha.h hb.h) h2.h⟩
theorem Zg2 {es t x1 p pos} (h:PAw X es t):PSw X [.Return (some (.Tuple es x1 p)) pos] (bI (lG t)):=⟨aC (aM (eY h.h))⟩
theorem Zci {i:Nat}{x:Str}{es t b tb p q pos' pos rest u} (hN:X.N.Nodup) (hi:X.N[i]? =some x) (hx:Loc X.env.scope x) (h:PAw X es t) (hb:PE X b tb) (hp:Le b) (h2:PSw X rest u) (hs:swapsWith (.Subscript (.List es p) b q) (some (.Name x pos')) pos.line X.env=pure false:=by rfl) (hf:X.fn x=true∨X.env.scope.names.lookup x=some .local:=by first | exact .inl rfl | exact .inr rfl | assumption):PSw X (.Assign [.Name x pos'] (.Subscript (.List es p) b q) pos :: rest) (aK (bB (aY (d7 X.K) (jR t) tb) (aO i)) u):=⟨ao (Uq hN hi hx (Zgc bf (dJ h.h) hb hp) hs hf) h2.h⟩
theorem Zg3 {i:Nat}{x:Str}{keys values Xg p pos' pos rest u} (hN:X.N.Nodup) (hi:X.N[i]? =some x) (hx:Loc X.env.scope x) (h:PPw X p keys values Xg) (a1:keys.all (·.isSome)=true) (a2:keys.length=values.length) (a3:keys≠[]) (a4:keys.length≤15) (h2:PSw X rest u) (hf:X.fn x=true∨X.env.scope.names.lookup x=some .local:=by first | exact .inl rfl | exact .inr rfl | assumption):PSw X (.Assign [.Name x pos'] (.Dict keys values p) pos :: rest) (aK (bB (Xh Xg) (aO i)) u):=⟨ao (Uq hN hi hx (Ut h.h a1 a2 a3 a4) rfl hf) h2.h⟩
end
open PySem.Spec PyProof.Rows in
theorem Zzd {P:Program}{w:World}{K:aG}{mg:Str→Option Value}{base:Heap}{x qual:Str}{st:Stmt}{f:Addr}{fd:FuncData}{N ps:List Str}{sp:Sp}{k:Nat} (F:jY K x qual st f fd) (S:aU N ps (aJ st)) (len:∀ vs H Q E,sp vs H Q E→vs.length=ps.length)
  (hbody:∀ (cdv:Value) (A:Around) (outer:List Env) (s:Shared) (H:Hp) (vs:List V) (Q:VK) (E:XK),Room k (A.deeper (envOfC qual (aJ st) s.heap.objs.size f cdv))→sp vs H Q E→
   ∃ t,PSw (Jf (Kv P w) P w K mg base N qual (aJ st) f cdv A outer s H E).nox (iI st) t∧t { nx:=fun _ H'=>Q .non H',rt:=Q } (start N vs) H):qP P w K mg base (Kv P w) (k + 1) f fd ps sp:=
 G.fok F S len fun cdv A outer s H vs Q E hr h=>let ⟨t,p,q⟩:=hbody cdv A outer s H vs Q E hr h;⟨t,p.h,q⟩
set_option hygiene false in
local macro_rules | `(tactic| walk_at "ok")=>`(tactic| (refine G.fok F sc (fun vs H Q E h=>?_) (fun cdv A outer s H vs Q E hr h=>?_);· (first | (obtain ⟨_,rfl,_⟩:=h;rfl) | (obtain ⟨_,_,rfl,_⟩:=h;rfl) | (obtain ⟨_,_,_,rfl,_⟩:=h;rfl) | (obtain ⟨_,_,_,_,rfl,_⟩:=h;rfl) | (obtain ⟨_,_,_,_,_,rfl,_⟩:=h;rfl) | (obtain ⟨_,_,_,_,_,_,rfl,_⟩:=h;rfl) | (obtain ⟨_,_,_,_,_,_,_,rfl,_⟩:=h;rfl))))
set_option hygiene false in
local macro_rules | `(tactic| walk_at "okw")=>`(tactic| (refine Zzd F sc (fun vs H Q E h=>?_) (fun cdv A outer s H vs Q E hr h=>?_);· (first | (obtain ⟨_,rfl,_⟩:=h;rfl) | (obtain ⟨_,_,rfl,_⟩:=h;rfl) | (obtain ⟨_,_,_,rfl,_⟩:=h;rfl) | (obtain ⟨_,_,_,_,rfl,_⟩:=h;rfl) | (obtain ⟨_,_,_,_,_,rfl,_⟩:=h;rfl) | (obtain ⟨_,_,_,_,_,_,rfl,_⟩:=h;rfl) | (obtain ⟨_,_,_,_,_,_,_,rfl,_⟩:=h;rfl))))
set_option hygiene false in
local macro_rules | `(tactic| walk_at "okX")=>`(tactic| (refine G.Zze F sc (fun vs H Q E h=>?_) (fun cdv A outer s H vs Q E hr h=>?_);· (first | (obtain ⟨_,rfl,_⟩:=h;rfl) | (obtain ⟨_,_,rfl,_⟩:=h;rfl) | (obtain ⟨_,_,_,rfl,_⟩:=h;rfl) | (obtain ⟨_,_,_,_,rfl,_⟩:=h;rfl) | (obtain ⟨_,_,_,_,_,rfl,_⟩:=h;rfl) | (obtain ⟨_,_,_,_,_,_,rfl,_⟩:=h;rfl) | (obtain ⟨_,_,_,_,_,_,_,rfl,_⟩:=h;rfl))))
set_option hygiene false in
local macro_rules | `(tactic| walk_at "okDX")=>`(tactic| (refine G.Zr9 F sc (fun vs H Q E h=>?_) (fun cdv A outer s H vs Q E hr h=>?_);· (first | (obtain ⟨_,rfl,_⟩:=h;rfl) | (obtain ⟨_,_,rfl,_⟩:=h;rfl) | (obtain ⟨_,_,_,rfl,_⟩:=h;rfl) | (obtain ⟨_,_,_,_,rfl,_⟩:=h;rfl) | (obtain ⟨_,_,_,_,_,rfl,_⟩:=h;rfl) | (obtain ⟨_,_,_,_,_,_,rfl,_⟩:=h;rfl) | (obtain ⟨_,_,_,_,_,_,_,rfl,_⟩:=h;rfl))))
section
variable (P:Program) {w:World}{K:aG}{mg:Str→Option Value} (base:Heap) {aF aP bH aV cQ fX cU cN gB ju ie fV jl dO m9 bJ fW cT ig gZ cM fU lF cP cu cG fL gY iT gA lE gJ iR qy vp iw vq dB jk gW fJ eO gh iB iz gq gn gj d9 fZ gf fY fK QV fc eV iZ gQ dR gO dU eU gR gM iY je gK iV dW gP iU iW fM:Addr} (XQ:Cs) (T:Txt w K mg XQ.C XQ.H XQ.F XQ.E XQ.L XQ.K XQ.D XQ.S XQ.W aF aP bH aV cQ fX cU cN gB ju ie fV jl dO m9 bJ fW cT ig gZ cM fU lF cP cu cG fL gY iT gA lE gJ iR qy vp iw vq dB jk gW fJ eO gh iB iz gq gn gj d9 fZ gf fY fK QV fc eV iZ gQ dR gO dU eU gR gM iY je gK iV dW gP iU iW fM)
include T
theorem sG:vB K XQ:=⟨⟨T.dz,T.eX,T.kJ,T.kE,T.iM,T.fH,T.dH,T.lX,T.cH,T.jK,T.kj,T.KY⟩,T.Y5,T.rP,T.rO,T.qw,T.qt,T.nH,T.Zd2,T.uq,T.rT,T.Wj,T.pC,T.rR,T.Oa,T.nM,T.nO,T.pB,T.mO,T.o9,T.rQ,T.pq,T.nJ,T.nP,T.mL,T.pA⟩
theorem HJ {fd:FuncData} (F:jY K "__init__" "Cell.__init__" qX cQ fd):mQ P w K mg base 1 cQ fd rF (uH XQ.C):=by
 have sc:=Gs;have tx:=sG _ T;walk_at "ok"
 ·refine ⟨pX K,(ao (cR (pv 0) (pv 1) rfl)
   (ao (cR (pv 0) (pv 3) rfl)
   (ao (cR (pv 0) (pv 4) rfl)
   (ao (cR (pv 0) (au) rfl)
   (aC (cR (pv 0) (bw Uu (dJ (aa (gF) az)) (pv 2)) rfl)))))),?_⟩
  obtain ⟨z0,z1,z2,z3,z4,rfl,q⟩:=h;exact Jx tx.c q
theorem P0 {fd:FuncData} (F:jY K "units" "Cell.units" wH fX fd):mQ P w K mg base 1 fX fd ["self"] (su XQ.C):=by
 have sc:=Pq;have tx:=sG _ T;walk_at "ok"
 ·refine ⟨uY K,(aC (aM (bw jN (bw jN (au) (bL G.cV (by rfl) T.kh G.boot_len (aa (aW (pv 0) rfl) az))) (aW (pv 0) rfl)))),?_⟩;obtain ⟨z0,rfl,q⟩:=h;exact Rh tx.c q
theorem Dt {fd:FuncData} (F:jY K "has_field" "Cell.has_field" pO cU fd):mQ P w K mg base 1 cU fd p6 (uB XQ):=by
 have sc:=Dg;have tx:=sG _ T;walk_at "ok"
 ·refine ⟨oY K,(aC (aM (Zgd Zpy RN (au) (pv 1) (bL G.cV (by rfl) T.kh G.boot_len (aa (aW (pv 0) rfl) az))))),?_⟩;obtain ⟨z0,z1,rfl,q⟩:=h;exact Ft tx q
theorem HF {fd:FuncData} (F:jY K "__init__" "Heap.__init__" qU cN fd):mQ P w K mg base 1 cN fd rD (uE XQ.H):=by
 have sc:=Gq;have tx:=sG _ T;walk_at "ok"
 ·refine ⟨pU K,(ao (cR (pv 0) (pv 1) rfl)
   (ao (cR (pv 0) (dJ az) rfl)
   (ao (cR (pv 0) (au) rfl)
   (aC (cR (pv 0) (au) rfl))))),?_⟩
  obtain ⟨z0,z1,rfl,q⟩:=h;exact Jo tx.c q
theorem U5 {fd:FuncData}{Jc QT We YF:FuncData} (F:G.Zpg K "make" "Heap.make" uf gB fd) (yh:Hh P w K mg base 1 cQ Jc rF (uH XQ.C)) (sE:Hh P w K mg base 1 fX QT ["self"] (su XQ.C)) (J2:Hh P w K mg base 1 ie We ["self"] (uF XQ.H)) (Oq:Hh P w K mg base 1 ju YF Ck (xT K XQ.H)):mQ P w K mg base 3 gB fd zq (uD K XQ.C XQ.H bH):=by
 have sc:=Ud;have tx:=sG _ T;walk_at "okDX"
 ·refine ⟨wY K XQ.C bH XQ.H (uH XQ.C) (su XQ.C) (uF XQ.H) (xT K XQ.H) E,(ao (gD 4 sc.nd (Dm T.KQ yh.g (hr.mono (by decide)) rfl T.Zh7 yh.b .nil G.jD (aa (bw jN (aW (pv 0) rfl) (au)) (aa (pv 1) (aa (pv 2) (aa (pv 3) az))))))
   (ao (bQ (lQ Zm8 (qI (pv 4) T.dz T.vh sE.g (hr.mono (by decide)) sE.b .nil G.jD) (qI (pv 0) T.dH T.DQ J2.g (hr.mono (by decide)) J2.b .nil G.jD)) (aC (G.Dl rfl rfl T.Zax T.SX (aa (aH) az) (fun _ _ _ _ _ _ _ I hx hE=>G.Ul I hx hE))) aQ)
   (ao (cR (pv 0) (aW (pv 4) rfl) rfl)
   (ao (cR (pv 0) (bw jN (aW (pv 0) rfl) (qI (pv 4) T.dz T.vh sE.g (hr.mono (by decide)) sE.b .nil G.jD)) rfl)
   (aC (aM (z6 (pv 0) T.dH T.JC Oq.g (hr.mono (by decide)) Oq.b .nil G.jD (aa (pv 4) az)))))))),?_⟩
  obtain ⟨z0,z1,z2,z3,rfl,q⟩:=h;exact WY tx.c q
theorem XM {fd:FuncData} (F:jY K "lay" "Heap.lay" Bw ju fd):mQ P w K mg base 1 ju fd Ck (xT K XQ.H):=by
 have sc:=Xu;have tx:=sG _ T;walk_at "ok"
 ·refine ⟨yW K,(ao (bQ (lQ (G.Ze1 (vQ hr)) (gF) (aW (pv 0) rfl) (by with_unfolding_all rfl)) (ao (mK (xV PySem.F.plainAttrs_list PySem.F.slot_list_append PySem.F.type_list_append jg (aW (pv 0) rfl) (aa (pv 1) az)))
   (aC (aM (bw zu (bL G.cV (by rfl) T.kh G.boot_len (aa (aW (pv 0) rfl) az)) (au))))) aQ)
   (ao (gD 2 sc.nd (xV PySem.F.plainAttrs_list PySem.F.slot_list_index PySem.F.type_list_index (G.Ze9 (vQ hr)) (aW (pv 0) rfl) (aa (gF) az)))
   (ao (mZ (pv 1) (m5 (aW (pv 0) rfl) (pv 2) set_list))
   (aC (aM (pv 2)))))),?_⟩
  obtain ⟨z0,z1,rfl,q⟩:=h;exact Zc tx.c q
theorem U6 {fd:FuncData} (F:jY K "free" "Heap.free" yN ie fd):mQ P w K mg base 1 ie fd ["self"] (uF XQ.H):=by
 have sc:=Ue;have tx:=sG _ T;walk_at "ok"
 ·refine ⟨wZ K,(aC (aM (bw zu (aW (pv 0) rfl) (aW (pv 0) rfl)))),?_⟩;obtain ⟨z0,rfl,q⟩:=h;exact W0 tx.c q
theorem PN {fd:FuncData} (F:jY K "there" "Heap.there" wF fV fd):mQ P w K mg base 1 fV fd ["self"] (sr XQ.H):=by
 have sc:=Pk;have tx:=sG _ T;walk_at "ok"
 ·refine ⟨uW K,(aC (aM (G.Mw (cns:=["self"]) [0] (oH rfl T.oN (aa (bL G.cV (by rfl) T.kh G.boot_len (aa (aW (pv 0) rfl) az)) az)) (fun _ _ _ _ _=>(G.Zmz (lQ G.Mz (dj bf (aW (pv 1) rfl) (pv 0)) (gF)))) (fun _ _ _ _ _=>(pv 0)) rfl rfl (by repeat (first | exact trivial | refine ⟨rfl,?_⟩)) (by repeat (first | exact trivial | refine ⟨rfl,?_⟩)) rfl (by decide +kernel) rfl (by decide +kernel) (by decide +kernel) rfl (by decide +kernel)))),?_⟩;obtain ⟨z0,rfl,q⟩:=h;exact Q9 tx.c q
theorem Zap {fd:FuncData} (F:jY K "cell_at" "cell_at" GP jl fd):mQ P w K mg base 1 jl fd sJ (jo XQ.H):=by
 have sc:=Za0;have tx:=sG _ T;walk_at "ok"
 ·refine ⟨Ca K,(ao (bQ (PW.pt (RL (lQ G.qp (pv 1) (gF)) (RL (lQ RN (pv 1) (au)) (Um (lQ Zgh (pv 1) (bL G.cV (by rfl) T.kh G.boot_len (aa (aW (pv 0) rfl) az))))))) (aC (aM (gF))) aQ)
   (aC (aM (dj bf (aW (pv 0) rfl) (pv 1))))),?_⟩
  obtain ⟨z0,z1,rfl,q⟩:=h;exact Zc2 tx q
theorem XH {fd:FuncData} (F:jY K "birth_at" "birth_at" Bu dO fd) {oE:FuncData} (qd:Hh P w K mg base 1 jl oE sJ (jo XQ.H)):mQ P w K mg base 2 dO fd jM (cz XQ):=by
 have sc:=Xq;have tx:=sG _ T;walk_at "ok"
 ·refine ⟨yU K (jo XQ.H),(ao (gD 2 sc.nd (jZ qd hr T.vN (aa (pv 0) (aa (pv 1) az))))
   (ao (bQ (lQ G.qp (pv 2) (gF)) (aC (aM (gF))) aQ)
   (aC (aM (aW (pv 2) rfl))))),?_⟩
  obtain ⟨z0,z1,rfl,q⟩:=h;exact Y7 tx q
theorem Ze5 {fd:FuncData} (F:jY K "all_of" "all_of" Mq m9 fd):mQ P w K mg base 1 m9 fd ["hands"] (Fg):=by
 have sc:=Zdr;walk_at "ok"
 ·refine ⟨Hf,(aC (aM (bw zu (bw Zn4 (au) (pv 0)) (au)))),?_⟩;obtain ⟨z0,rfl,q⟩:=h;exact Zfd q
theorem Ai {fd:FuncData} (F:jY K "at_begin" "Looking.at_begin" nY bJ fd):mQ P w K mg base 1 bJ fd nZ (mD 1):=by
 have sc:=Ag;walk_at "ok"
 ·refine ⟨mY,(aC (aM (au))),?_⟩;obtain ⟨z0,z1,rfl,q⟩:=h;exact Av q
theorem PX {fd:FuncData} (F:jY K "word" "First.word" wG fW fd):mQ P w K mg base 1 fW fd ["self"] (rG (.str "first")):=by
 have sc:=Pn;have tx:=sG _ T;walk_at "ok"
 ·refine ⟨uX,(aC (aM (aH))),?_⟩;obtain ⟨z0,rfl,q⟩:=h;exact Rg tx q
theorem Ds {fd:FuncData} (F:jY K "at_begin" "First.at_begin" pN cT fd) {Zf3:FuncData} (Ziv:Hh P w K mg base 1 m9 Zf3 ["hands"] (Fg)):mQ P w K mg base 2 cT fd pZ (mD 0):=by
 have sc:=Df;walk_at "ok"
 ·refine ⟨oX (Fg),(aC (aM (jZ Ziv hr T.Yg (aa (pv 1) az)))),?_⟩;obtain ⟨z0,z1,rfl,q⟩:=h;exact Fq q
theorem U7 {fd:FuncData} (F:jY K "word" "Each.word" yO ig fd):mQ P w K mg base 1 ig fd ["self"] (rG (.str "each")):=by
 have sc:=Ug;have tx:=sG _ T;walk_at "ok"
 ·refine ⟨w6,(aC (aM (aH))),?_⟩;obtain ⟨z0,rfl,q⟩:=h;exact W9 tx q
theorem U4 {fd:FuncData} (F:jY K "word" "Last.word" yM gZ fd):mQ P w K mg base 1 gZ fd ["self"] (rG (.str "last")):=by
 have sc:=Uc;have tx:=sG _ T;walk_at "ok"
 ·refine ⟨wX,(aC (aM (aH))),?_⟩;obtain ⟨z0,rfl,q⟩:=h;exact WX tx q
theorem HD {fd:FuncData} (F:jY K "__init__" "Kind.__init__" qT cM fd):mQ P w K mg base 1 cM fd rC (uC XQ.K):=by
 have sc:=Gp;have tx:=sG _ T;walk_at "ok"
 ·refine ⟨pR K,(ao (cR (pv 0) (pv 1) rfl)
   (aC (cR (pv 0) (pv 2) rfl))),?_⟩
  obtain ⟨z0,z1,z2,rfl,q⟩:=h;exact Jm tx q
theorem PL {fd:FuncData}{Wf QS Wc:FuncData} (F:jY K "words" "Kind.words" wD fU fd) (J3:Hh P w K mg base 1 ig Wf ["self"] (rG (.str "each"))) (Fp:Hh P w K mg base 1 fW QS ["self"] (rG (.str "first"))) (J0:Hh P w K mg base 1 gZ Wc ["self"] (rG (.str "last"))):mQ P w K mg base 2 fU fd ["self"] (K1 XQ):=by
 have sc:=Pj;have tx:=sG _ T;walk_at "ok"
 ·refine ⟨uV K XQ.E XQ.F XQ.L (rG (.str "each")) (rG (.str "first")) (rG (.str "last")),(ao (gD 1 sc.nd (G.KC (qI (aW (pv 0) rfl) T.Ob T.Bc Fp.g (hr.mono (by decide)) Fp.b .nil G.jD) (G.KC (qI (aW (pv 0) rfl) T.Wl T.DR J3.g (hr.mono (by decide)) J3.b .nil G.jD) (qI (aW (pv 0) rfl) T.Wi T.DN J0.g (hr.mono (by decide)) J0.b .nil G.jD))))
   (ao (bQ (lQ Dq (bw MF (aW (pv 0) rfl) (T.Zi0.pe rfl)) (au)) (aC (gD 1 sc.nd (bw p7 (pv 1) (aH)))) aQ)
   (ao (bQ (lQ Dq (bw MF (aW (pv 0) rfl) (T.Zi1.pe rfl)) (au)) (aC (gD 1 sc.nd (bw p7 (pv 1) (aH)))) aQ)
   (aC (aM (pv 1)))))),?_⟩
  obtain ⟨z0,rfl,q⟩:=h;exact Q8 tx q
theorem Zag {fd:FuncData}{IV QL:FuncData} (F:jY K "kind_of" "kind_of" Gv lF fd) (ye:Hh P w K mg base 1 cM IV rC (uC XQ.K)) (Fj:Hh P w K mg base 2 fU QL ["self"] (K1 XQ)):mQ P w K mg base 3 lF fd ["text"] (Ac XQ):=by
 have sc:=Z1;have tx:=sG _ T;walk_at "ok"
 ·refine ⟨BJ K XQ.E XQ.F XQ.K XQ.L (uC XQ.K) (K1 XQ),(ao (rz PassesOwn.never rfl (o5 (dJ (aa (G.Hg T.RP rfl T.Zco) (aa (G.Hg T.Yb rfl T.Zh6) (aa (G.Hg T.X8 rfl T.Zh2) az))))) (kZ (i:=1) sc.nd rfl (Or.inl rfl))
   (aC (rz PassesOwn.never rfl (oH rfl T.oN (aa (au) az)) (kZ (i:=2) sc.nd rfl (Or.inl rfl))
   (ao (gD 3 sc.nd (Dm T.KH ye.g (hr.mono (by decide)) rfl T.Zh3 ye.b .nil G.jD (aa (pv 1) (aa (pv 2) az))))
   (aC (bQ (lQ fD (qI (pv 3) T.Wj T.Ba Fj.g (hr.mono (by decide)) Fj.b .nil G.jD) (pv 0)) (aC (aM (pv 3))) aQ))))))
   (aC (aM (gF)))),?_⟩
  obtain ⟨z0,rfl,q⟩:=h;exact Zb2 tx q
theorem HH {fd:FuncData} (F:jY K "__init__" "Hand.__init__" qW cP fd):mQ P w K mg base 1 cP fd rE (uG XQ.D):=by
 have sc:=Gr;have tx:=sG _ T;walk_at "ok"
 ·refine ⟨pW K,(ao (cR (pv 0) (pv 1) rfl)
   (aC (cR (pv 0) (bw Uu (dJ (aa (gF) az)) (pv 2)) rfl))),?_⟩
  obtain ⟨z0,z1,z2,rfl,q⟩:=h;exact Jp tx q
theorem Ah {fd:FuncData} (F:jY K "__init__" "Sweeper.__init__" nW cu fd):mQ P w K mg base 1 cu fd ["self"] (pH XQ.S):=by
 have sc:=Af;have tx:=sG _ T;walk_at "ok"
 ·refine ⟨mX K,(ao (cR (pv 0) (au) rfl)
   (ao (cR (pv 0) (aH) rfl)
   (ao (cR (pv 0) (dJ az) rfl)
   (ao (cR (pv 0) (au) rfl)
   (ao (cR (pv 0) (au) rfl)
   (ao (cR (pv 0) (au) rfl)
   (ao (cR (pv 0) (au) rfl)
   (ao (cR (pv 0) (au) rfl)
   (ao (cR (pv 0) (au) rfl)
   (ao (cR (pv 0) (au) rfl)
   (aC (cR (pv 0) (gF) rfl)))))))))))),?_⟩
  obtain ⟨z0,rfl,q⟩:=h;exact Aq tx q
theorem Dr {fd:FuncData}{Jb IW An:FuncData} (F:jY K "__init__" "World.__init__" pM cG fd) (yg:Hh P w K mg base 1 cP Jb rE (uG XQ.D)) (yf:Hh P w K mg base 1 cN IW rD (uE XQ.H)) (tX:Hh P w K mg base 1 cu An ["self"] (pH XQ.S)):mQ P w K mg base 3 cG fd pY (rZ XQ):=by
 have sc:=De;have tx:=sG _ T;walk_at "ok"
 ·refine ⟨oW K XQ.D XQ.H XQ.S (uG XQ.D) (uE XQ.H) (pH XQ.S),(ao (cR (pv 0) (Dm T.KJ yf.g (hr.mono (by decide)) rfl T.Zh4 yf.b .nil G.jD (aa (pv 1) az)) rfl)
   (ao (cR (pv 0) (pv 2) rfl)
   (ao (cR (pv 0) (G.Zn1 (cns:=[]) [] (o5 (pv 3)) (fun _ _ _ _ _=>G.Cd) (fun _ _ _ _ _=>(Dm T.KN yg.g (hr.mono (by decide)) rfl T.Zh5 yg.b .nil G.jD (aa (pv 0) (aa (pv 1) az)))) rfl rfl (by repeat (first | exact trivial | refine ⟨rfl,?_⟩)) (by repeat (first | exact trivial | refine ⟨rfl,?_⟩)) rfl (by decide +kernel) rfl (by decide +kernel) (by decide +kernel) rfl rfl (by decide +kernel)) rfl)
   (ao (cR (pv 0) (Dn) rfl)
   (aC (cR (pv 0) (Zgb T.xK tX.g (hr.mono (by decide)) rfl T.RV tX.b .nil G.jD) rfl)))))),?_⟩
  obtain ⟨z0,z1,z2,z3,rfl,q⟩:=h;exact Fb tx q
theorem MP {fd:FuncData} (F:jY K "births_held" "births_held" uL fL fd) {xO:FuncData} (zW:Hh P w K mg base 3 gY xO uo (mC XQ)):mQ P w K mg base 4 fL fd ["world"] (Ff XQ):=by
 have sc:=Mi;have tx:=sG _ T;walk_at "ok"
 ·refine ⟨tH K (mC XQ),(aC (aM (G.Mw (cns:=["world"]) [0] (o5 (aW (pv 0) rfl)) (fun _ _ _ _ _=>G.Cd) (fun _ _ _ _ _=>(jZ zW hr T.zE (aa (aW (pv 1) rfl) (aa (aW (pv 0) rfl) az)))) rfl rfl (by repeat (first | exact trivial | refine ⟨rfl,?_⟩)) (by repeat (first | exact trivial | refine ⟨rfl,?_⟩)) rfl (by decide +kernel) rfl (by decide +kernel) (by decide +kernel) rfl (by decide +kernel)))),?_⟩;obtain ⟨z0,rfl,q⟩:=h;exact Oh tx q
theorem UG {fd:FuncData} (F:jY K "births_at" "births_at" yF gY fd) {dN:FuncData} (fj:Hh P w K mg base 2 dO dN jM (cz XQ)):mQ P w K mg base 3 gY fd uo (mC XQ):=by
 have sc:=TQ;have tx:=sG _ T;walk_at "ok"
 ·refine ⟨wN K (cz XQ),(aC (aM (G.Mw (cns:=["heap"]) [0] (o5 (pv 1)) (fun _ _ _ _ _=>G.Cd) (fun _ _ _ _ _=>(jZ fj hr T.lq (aa (pv 1) (aa (pv 0) az)))) rfl rfl (by repeat (first | exact trivial | refine ⟨rfl,?_⟩)) (by repeat (first | exact trivial | refine ⟨rfl,?_⟩)) rfl (by decide +kernel) rfl (by decide +kernel) (by decide +kernel) rfl (by decide +kernel)))),?_⟩;obtain ⟨z0,z1,rfl,q⟩:=h;exact Wq tx q
theorem Ux {fd:FuncData} (F:jY K "looked_at" "looked_at" yC iT fd):mQ P w K mg base 1 iT fd za (uA XQ):=by
 have sc:=Tz;have tx:=sG _ T;walk_at "ok"
 ·refine ⟨wK K,(aC (aM (lJ fD (bw MF (bw Zn3 (aW (aW (pv 0) rfl) rfl) (pv 1)) (au)) (au) (ou _)))),?_⟩;obtain ⟨z0,z1,rfl,q⟩:=h;exact Vh tx q
theorem Uy {fd:FuncData} (F:jY K "has_sense" "has_sense" yD gA fd):mQ P w K mg base 1 gA fd qJ (jf XQ):=by
 have sc:=TF;have tx:=sG _ T;walk_at "ok"
 ·refine ⟨wL K,(aC (aM (lJ fD (aW (pv 1) rfl) (aW (aW (pv 0) rfl) rfl) (ou _)))),?_⟩;obtain ⟨z0,z1,rfl,q⟩:=h;exact V0 tx q
theorem Zaf {fd:FuncData} (F:jY K "mark_of" "mark_of" Gu lE fd) {pD:FuncData} (qO:Hh P w K mg base 1 gA pD qJ (jf XQ)):mQ P w K mg base 2 lE fd Hi (Ab XQ):=by
 have sc:=Z0;have tx:=sG _ T;walk_at "ok"
 ·refine ⟨By K (jf XQ),(ao (gD 2 sc.nd (aW (pv 0) rfl))
   (ao (gD 3 sc.nd (jZ qO hr T.uw (aa (pv 0) (aa (dj bf (aW (aW (pv 0) rfl) rfl) (pv 1)) az))))
   (ao (bQ (lQ fD (aW (pv 2) rfl) (aH)) (aC (aM (aH))) aQ)
   (ao (bQ (lQ fD (aW (pv 2) rfl) (aH)) (aC (aM (Xz (iG (pv 3)) (aH) (aH)))) aQ)
   (ao (bQ (rm (iG (pv 3))) (aC (aM (aH))) aQ)
   (aC (aM (Xz (lQ Hv (pv 1) (aW (pv 2) rfl) (by with_unfolding_all rfl)) (aH) (aH))))))))),?_⟩
  obtain ⟨z0,z1,rfl,q⟩:=h;exact Zas tx q
theorem Pr {fd:FuncData}{QM V3:FuncData} (F:jY K "told_cells" "told_cells" wg gJ fd) (Fl:Hh P w K mg base 1 fV QM ["self"] (sr XQ.H)) (Zd:Hh P w K mg base 4 iR V3 yZ (uz XQ)):mQ P w K mg base 5 gJ fd ["world"] (WK XQ):=by
 have sc:=O7;have tx:=sG _ T;walk_at "ok"
 ·refine ⟨uN K XQ.H (sr XQ.H) (uz XQ),(aC (aM (G.Mw (cns:=["world"]) [0] (o5 (qI (aW (pv 0) rfl) T.dH T.Bb Fl.g (hr.mono (by decide)) Fl.b .nil G.jD)) (fun _ _ _ _ _=>G.Cd) (fun _ _ _ _ _=>(jZ Zd hr T.JD (aa (pv 1) (aa (pv 0) az)))) rfl rfl (by repeat (first | exact trivial | refine ⟨rfl,?_⟩)) (by repeat (first | exact trivial | refine ⟨rfl,?_⟩)) rfl (by decide +kernel) rfl (by decide +kernel) (by decide +kernel) rfl (by decide +kernel)))),?_⟩;obtain ⟨z0,rfl,q⟩:=h;exact Ov tx q
theorem Uw {fd:FuncData}{xO Zbg:FuncData} (F:jY K "told_cell" "told_cell" yz iR fd) (zW:Hh P w K mg base 3 gY xO uo (mC XQ)) (Zfg:Hh P w K mg base 2 lE Zbg Hi (Ab XQ)):mQ P w K mg base 4 iR fd yZ (uz XQ):=by
 have sc:=Tv;have tx:=sG _ T;walk_at "ok"
 ·refine ⟨wJ K (mC XQ) (Ab XQ),(ao (gD 2 sc.nd (dj bf (aW (aW (pv 0) rfl) rfl) (pv 1)))
   (ao (gD 3 sc.nd (jZ zW hr T.zE (aa (aW (pv 0) rfl) (aa (aW (pv 2) rfl) az))))
   (aC (aM (eY (aa (pv 1) (aa (aW (pv 2) rfl) (aa (aW (pv 2) rfl) (aa (aW (pv 2) rfl) (aa (pv 3) (aa (jZ Zfg hr T.RQ (aa (pv 0) (aa (pv 1) az))) az))))))))))),?_⟩
  obtain ⟨z0,z1,rfl,q⟩:=h;exact S7 tx q
theorem Zgi {fd:FuncData}{Ew Ao:FuncData} (F:jY K "begin" "begin" Uh qy fd) (vV:Hh P w K mg base 2 cT Ew pZ (mD 0)) (lB:Hh P w K mg base 1 bJ Ao nZ (mD 1)):mQ P w K mg base 3 qy fd ["world"] (Lb XQ):=by
 have sc:=Zfr;have tx:=sG _ T;walk_at "ok"
 ·refine ⟨Mr K XQ.E XQ.F XQ.L (mD 0) (mD 1),(ao (gD 1 sc.nd (aW (pv 0) rfl))
   (ao (cR (pv 1) (bw zu (au) (aW (pv 1) rfl)) rfl)
   (ao (cR (pv 1) (bw jN (aW (pv 1) rfl) (au)) rfl)
   (ao (cR (pv 1) (aH) rfl)
   (ao (cR (pv 1) (dJ az) rfl)
   (ao (cR (pv 1) (G.KC (z6 (aW (aW (pv 0) rfl) rfl) T.Ob T.ur vV.g (hr.mono (by decide)) vV.b .nil G.jD (aa (bL G.cV (by rfl) T.kh G.boot_len (aa (aW (pv 0) rfl) az)) az)) (G.KC (z6 (aW (aW (pv 0) rfl) rfl) T.Wl T.vL lB.g (hr.mono (by decide)) lB.b .nil G.jD (aa (bL G.cV (by rfl) T.kh G.boot_len (aa (aW (pv 0) rfl) az)) az)) (z6 (aW (aW (pv 0) rfl) rfl) T.Wi T.vK lB.g (hr.mono (by decide)) lB.b .nil G.jD (aa (bL G.cV (by rfl) T.kh G.boot_len (aa (aW (pv 0) rfl) az)) az)))) rfl)
   (ao (cR (pv 1) (au) rfl)
   (ao (cR (pv 1) (au) rfl)
   (aC (cR (pv 1) (au) rfl)))))))))),?_⟩
  obtain ⟨z0,rfl,q⟩:=h;exact Zir tx q
theorem Zka {fd:FuncData}{oE pD:FuncData} (F:jY K "note" "note" Za2 vp fd) (qd:Hh P w K mg base 1 jl oE sJ (jo XQ.H)) (qO:Hh P w K mg base 1 gA pD qJ (jf XQ)):mQ P w K mg base 2 vp fd Zac (WM XQ):=by
 have sc:=Zjb;have tx:=sG _ T;walk_at "ok"
 ·refine ⟨Uj K (jo XQ.H) (jf XQ),(ao (gD 2 sc.nd (aW (pv 0) rfl))
   (ao (gD 3 sc.nd (jZ qd hr T.vN (aa (aW (pv 0) rfl) (aa (pv 1) az))))
   (ao (bQ (PW.pt (RL (lQ Dq (aW (pv 2) rfl) (aH)) (RL (lQ G.qp (pv 3) (gF)) (Um (iG (jZ qO hr T.uw (aa (pv 0) (aa (pv 3) az)))))))) (aC (aM (gF))) aQ)
   (ao (cR (pv 3) (aW (pv 2) rfl) rfl)
   (ao (mK (xV PySem.F.plainAttrs_list PySem.F.slot_list_append PySem.F.type_list_append jg (aW (pv 2) rfl) (aa (pv 1) az)))
   (aC (aM (aW (pv 3) rfl)))))))),?_⟩
  obtain ⟨z0,z1,rfl,q⟩:=h;exact Zkh tx q
theorem XD {fd:FuncData} (F:jY K "note_all" "note_all" Bs iw fd) {Zlk:FuncData} (Zpd:Hh P w K mg base 2 vp Zlk Zac (WM XQ)):mQ P w K mg base 3 iw fd tL (jO XQ):=by
 have sc:=Xo;have tx:=sG _ T;walk_at "ok"
 ·refine ⟨yR K (WM XQ),(ao (gD 2 sc.nd (dJ az))
   (ao (rz PassesOwn.never rfl (o5 (pv 1)) (kZ (i:=3) sc.nd rfl (Or.inl rfl))
   (ao (gD 4 sc.nd (jZ Zpd hr T.Zgy (aa (pv 0) (aa (pv 3) az))))
   (aC (bQ (lQ G.Mz (pv 4) (gF)) (aC (mK (xV PySem.F.plainAttrs_list PySem.F.slot_list_append PySem.F.type_list_append jg (pv 2) (aa (pv 4) az)))) aQ))))
   (aC (aM (pv 2))))),?_⟩
  obtain ⟨z0,z1,rfl,q⟩:=h;exact XR tx q
theorem Zkb {fd:FuncData}{oE pD:FuncData} (F:jY K "gone" "gone" Za3 vq fd) (qd:Hh P w K mg base 1 jl oE sJ (jo XQ.H)) (qO:Hh P w K mg base 1 gA pD qJ (jf XQ)):mQ P w K mg base 2 vq fd Zad (WW XQ):=by
 have sc:=Zjc;have tx:=sG _ T;walk_at "ok"
 ·refine ⟨Uk K (jo XQ.H) (jf XQ),(ao (gD 3 sc.nd (jZ qd hr T.vN (aa (aW (pv 0) rfl) (aa (pv 1) az))))
   (ao (bQ (PW.pt (RL (lQ G.qp (pv 3) (gF)) (Um (lQ Dq (aW (pv 3) rfl) (pv 2))))) (aC (aM (m6))) aQ)
   (aC (aM ((xj (lJ fD (aW (aW (pv 0) rfl) rfl) (aH) (ou _)) (Cg (Zab (jZ qO hr T.uw (aa (pv 0) (aa (pv 3) az))))))))))),?_⟩
  obtain ⟨z0,z1,z2,rfl,q⟩:=h;exact Zlf tx q
theorem XC {fd:FuncData} (F:jY K "slots_of" "slots_of" Br dB fd):mQ P w K mg base 1 dB fd jq (bU XQ):=by
 have sc:=Xn;have tx:=sG _ T;walk_at "ok"
 ·refine ⟨yQ K,(aC (aM (aW (dj bf (aW (pv 0) rfl) (pv 1)) rfl))),?_⟩;obtain ⟨z0,z1,rfl,q⟩:=h;exact Xl tx q
theorem Zao {fd:FuncData}{oE cY:FuncData} (F:jY K "cell_in" "cell_in" GK jk fd) (qd:Hh P w K mg base 1 jl oE sJ (jo XQ.H)) (dD:Hh P w K mg base 1 dB cY jq (bU XQ)):mQ P w K mg base 2 jk fd sI (jm XQ aF):=by
 have sc:=Z9;have tx:=sG _ T;walk_at "okX"
 ·refine ⟨BZ K aF (jo XQ.H) (bU XQ) E,(ao (gD 3 sc.nd (jZ qd hr T.vN (aa (aW (pv 0) rfl) (aa (dj bf (jZ dD hr T.jr (aa (pv 0) (aa (pv 1) az))) (pv 2)) az))))
   (ao (bQ (lQ G.qp (pv 3) (gF)) (aC (G.Dl rfl rfl T.zH T.uc (aa (aH) az) (fun _ _ _ _ _ _ _ I hx hE=>G.Ul I hx hE))) aQ)
   (aC (aM (pv 3))))),?_⟩
  obtain ⟨z0,z1,z2,rfl,q⟩:=h;exact Zc1 tx q
theorem Uz {fd:FuncData}{Ey oA:FuncData} (F:jY K "fields_in" "fields_in" yE gW fd) (vW:Hh P w K mg base 1 cU Ey p6 (uB XQ)) (gH:Hh P w K mg base 2 jk oA sI (jm XQ aF)):mQ P w K mg base 3 gW fd um (mq XQ aF aP):=by
 have sc:=TJ;have tx:=sG _ T;walk_at "okX"
 ·refine ⟨wM K XQ.C aP (uB XQ) (jm XQ aF) E,(ao (gD 4 sc.nd (qj gH.g (hr.mono (by decide)) rfl T.vM gH.k gH.b .nil G.Dp (aa (pv 0) (aa (pv 1) (aa (pv 2) az)))))
   (ao (bQ (rm (iG (z6 (pv 4) T.dz T.uv vW.g (hr.mono (by decide)) vW.b .nil G.jD (aa (pv 3) az)))) (aC (G.Dl rfl rfl T.Ib T.zZ (aa (aH) az) (fun _ _ _ _ _ _ _ I hx hE=>G.Ul I hx hE))) aQ)
   (aC (aM (aW (pv 4) rfl))))),?_⟩
  obtain ⟨z0,z1,z2,z3,rfl,q⟩:=h;exact V2 tx q
theorem MJ {fd:FuncData} (F:jY K "told_as_old" "told_as_old" uI fJ fd):mQ P w K mg base 1 fJ fd u9 (xR XQ):=by
 have sc:=Mf;have tx:=sG _ T;walk_at "ok"
 ·refine ⟨tD K,(ao (bQ (lQ fD (bw MF (aW (aW (pv 0) rfl) rfl) (T.Zi0.pe rfl)) (au)) (aC (aM (dJ az))) aQ)
   (aC (aM (dJ (aa (pv 1) az))))),?_⟩
  obtain ⟨z0,z1,rfl,q⟩:=h;exact Lq tx q
theorem MK {fd:FuncData} (F:jY K "told_as_new" "told_as_new" uJ eO fd) {V4:FuncData} (Ze:Hh P w K mg base 1 iT V4 za (uA XQ)):mQ P w K mg base 2 eO fd qm (oF XQ):=by
 have sc:=Mg;have tx:=sG _ T;walk_at "ok"
 ·refine ⟨tE K (uA XQ),(ao (bQ (PW.pt (RL (lQ fD (bw MF (aW (aW (pv 0) rfl) rfl) (T.Zi1.pe rfl)) (au)) (Um (iG (jZ Ze hr T.JF (aa (pv 0) (aa (pv 1) az))))))) (aC (aM (dJ az))) aQ)
   (aC (aM (dJ (aa (pv 2) az))))),?_⟩
  obtain ⟨z0,z1,z2,rfl,q⟩:=h;exact Lr tx q
theorem Zak {fd:FuncData}{Wd dN cY:FuncData} (F:jY K "do_make" "do_make" Gz gh fd) (J1:Hh P w K mg base 3 gB Wd zq (uD K XQ.C XQ.H bH)) (fj:Hh P w K mg base 2 dO dN jM (cz XQ)) (dD:Hh P w K mg base 1 dB cY jq (bU XQ)):mQ P w K mg base 4 gh fd Hq (bY XQ (yo bH aF aP aV) zM):=by
 have sc:=Z5;have tx:=sG _ T;walk_at "okX"
 ·refine ⟨BR K XQ.H (uD K XQ.C XQ.H bH) (cz XQ) (bU XQ) E,(ao (gD 2 sc.nd (jZ dD hr T.jr (aa (pv 0) (aa (dj aZ (pv 1) (au)) az))))
   (ao (gD 3 sc.nd (dj aZ (pv 1) (au)))
   (ao (gD 4 sc.nd (dj aZ (pv 1) (au)))
   (ao (gD 5 sc.nd (z6 (aW (pv 0) rfl) T.dH T.DP J1.g (hr.mono (by decide)) J1.b .nil G.Dp (aa (pv 3) (aa (pv 4) (aa (aW (aW (pv 0) rfl) rfl) az)))))
   (ao (mZ (pv 5) (m5 (pv 2) (dj aZ (pv 1) (au)) set_list))
   (aC (aM (eY (aa (aH) (aa (jZ fj hr T.lq (aa (aW (pv 0) rfl) (aa (pv 5) az))) (aa (dJ az) az))))))))))),?_⟩
  obtain ⟨z0,z1,rfl,q⟩:=h;exact Zbt tx rfl q
theorem Ze4 {fd:FuncData}{dN xN cY:FuncData} (F:jY K "do_get" "do_get" Mp iB fd) (fj:Hh P w K mg base 2 dO dN jM (cz XQ)) (mF:Hh P w K mg base 3 gW xN um (mq XQ aF aP)) (dD:Hh P w K mg base 1 dB cY jq (bU XQ)):mQ P w K mg base 4 iB fd My (bY XQ (yo bH aF aP aV) R0):=by
 have sc:=Zdq;have tx:=sG _ T;walk_at "okX"
 ·refine ⟨GZ K (cz XQ) (mq XQ aF aP) (bU XQ) E,(ao (gD 2 sc.nd (dj aZ (pv 1) (au)))
   (ao (gD 3 sc.nd (dj aZ (pv 1) (au)))
   (ao (gD 4 sc.nd (dj aZ (pv 1) (au)))
   (ao (gD 5 sc.nd (dj bf (qj mF.g (hr.mono (by decide)) rfl T.zB mF.k mF.b .nil G.Dp (aa (pv 0) (aa (pv 2) (aa (pv 3) (aa (pv 4) az))))) (pv 4)))
   (ao (mZ (pv 5) (m5 (jZ dD hr T.jr (aa (pv 0) (aa (pv 2) az))) (dj aZ (pv 1) (au)) set_list))
   (aC (aM (eY (aa (aH) (aa (jZ fj hr T.lq (aa (aW (pv 0) rfl) (aa (pv 5) az))) (aa (dJ az) az))))))))))),?_⟩
  obtain ⟨z0,z1,rfl,q⟩:=h;exact Zf5 tx rfl rfl q
theorem Ze3 {fd:FuncData}{dN xN qM cY tR NQ:FuncData} (F:jY K "do_put" "do_put" Mm iz fd) (fj:Hh P w K mg base 2 dO dN jM (cz XQ)) (mF:Hh P w K mg base 3 gW xN um (mq XQ aF aP)) (tW:Hh P w K mg base 3 iw qM tL (jO XQ)) (dD:Hh P w K mg base 1 dB cY jq (bU XQ)) (vC:Hh P w K mg base 2 eO tR qm (oF XQ)) (Ra:Hh P w K mg base 1 fJ NQ u9 (xR XQ)):mQ P w K mg base 4 iz fd Mx (bY XQ (yo bH aF aP aV) RZ):=by
 have sc:=Zdp;have tx:=sG _ T;walk_at "okX"
 ·refine ⟨GX K (cz XQ) (mq XQ aF aP) (jO XQ) (bU XQ) (oF XQ) (xR XQ) E,(ao (gD 2 sc.nd (dj aZ (pv 1) (au)))
   (ao (gD 3 sc.nd (dj aZ (pv 1) (au)))
   (ao (gD 4 sc.nd (qj mF.g (hr.mono (by decide)) rfl T.zB mF.k mF.b .nil G.Dp (aa (pv 0) (aa (pv 2) (aa (dj aZ (pv 1) (au)) (aa (pv 3) az))))))
   (ao (gD 5 sc.nd (dj bf (pv 4) (pv 3)))
   (ao (gD 6 sc.nd (dj bf (jZ dD hr T.jr (aa (pv 0) (aa (pv 2) az))) (dj aZ (pv 1) (au))))
   (ao (mZ (pv 6) (m5 (pv 4) (pv 3) set_list))
   (ao (gD 7 sc.nd (jZ tW hr T.xM (aa (pv 0) (aa (bw Zn6 (jZ Ra hr T.Bd (aa (pv 0) (aa (pv 5) az))) (jZ vC hr T.vm (aa (pv 0) (aa (pv 2) (aa (pv 6) az))))) az))))
   (aC (aM (eY (aa (aH) (aa (jZ fj hr T.lq (aa (aW (pv 0) rfl) (aa (pv 5) az))) (aa (pv 7) az))))))))))))),?_⟩
  obtain ⟨z0,z1,rfl,q⟩:=h;exact Zf4 tx rfl rfl q
theorem Zan {fd:FuncData}{dN cY:FuncData} (F:jY K "do_copy" "do_copy" GJ gq fd) (fj:Hh P w K mg base 2 dO dN jM (cz XQ)) (dD:Hh P w K mg base 1 dB cY jq (bU XQ)):mQ P w K mg base 3 gq fd Ht (bY XQ (yo bH aF aP aV) Iu):=by
 have sc:=Z8;have tx:=sG _ T;walk_at "ok"
 ·refine ⟨BX K (cz XQ) (bU XQ),(ao (gD 2 sc.nd (jZ dD hr T.jr (aa (pv 0) (aa (dj aZ (pv 1) (au)) az))))
   (ao (gD 3 sc.nd (dj bf (pv 2) (dj aZ (pv 1) (au))))
   (ao (mZ (pv 3) (m5 (pv 2) (dj aZ (pv 1) (au)) set_list))
   (aC (aM (eY (aa (aH) (aa (jZ fj hr T.lq (aa (aW (pv 0) rfl) (aa (pv 3) az))) (aa (dJ az) az))))))))),?_⟩
  obtain ⟨z0,z1,rfl,q⟩:=h;exact Zbw tx q
theorem Zam {fd:FuncData}{dN cY:FuncData} (F:jY K "do_drop" "do_drop" GF gn fd) (fj:Hh P w K mg base 2 dO dN jM (cz XQ)) (dD:Hh P w K mg base 1 dB cY jq (bU XQ)):mQ P w K mg base 3 gn fd Hs (bY XQ (yo bH aF aP aV) Ir):=by
 have sc:=Z7;have tx:=sG _ T;walk_at "ok"
 ·refine ⟨BW K (cz XQ) (bU XQ),(ao (gD 2 sc.nd (jZ dD hr T.jr (aa (pv 0) (aa (dj aZ (pv 1) (au)) az))))
   (ao (gD 3 sc.nd (dj bf (pv 2) (dj aZ (pv 1) (au))))
   (ao (mZ (gF) (m5 (pv 2) (dj aZ (pv 1) (au)) set_list))
   (aC (aM (eY (aa (aH) (aa (jZ fj hr T.lq (aa (aW (pv 0) rfl) (aa (pv 3) az))) (aa (dJ az) az))))))))),?_⟩
  obtain ⟨z0,z1,rfl,q⟩:=h;exact Zbv tx q
theorem Zal {fd:FuncData}{dN qM cY tR:FuncData} (F:jY K "do_give" "do_give" GD gj fd) (fj:Hh P w K mg base 2 dO dN jM (cz XQ)) (tW:Hh P w K mg base 3 iw qM tL (jO XQ)) (dD:Hh P w K mg base 1 dB cY jq (bU XQ)) (vC:Hh P w K mg base 2 eO tR qm (oF XQ)):mQ P w K mg base 4 gj fd Hr (bY XQ (yo bH aF aP aV) Ip):=by
 have sc:=Z6;have tx:=sG _ T;walk_at "ok"
 ·refine ⟨BV K (cz XQ) (jO XQ) (bU XQ) (oF XQ),(ao (gD 2 sc.nd (dj aZ (pv 1) (au)))
   (ao (gD 3 sc.nd (dj aZ (pv 1) (au)))
   (ao (gD 4 sc.nd (dj bf (jZ dD hr T.jr (aa (pv 0) (aa (pv 2) az))) (dj aZ (pv 1) (au))))
   (ao (mZ (pv 4) (m5 (jZ dD hr T.jr (aa (pv 0) (aa (pv 3) az))) (dj aZ (pv 1) (au)) set_list))
   (ao (gD 5 sc.nd (jZ tW hr T.xM (aa (pv 0) (aa (jZ vC hr T.vm (aa (pv 0) (aa (pv 2) (aa (pv 4) az)))) az))))
   (aC (aM (eY (aa (aH) (aa (jZ fj hr T.lq (aa (aW (pv 0) rfl) (aa (pv 4) az))) (aa (pv 5) az))))))))))),?_⟩
  obtain ⟨z0,z1,rfl,q⟩:=h;exact Zbu tx q
theorem XF {fd:FuncData} (F:jY K "do_write" "do_write" Bt d9 fd) {oA:FuncData} (gH:Hh P w K mg base 2 jk oA sI (jm XQ aF)):mQ P w K mg base 3 d9 fd Cj (bY XQ (yo bH aF aP aV) z7):=by
 have sc:=Xp;have tx:=sG _ T;walk_at "okX"
 ·refine ⟨yS K (jm XQ aF) E,(ao (gD 2 sc.nd (qj gH.g (hr.mono (by decide)) rfl T.vM gH.k gH.b .nil G.Dp (aa (pv 0) (aa (dj aZ (pv 1) (au)) (aa (dj aZ (pv 1) (au)) az)))))
   (ao (gD 3 sc.nd (aW (pv 2) rfl))
   (ao (cR (pv 2) (dj aZ (pv 1) (au)) rfl)
   (aC (aM (eY (aa (aH) (aa (pv 3) (aa (dJ az) az))))))))),?_⟩
  obtain ⟨z0,z1,rfl,q⟩:=h;exact YK tx rfl q
theorem Zai {fd:FuncData} (F:jY K "do_read" "do_read" Gx fZ fd) {oA:FuncData} (gH:Hh P w K mg base 2 jk oA sI (jm XQ aF)):mQ P w K mg base 3 fZ fd Hl (bY XQ (yo bH aF aP aV) Il):=by
 have sc:=Z3;have tx:=sG _ T;walk_at "okX"
 ·refine ⟨BL K (jm XQ aF) E,(ao (gD 2 sc.nd (qj gH.g (hr.mono (by decide)) rfl T.vM gH.k gH.b .nil G.Dp (aa (pv 0) (aa (dj aZ (pv 1) (au)) (aa (dj aZ (pv 1) (au)) az)))))
   (aC (aM (eY (aa (aH) (aa (aW (pv 2) rfl) (aa (dJ az) az))))))),?_⟩
  obtain ⟨z0,z1,rfl,q⟩:=h;exact Zbr tx rfl q
theorem Zaj {fd:FuncData}{oA cY:FuncData} (F:jY K "do_name" "do_name" Gy gf fd) (gH:Hh P w K mg base 2 jk oA sI (jm XQ aF)) (dD:Hh P w K mg base 1 dB cY jq (bU XQ)):mQ P w K mg base 3 gf fd Ho (bY XQ (yo bH aF aP aV) isName):=by
 have sc:=Z4;have tx:=sG _ T;walk_at "okX"
 ·refine ⟨BP K (jm XQ aF) (bU XQ) E,(ao (gD 2 sc.nd (dj aZ (pv 1) (au)))
   (ao (gD 3 sc.nd (dj aZ (pv 1) (au)))
   (ao (gD 4 sc.nd (aW (qj gH.g (hr.mono (by decide)) rfl T.vM gH.k gH.b .nil G.Dp (aa (pv 0) (aa (pv 2) (aa (pv 3) az)))) rfl))
   (ao (ug (vQ hr) (aW (pv 0) rfl) (dj aZ (pv 1) (au)) (eY (aa (dj bf (jZ dD hr T.jr (aa (pv 0) (aa (pv 2) az))) (pv 3)) (aa (pv 4) az))) rfl)
   (aC (aM (eY (aa (aH) (aa (pv 4) (aa (dJ az) az)))))))))),?_⟩
  obtain ⟨z0,z1,rfl,q⟩:=h;exact Zbs tx rfl q
theorem Zah {fd:FuncData}{dN qM NT cY:FuncData} (F:jY K "do_seek" "do_seek" Gw fY fd) (fj:Hh P w K mg base 2 dO dN jM (cz XQ)) (tW:Hh P w K mg base 3 iw qM tL (jO XQ)) (vD:Hh P w K mg base 3 fK NT vd (qC XQ aV)) (dD:Hh P w K mg base 1 dB cY jq (bU XQ)):mQ P w K mg base 4 fY fd Hj (bY XQ (yo bH aF aP aV) Ik):=by
 have sc:=Z2;have tx:=sG _ T;walk_at "okX"
 ·refine ⟨BK K (cz XQ) (jO XQ) (qC XQ aV) (bU XQ) E,(ao (gD 2 sc.nd (qj vD.g (hr.mono (by decide)) rfl T.Be vD.k vD.b .nil G.Dp (aa (pv 0) (aa (dj aZ (pv 1) (au)) az))))
   (ao (mZ (pv 2) (m5 (jZ dD hr T.jr (aa (pv 0) (aa (dj aZ (pv 1) (au)) az))) (dj aZ (pv 1) (au)) set_list))
   (ao (gD 3 sc.nd (jZ tW hr T.xM (aa (pv 0) (aa (dJ (aa (pv 2) az)) az))))
   (aC (aM (eY (aa (aH) (aa (jZ fj hr T.lq (aa (aW (pv 0) rfl) (aa (pv 2) az))) (aa (pv 3) az))))))))),?_⟩
  obtain ⟨z0,z1,rfl,q⟩:=h;exact Zbq tx rfl q
theorem MN {fd:FuncData} (F:jY K "place_named" "place_named" uK fK fd) {Zll:FuncData} (Zpe:Hh P w K mg base 2 vq Zll Zad (WW XQ)):mQ P w K mg base 3 fK fd vd (qC XQ aV):=by
 have sc:=Mh;have tx:=sG _ T;walk_at "okX"
 ·refine ⟨tG K aV (WW XQ) E,(ao (bQ (Zg1 (RM (vQ hr) (pv 1) (aW (pv 0) rfl))) (aC (G.Dl rfl rfl T.Nb T.Cy (aa (aH) az) (fun _ _ _ _ _ _ _ I hx hE=>G.Ul I hx hE))) aQ)
   (ao (gD 2 sc.nd (dj aZ (xW hr (aW (pv 0) rfl) (pv 1)) (au)))
   (ao (gD 3 sc.nd (dj aZ (xW hr (aW (pv 0) rfl) (pv 1)) (au)))
   (ao (bQ (iG (jZ Zpe hr T.Zgz (aa (pv 0) (aa (pv 2) (aa (pv 3) az))))) (aC (aM (gF))) aQ)
   (aC (aM (pv 2))))))),?_⟩
  obtain ⟨z0,z1,rfl,q⟩:=h;exact Mv tx q
theorem Zpz {fd:FuncData}{Zbo Zbn Zf2 Zbm Zbl Zbk Zf1 Zbj Zbi YD:FuncData} (F:jY K "do" "do" Zmt QV fd) (Jw:Hh P w K mg base 3 gq Zbo Ht (bY XQ (yo bH aF aP aV) Iu)) (Jv:Hh P w K mg base 3 gn Zbn Hs (bY XQ (yo bH aF aP aV) Ir)) (Om:Hh P w K mg base 4 iB Zf2 My (bY XQ (yo bH aF aP aV) R0)) (Ju:Hh P w K mg base 4 gj Zbm Hr (bY XQ (yo bH aF aP aV) Ip)) (Jt:Hh P w K mg base 4 gh Zbl Hq (bY XQ (yo bH aF aP aV) zM)) (Js:Hh P w K mg base 3 gf Zbk Ho (bY XQ (yo bH aF aP aV) isName)) (Ol:Hh P w K mg base 4 iz Zf1 Mx (bY XQ (yo bH aF aP aV) RZ)) (Jr:Hh P w K mg base 3 fZ Zbj Hl (bY XQ (yo bH aF aP aV) Il)) (Jq:Hh P w K mg base 4 fY Zbi Hj (bY XQ (yo bH aF aP aV) Ik)) (Cv:Hh P w K mg base 3 d9 YD Cj (bY XQ (yo bH aF aP aV) z7)):mQ P w K mg base 5 QV fd Zn2 (bY XQ (yo bH aF aP aV) (fun _=>True)):=by
 have sc:=Zpr;have tx:=sG _ T;walk_at "okX"
 ·refine ⟨Zfv K gq gn iB gj gh gf iz fZ fY d9 (bY XQ (yo bH aF aP aV) Iu) (bY XQ (yo bH aF aP aV) Ir) (bY XQ (yo bH aF aP aV) R0) (bY XQ (yo bH aF aP aV) Ip) (bY XQ (yo bH aF aP aV) zM) (bY XQ (yo bH aF aP aV) isName) (bY XQ (yo bH aF aP aV) RZ) (bY XQ (yo bH aF aP aV) Il) (bY XQ (yo bH aF aP aV) Ik) (bY XQ (yo bH aF aP aV) z7) E,(ao (gD 2 sc.nd (G.Zn0 T.RB rfl (dj aZ (pv 1) (au)) (fun _ _=>rfl)))
   (aC (aM (G.Zgf (k:=4) (G.Zk.cons (by decide) Jt.g Jt.b Jt.k (G.Zk.cons (by decide) Om.g Om.b Om.k (G.Zk.cons (by decide) Ol.g Ol.b Ol.k (G.Zk.cons (by decide) Jw.g Jw.b Jw.k (G.Zk.cons (by decide) Jv.g Jv.b Jv.k (G.Zk.cons (by decide) Ju.g Ju.b Ju.k (G.Zk.cons (by decide) Cv.g Cv.b Cv.k (G.Zk.cons (by decide) Jr.g Jr.b Jr.k (G.Zk.cons (by decide) Js.g Js.b Js.k (G.Zk.cons (by decide) Jq.g Jq.b Jq.k G.Zk.nil)))))))))) (hr.mono (by decide)) rfl (Or.inl rfl) G.Dp (aa (pv 0) (aa (pv 1) az)))))),?_⟩
  obtain ⟨z0,z1,rfl,q⟩:=h;exact Zrf tx q
theorem XJ {fd:FuncData} (F:jY K "_law_mix" "_law_mix" Bv fc fd):mQ P w K mg base 1 fc fd lW (pG):=by
 have sc:=Xr;walk_at "ok"
 ·refine ⟨yV,(ao (gD 2 sc.nd (bw eZ (bw jN (bw Uv (pv 0) (pv 1)) (au)) (au)))
   (aC (aM (bw o7 (bw eZ (bw Uv (pv 2) (pv 2)) (au)) (au))))),?_⟩
  obtain ⟨z0,z1,rfl,q⟩:=h;exact Za q
theorem Kf {fd:FuncData} (F:jY K "_law_cell_at" "_law_cell_at" sZ eV fd):mQ P w K mg base 1 eV fd tO (Zlx K):=by
 have sc:=Kd;walk_at "ok"
 ·refine ⟨qZ K,(ao (bQ (lQ RN (pv 1) (bL G.cV (by rfl) T.kh G.boot_len (aa (pv 0) az))) (aC (aM (dj bf (pv 0) (pv 1)))) aQ)
   (aC (aM (au)))),?_⟩
  obtain ⟨z0,z1,rfl,q⟩:=h;exact Kq q
theorem U0 {fd:FuncData} (F:jY K "_law_kind" "_law_kind" yK iZ fd) {gU:FuncData} (dF:Hh P w K mg base 1 fc gU lW (pG)):mQ P w K mg base 2 iZ fd zm (K9):=by
 have sc:=Ua;walk_at "ok"
 ·refine ⟨wV K (pG),(ao (gD 1 sc.nd (dj bf (dJ (aa (aH) (aa (aH) (aa (aH) az)))) (bw eZ (jZ dF hr T.fQ (aa (pv 0) (aa (au) az))) (au))))
   (aC (aM (bw p7 (pv 1) (dj bf (dJ (aa (aH) (aa (aH) (aa (aH) (aa (aH) az))))) (bw eZ (jZ dF hr T.fQ (aa (pv 0) (aa (au) az))) (au))))))),?_⟩
  obtain ⟨z0,rfl,q⟩:=h;exact Wy q
theorem PJ {fd:FuncData} (F:jY K "_law_names" "_law_names" wB gQ fd) {gU:FuncData} (dF:Hh P w K mg base 1 fc gU lW (pG)):mQ P w K mg base 2 gQ fd xx (K7):=by
 have sc:=Pg;walk_at "ok"
 ·refine ⟨uT K (pG),(ao (gD 2 sc.nd (aH))
   (ao (gD 3 sc.nd (bw jN (au) (bw eZ (jZ dF hr T.fQ (aa (pv 0) (aa (au) az))) (au))))
   (ao (gD 4 sc.nd (aH))
   (ao (rz PassesOwn.never rfl (oH rfl T.oN (aa (pv 3) az)) (kZ (i:=5) sc.nd rfl (Or.inl rfl))
   (aC (gD 4 sc.nd (bw p7 (pv 4) (dj Vx (pv 2) (bw eZ (jZ dF hr T.fQ (aa (pv 0) (aa (bw jN (bw Uv (pv 5) (pv 5)) (au)) az))) (au)))))))
   (ao (gD 6 sc.nd (bw eZ (jZ dF hr T.fQ (aa (pv 0) (aa (au) az))) (pv 3)))
   (ao (gD 7 sc.nd (bw eZ (jZ dF hr T.fQ (aa (pv 0) (aa (au) az))) (au)))
   (ao (gD 8 sc.nd (dJ az))
   (ao (rz PassesOwn.never rfl (oH rfl T.oN (aa (pv 1) az)) (kZ (i:=5) sc.nd rfl (Or.inl rfl))
   (ao (gD 9 sc.nd (bw p7 (bw p7 (yX G.ZX (pv 4) Us (xg (pv 6))) (dj Vx (pv 2) (bw eZ (bw jN (pv 7) (pv 5)) (au)))) (yX G.ZX (pv 4) (xg (bw jN (pv 6) (au))) Us)))
   (ao (bQ (lQ fD (pv 9) (aH)) (aC (gD 9 sc.nd (aH))) aQ)
   (aC (mK (xV PySem.F.plainAttrs_list PySem.F.slot_list_append PySem.F.type_list_append jg (pv 8) (aa (pv 9) az)))))))
   (aC (aM (pv 8))))))))))),?_⟩
  obtain ⟨z0,z1,rfl,q⟩:=h;exact Q6 q
theorem Pz {fd:FuncData} (F:jY K "_law_same" "_law_same" ue dR fd) (eN:Hh P w K mg base 0 dR fd qK (WQ)):qP P w K mg base (G.Kv P w) 1 dR fd ["_law_found","_law_due"] (oG 0):=by
 have sc:=Dd;walk_at "ok"
 ·refine ⟨jG K (WQ),(ao (bQ (lQ G.qp (pv 1) (gF)) (aC (aM (lJ G.qp (pv 0) (gF) (ou _)))) aQ)
   (ao (bQ (lQ G.zx (pv 1) (m6)) (aC (aM (lJ G.zx (pv 0) (m6) (ou _)))) aQ)
   (ao (bQ (lQ G.zx (pv 1) (m6)) (aC (aM (lJ G.zx (pv 0) (m6) (ou _)))) aQ)
   (ao (bQ (iG (bL G.gG (by rfl) T.bW G.boot_isinstance (aa (pv 1) (aa (jw rfl T.Lh G.boot_int rfl) az)))) (aC (aM ((xj (bL G.gG (by rfl) T.bW G.boot_isinstance (aa (pv 0) (aa (jw rfl T.Lh G.boot_int rfl) az))) (xj (Zab (bL G.gG (by rfl) T.bW G.boot_isinstance (aa (pv 0) (aa (jw rfl T.Li G.boot_bool rfl) az)))) (Cg (lJ fD (pv 0) (pv 1) (ou _)))))))) aQ)
   (ao (bQ (iG (bL G.gG (by rfl) T.bW G.boot_isinstance (aa (pv 1) (aa (jw rfl T.Lg G.boot_str rfl) az)))) (aC (aM ((xj (bL G.gG (by rfl) T.bW G.boot_isinstance (aa (pv 0) (aa (jw rfl T.Lg G.boot_str rfl) az))) (Cg (lJ fD (pv 0) (pv 1) (ou _))))))) aQ)
   (ao (bQ (PW.pt (q8 (iG (bL G.gG (by rfl) T.bW G.boot_isinstance (aa (pv 1) (aa (jw rfl T.yq G.boot_list rfl) az)))) (oZ (rm (iG (bL G.gG (by rfl) T.bW G.boot_isinstance (aa (pv 0) (aa (jw rfl T.yq G.boot_list rfl) az)))))))) (aC (aM (m6))) aQ)
   (ao (bQ (PW.pt (q8 (iG (bL G.gG (by rfl) T.bW G.boot_isinstance (aa (pv 1) (aa (jw rfl T.vY G.boot_tuple rfl) az)))) (oZ (rm (iG (bL G.gG (by rfl) T.bW G.boot_isinstance (aa (pv 0) (aa (jw rfl T.vY G.boot_tuple rfl) az)))))))) (aC (aM (m6))) aQ)
   (ao (bQ (lQ Dq (bL G.cV (by rfl) T.kh G.boot_len (aa (pv 0) az)) (bL G.cV (by rfl) T.kh G.boot_len (aa (pv 1) az))) (aC (aM (m6))) aQ)
   (ao (rz PassesOwn.never rfl (oH rfl T.oN (aa (bL G.cV (by rfl) T.kh G.boot_len (aa (pv 1) az)) az)) (kZ (i:=2) sc.nd rfl (Or.inl rfl))
   (aC (bQ (rm (iG (qj eN.g (hr.mono (by omega)) rfl T.kO eN.k eN.b .nil G.jD (aa (dj Vy (pv 0) (pv 2)) (aa (dj Vy (pv 1) (pv 2)) az))))) (aC (aM (m6))) aQ)))
   (aC (aM (m6)))))))))))),?_⟩
  obtain ⟨z0,z1,rfl,q⟩:=h;exact Q4 q
theorem xG {d lv:Nat} (hlv:0≤lv) {fd:FuncData} (F:jY K "_law_same" "_law_same" ue dR fd) (eN:Hh P w K mg base lv dR fd qK (oG d)):qP P w K mg base (G.Kv P w) (lv + 1) dR fd ["_law_found","_law_due"] (oG (d + 1)):=by
 have sc:=Dd;walk_at "ok"
 ·refine ⟨jG K (oG d),(ao (bQ (lQ G.qp (pv 1) (gF)) (aC (aM (lJ G.qp (pv 0) (gF) (ou _)))) aQ)
   (ao (bQ (lQ G.zx (pv 1) (m6)) (aC (aM (lJ G.zx (pv 0) (m6) (ou _)))) aQ)
   (ao (bQ (lQ G.zx (pv 1) (m6)) (aC (aM (lJ G.zx (pv 0) (m6) (ou _)))) aQ)
   (ao (bQ (iG (bL G.gG (by rfl) T.bW G.boot_isinstance (aa (pv 1) (aa (jw rfl T.Lh G.boot_int rfl) az)))) (aC (aM ((xj (bL G.gG (by rfl) T.bW G.boot_isinstance (aa (pv 0) (aa (jw rfl T.Lh G.boot_int rfl) az))) (xj (Zab (bL G.gG (by rfl) T.bW G.boot_isinstance (aa (pv 0) (aa (jw rfl T.Li G.boot_bool rfl) az)))) (Cg (lJ fD (pv 0) (pv 1) (ou _)))))))) aQ)
   (ao (bQ (iG (bL G.gG (by rfl) T.bW G.boot_isinstance (aa (pv 1) (aa (jw rfl T.Lg G.boot_str rfl) az)))) (aC (aM ((xj (bL G.gG (by rfl) T.bW G.boot_isinstance (aa (pv 0) (aa (jw rfl T.Lg G.boot_str rfl) az))) (Cg (lJ fD (pv 0) (pv 1) (ou _))))))) aQ)
   (ao (bQ (PW.pt (q8 (iG (bL G.gG (by rfl) T.bW G.boot_isinstance (aa (pv 1) (aa (jw rfl T.yq G.boot_list rfl) az)))) (oZ (rm (iG (bL G.gG (by rfl) T.bW G.boot_isinstance (aa (pv 0) (aa (jw rfl T.yq G.boot_list rfl) az)))))))) (aC (aM (m6))) aQ)
   (ao (bQ (PW.pt (q8 (iG (bL G.gG (by rfl) T.bW G.boot_isinstance (aa (pv 1) (aa (jw rfl T.vY G.boot_tuple rfl) az)))) (oZ (rm (iG (bL G.gG (by rfl) T.bW G.boot_isinstance (aa (pv 0) (aa (jw rfl T.vY G.boot_tuple rfl) az)))))))) (aC (aM (m6))) aQ)
   (ao (bQ (lQ Dq (bL G.cV (by rfl) T.kh G.boot_len (aa (pv 0) az)) (bL G.cV (by rfl) T.kh G.boot_len (aa (pv 1) az))) (aC (aM (m6))) aQ)
   (ao (rz PassesOwn.never rfl (oH rfl T.oN (aa (bL G.cV (by rfl) T.kh G.boot_len (aa (pv 1) az)) az)) (kZ (i:=2) sc.nd rfl (Or.inl rfl))
   (aC (bQ (rm (iG (qj eN.g (hr.mono (by omega)) rfl T.kO eN.k eN.b .nil G.jD (aa (dj Vy (pv 0) (pv 2)) (aa (dj Vy (pv 1) (pv 2)) az))))) (aC (aM (m6))) aQ)))
   (aC (aM (m6)))))))))))),?_⟩
  obtain ⟨z0,z1,rfl,q⟩:=h;exact Wu q
theorem Py {fd:FuncData} (F:jY K "_law_store" "_law_store" wz gO fd):mQ P w K mg base 1 gO fd xr (K5 K):=by
 have sc:=Pa;walk_at "ok"
 ·refine ⟨uQ K,(aC (aM (Ut (lV (aH) (pv 0) (lV (aH) (au) (lV (aH) (au) (lV (aH) (G.Mw (cns:=[]) [] (o5 (pv 1)) (fun _ _ _ _ _=>G.Cd) (fun _ _ _ _ _=>(bw Uu (dJ (aa (gF) az)) (pv 0))) rfl rfl (by repeat (first | exact trivial | refine ⟨rfl,?_⟩)) (by repeat (first | exact trivial | refine ⟨rfl,?_⟩)) rfl (by decide +kernel) rfl (by decide +kernel) (by decide +kernel) rfl (by decide +kernel)) (lV (aH) (Dn) (lV (aH) (Dn) Ur)))))) rfl rfl (by decide) (by decide)))),?_⟩;obtain ⟨z0,z1,rfl,q⟩:=h;exact Q3 q
theorem Hz {fd:FuncData} (F:jY K "_law_due_word" "_law_due_word" qQ dU fd):mQ P w K mg base 1 dU fd rA (Zd7 K):=by
 have sc:=Gm;walk_at "ok"
 ·refine ⟨pP K,(ao (gD 2 sc.nd (dj aZ (pv 1) (au)))
   (ao (bQ (PW.pt (q8 (lQ fD (pv 2) (aH)) (oZ (lQ Zm8 (bw jN (bw jN (bw jN (xW hr (pv 0) (aH)) (au)) (dj aZ (pv 1) (au))) (dj aZ (pv 1) (au))) (xW hr (pv 0) (aH)))))) (aC (aM (aH))) aQ)
   (ao (bQ (PW.pt (q8 (lQ fD (pv 2) (aH)) (oZ (Zg1 (RM (vQ hr) (dj aZ (pv 1) (au)) (xW hr (pv 0) (aH))))))) (aC (aM (aH))) aQ)
   (ao (bQ (lQ Hv (pv 2) (eY (aa (aH) (aa (aH) (aa (aH) (aa (aH) (aa (aH) az)))))) (by with_unfolding_all rfl)) (aC (aM (aH))) aQ)
   (ao (gD 3 sc.nd (dj aZ (pv 1) (au)))
   (ao (bQ (lQ fD (pv 2) (aH)) (aC (gD 3 sc.nd (dj aZ (pv 1) (au)))) aQ)
   (ao (gD 4 sc.nd (dj bf (dj bf (xW hr (pv 0) (aH)) (dj aZ (pv 1) (au))) (pv 3)))
   (ao (bQ (lQ G.qp (pv 4) (gF)) (aC (aM (aH))) aQ)
   (ao (bQ (PW.pt (q8 (lQ fD (pv 2) (aH)) (oZ (lQ Zgh (dj aZ (pv 1) (au)) (bL G.cV (by rfl) T.kh G.boot_len (aa (dj bf (xW hr (xW hr (pv 0) (aH)) (pv 4)) (au)) az)))))) (aC (aM (aH))) aQ)
   (ao (bQ (PW.pt (q8 (lQ fD (pv 2) (aH)) (oZ (lQ Zgh (dj aZ (pv 1) (au)) (bL G.cV (by rfl) T.kh G.boot_len (aa (dj bf (xW hr (xW hr (pv 0) (aH)) (pv 4)) (au)) az)))))) (aC (aM (aH))) aQ)
   (aC (aM (aH))))))))))))),?_⟩
  obtain ⟨z0,z1,rfl,q⟩:=h;exact Ji q
theorem Ke {fd:FuncData} (F:jY K "_law_made_in" "_law_made_in" sY eU fd):mQ P w K mg base 1 eU fd tM (Fe):=by
 have sc:=Kc;walk_at "ok"
 ·refine ⟨qY K,(ao (gD 2 sc.nd (bw jN (bw jN (au) (dj aZ (pv 1) (au))) (dj aZ (pv 1) (au))))
   (ao (ug (vQ hr) (pv 0) (aH) (bw jN (xW hr (pv 0) (aH)) (pv 2)) rfl)
   (ao (ug (vQ hr) (pv 0) (aH) (bw jN (xW hr (pv 0) (aH)) (au)) rfl)
   (ao (ug (vQ hr) (xW hr (pv 0) (aH)) (xW hr (pv 0) (aH)) (dJ (aa (pv 2) (aa (au) (aa (bw Uu (dJ (aa (gF) az)) (dj aZ (pv 1) (au))) az)))) rfl)
   (ao (mZ (xW hr (pv 0) (aH)) (m5 (dj bf (xW hr (pv 0) (aH)) (dj aZ (pv 1) (au))) (dj aZ (pv 1) (au)) set_list))
   (aC (aM (xW hr (pv 0) (aH))))))))),?_⟩
  obtain ⟨z0,z1,rfl,q⟩:=h;exact Kp q
theorem PK {fd:FuncData} (F:jY K "_law_moved" "_law_moved" wC gR fd):mQ P w K mg base 1 gR fd xF (K8 K):=by
 have sc:=Ph;walk_at "ok"
 ·refine ⟨uU K,(ao (gD 2 sc.nd (dj bf (xW hr (pv 0) (aH)) (dj aZ (pv 1) (au))))
   (ao (bQ (lQ fD (dj aZ (pv 1) (au)) (aH)) (ao (mZ (dj bf (dj bf (xW hr (xW hr (pv 0) (aH)) (dj bf (pv 2) (dj aZ (pv 1) (au)))) (au)) (dj aZ (pv 1) (au))) (m5 (pv 2) (dj aZ (pv 1) (au)) set_list))
   (aC (aM (dj bf (pv 2) (dj aZ (pv 1) (au)))))) aQ)
   (ao (bQ (lQ fD (dj aZ (pv 1) (au)) (aH)) (ao (mZ (dj bf (pv 2) (dj aZ (pv 1) (au))) (m5 (pv 2) (dj aZ (pv 1) (au)) set_list))
   (aC (aM (dj bf (pv 2) (dj aZ (pv 1) (au)))))) aQ)
   (ao (bQ (lQ fD (dj aZ (pv 1) (au)) (aH)) (ao (gD 3 sc.nd (dj bf (pv 2) (dj aZ (pv 1) (au))))
   (ao (mZ (gF) (m5 (pv 2) (dj aZ (pv 1) (au)) set_list))
   (aC (aM (pv 3))))) aQ)
   (ao (mZ (dj bf (pv 2) (dj aZ (pv 1) (au))) (m5 (dj bf (xW hr (pv 0) (aH)) (dj aZ (pv 1) (au))) (dj aZ (pv 1) (au)) set_list))
   (aC (aM (dj bf (pv 2) (dj aZ (pv 1) (au)))))))))),?_⟩
  obtain ⟨z0,z1,rfl,q⟩:=h;exact Q7 q
theorem Px {fd:FuncData}{Km QK:FuncData} (F:jY K "_law_thing" "_law_thing" wu gM fd) (Oo:Hh P w K mg base 1 eU Km tM (Fe)) (W8:Hh P w K mg base 1 gR QK xF (K8 K)):mQ P w K mg base 2 gM fd xq (Fd K):=by
 have sc:=O9;walk_at "ok"
 ·refine ⟨uP K (Fe) (K8 K),(ao (gD 2 sc.nd (dj aZ (pv 1) (au)))
   (ao (bQ (lQ fD (pv 2) (aH)) (aC (aM (jZ Oo hr T.zG (aa (pv 0) (aa (pv 1) az))))) aQ)
   (ao (bQ (lQ Hv (pv 2) (eY (aa (aH) (aa (aH) (aa (aH) (aa (aH) az))))) (by with_unfolding_all rfl)) (aC (aM (jZ W8 hr T.Ef (aa (pv 0) (aa (pv 1) az))))) aQ)
   (ao (gD 3 sc.nd (dj bf (xW hr (pv 0) (aH)) (dj aZ (pv 1) (au))))
   (ao (bQ (lQ fD (pv 2) (aH)) (ao (mZ (xW hr (xW hr (pv 0) (aH)) (dj aZ (pv 1) (au))) (m5 (pv 3) (dj aZ (pv 1) (au)) set_list))
   (aC (aM (dj bf (pv 3) (dj aZ (pv 1) (au)))))) aQ)
   (ao (gD 4 sc.nd (dj bf (pv 3) (dj aZ (pv 1) (au))))
   (ao (gD 5 sc.nd (xW hr (xW hr (pv 0) (aH)) (pv 4)))
   (ao (bQ (lQ fD (pv 2) (aH)) (ao (gD 6 sc.nd (dj bf (dj bf (pv 5) (au)) (dj aZ (pv 1) (au))))
   (ao (mZ (dj bf (pv 3) (dj aZ (pv 1) (au))) (m5 (dj bf (pv 5) (au)) (dj aZ (pv 1) (au)) set_list))
   (aC (aM (pv 6))))) aQ)
   (ao (bQ (lQ fD (pv 2) (aH)) (ao (gD 6 sc.nd (dj bf (pv 5) (au)))
   (ao (mZ (dj aZ (pv 1) (au)) (m5 (pv 5) (au) set_list))
   (aC (aM (pv 6))))) aQ)
   (ao (bQ (lQ fD (pv 2) (aH)) (aC (aM (dj bf (pv 5) (au)))) aQ)
   (ao (ug (vQ hr) (xW hr (pv 0) (aH)) (dj aZ (pv 1) (au)) (pv 4) rfl)
   (aC (aM (pv 4)))))))))))))),?_⟩
  obtain ⟨z0,z1,rfl,q⟩:=h;exact QZ q
theorem UW {fd:FuncData} (F:jY K "_law_load" "_law_load" yJ iY fd) {gU:FuncData} (dF:Hh P w K mg base 1 fc gU lW (pG)):mQ P w K mg base 2 iY fd zj (WR):=by
 have sc:=T7;walk_at "ok"
 ·refine ⟨wU (pG),(ao (gD 1 sc.nd (bw eZ (bw G.Zcj (pv 0) (bw Hu (au) (au))) (bw Hu (au) (au))))
   (ao (bQ (lQ fD (bw eZ (jZ dF hr T.fQ (aa (pv 0) (aa (au) az))) (au)) (au)) (aC (aM (Zpx Zmf (pv 1)))) aQ)
   (aC (aM (pv 1))))),?_⟩
  obtain ⟨z0,rfl,q⟩:=h;exact Wx q
theorem U3 {fd:FuncData}{V8 gU:FuncData} (F:jY K "_law_deed" "_law_deed" yL je fd) (Zh:Hh P w K mg base 2 iY V8 zj (WR)) (dF:Hh P w K mg base 1 fc gU lW (pG)):mQ P w K mg base 3 je fd zp (La K):=by
 have sc:=Ub;walk_at "okw"
 ·refine ⟨wW K (WR) (pG),(iy (gD 3 sc.nd (jZ dF hr T.fQ (aa (pv 0) (aa (au) az))))
   (iy (gD 4 sc.nd (jZ dF hr T.fQ (aa (pv 0) (aa (au) az))))
   (iy (gD 5 sc.nd (jZ dF hr T.fQ (aa (pv 0) (aa (au) az))))
   (iy (gD 6 sc.nd (bw eZ (pv 4) (bL G.cV (by rfl) T.kh G.boot_len (aa (pv 1) az))))
   (iy (gD 7 sc.nd (bw eZ (bw o7 (pv 4) (au)) (dj bf (pv 1) (pv 6))))
   (iy (gD 8 sc.nd (bw eZ (bw o7 (pv 4) (au)) (dj bf (pv 1) (pv 6))))
   (Zci (i:=9) sc.nd rfl (Or.inl rfl) (cX (au) (cX (au) (cX (au) (cX (au) (cX (au) (cX (au) (cX (au) (cX (bw eZ (bw o7 (pv 5) (au)) (au)) KD)))))))) (bw eZ (bw o7 (pv 5) (au)) (au)) (fun _ _=>rfl)
   (iy (gD 10 sc.nd (bw eZ (pv 3) (au)))
   (Zmx (lQ RN (pv 10) (au)) (Zci (i:=11) sc.nd rfl (Or.inl rfl) (cX (au) (cX (au) (cX (au) (cX (au) (cX (au) (cX (bw eZ (bw G.Zcj (pv 0) (bw Hu (au) (au))) (bw jN (bw Hu (au) (au)) (au))) KD)))))) (bw eZ (bw o7 (pv 3) (au)) (au)) (fun _ _=>rfl)
   (Zg2 (cX (aH) (cX (pv 6) (cX (pv 7) (Zk7 (cX (au) (cX (au) (cX (au) (cX (au) (cX (au) (cX (au) (cX (au) (cX (au) KD)))))))) (bw eZ (pv 5) (au)) (fun _ _=>rfl) (cX (pv 11) KD))))))) Zjn
   (iy (bQ (lQ RN (pv 10) (au)) (aC (aM (eY (aa (aH) (aa (pv 6) (aa (pv 8) (aa (pv 9) (aa (pv 7) az)))))))) aQ)
   (iy (bQ (lQ RN (pv 10) (au)) (aC (aM (eY (aa (aH) (aa (pv 6) (aa (pv 7) (aa (pv 8) (aa (pv 9) az)))))))) aQ)
   (iy (bQ (lQ fD (pv 10) (au)) (aC (aM (eY (aa (aH) (aa (pv 6) (aa (pv 7) (aa (pv 8) az))))))) aQ)
   (iy (bQ (lQ fD (pv 10) (au)) (aC (aM (eY (aa (aH) (aa (pv 6) (aa (pv 7) az)))))) aQ)
   (iy (bQ (lQ fD (pv 10) (au)) (ao (gD 12 sc.nd (bw eZ (bw o7 (pv 5) (au)) (bL G.cV (by rfl) T.kh G.boot_len (aa (pv 1) az))))
   (aC (aM (eY (aa (aH) (aa (pv 6) (aa (pv 7) (aa (pv 12) (aa (bw eZ (bw o7 (pv 5) (au)) (dj bf (pv 1) (pv 12))) az))))))))) aQ)
   (iy (bQ (lQ fD (pv 10) (au)) (aC (aM (eY (aa (aH) (aa (pv 6) (aa (pv 8) (aa (jZ Zh hr T.JK (aa (pv 0) az)) az))))))) aQ)
   (iy (bQ (lQ fD (pv 10) (au)) (aC (aM (eY (aa (aH) (aa (pv 6) (aa (pv 8) az)))))) aQ)
   (iy (bQ (lQ fD (pv 10) (au)) (aC (aM (eY (aa (aH) (aa (pv 6) (aa (pv 8) (aa (dj bf (pv 2) (bw eZ (pv 5) (bL G.cV (by rfl) T.kh G.boot_len (aa (pv 2) az)))) az))))))) aQ)
   (Zch (aM (eY (aa (aH) (aa (pv 6) (aa (pv 7) (aa (dj bf (pv 2) (bw eZ (pv 5) (bL G.cV (by rfl) T.kh G.boot_len (aa (pv 2) az)))) az)))))))))))))))))))))))),?_⟩
  obtain ⟨z0,z1,z2,rfl,q⟩:=h;exact Wz q
theorem Pu {fd:FuncData} (F:jY K "_law_tried" "_law_tried" wj gK fd) {Zrb:FuncData} (Zpf:Hh P w K mg base 5 QV Zrb Zn2 (bY XQ (yo bH aF aP aV) (fun _=>True))):mQ P w K mg base 6 gK fd xm (K4 XQ (yo bH aF aP aV)):=by
 have sc:=O8;walk_at "ok"
 ·refine ⟨uO aF bH aP aV (bY XQ (yo bH aF aP aV) (fun _=>True)),(ao (gD 2 sc.nd (gF))
   (ao (gD 3 sc.nd (aH))
   (ao (G.Zjo ⟨rfl,rfl⟩ rfl T.zH rfl T.Ib rfl T.Zax rfl T.Nb (fun cls h=>by rcases h with rfl<;>first | exact T.jB) (fun cls h=>by rcases h with rfl<;>first | exact ⟨T.jJ,T.lO⟩) (fun cls h=>by rcases h with rfl<;>first | exact ⟨T.lN,T.nG,T.uy⟩) (fun cls h=>by rcases h with rfl<;>first | exact ⟨T.jU,T.lM,T.o8,T.nQ⟩) (fun Ex pn xe hx=>(aC (gD 2 sc.nd (G.Zge Zpf.g (hr.mono (by decide)) rfl T.Zq2 Zpf.k Zpf.b .nil hx (aa (pv 0) (aa (pv 1) az)))))) (fun ea pn=>(aC (gD 3 sc.nd (aH)))) (fun ea pn=>(aC (gD 3 sc.nd (aH)))) (fun ea pn=>(aC (gD 3 sc.nd (aH)))) (fun ea pn=>(aC (gD 3 sc.nd (aH)))))
   (ao (bQ (lQ Dq (pv 3) (aH)) (aC (aM (eY (aa (aH) (aa (pv 3) (aa (dJ az) az)))))) aQ)
   (aC (aM (pv 2))))))),?_⟩
  obtain ⟨z0,z1,rfl,q⟩:=h;exact QX rfl rfl rfl rfl q
theorem UL {fd:FuncData} (F:jY K "_law_said" "_law_said" yH iV fd):mQ P w K mg base 1 iV fd zf (Jl):=by
 have sc:=TX;walk_at "okw"
 ·refine ⟨wQ,(Zg3 (i:=1) sc.nd rfl (Or.inl rfl) (vJ nF nF (vJ nF nF (vJ nF nF (vJ nF nF (vJ nF nF (vJ nF nF Zjp)))))) rfl rfl (by decide) (by decide)
   (iy (mK (G.Zk5 (pv 1) (Ut (lV (aH) (aH) (lV (aH) (aH) (lV (aH) (aH) (lV (aH) (aH) Ur)))) rfl rfl (by decide) (by decide)) ⟨rfl,rfl,rfl,rfl⟩))
   (Zch (aM (xW hr (pv 1) (pv 0)))))),?_⟩
  obtain ⟨z0,rfl,q⟩:=h;exact Wv q
theorem HB {fd:FuncData} (F:jY K "_law_asked_of" "_law_asked_of" qR dW fd):mQ P w K mg base 1 dW fd rB (Ld K):=by
 have sc:=Gn;walk_at "ok"
 ·refine ⟨pQ K,(ao (gD 4 sc.nd (dj aZ (pv 1) (au)))
   (ao (gD 5 sc.nd (dj bf (xW hr (pv 0) (aH)) (dj aZ (pv 1) (au))))
   (ao (gD 6 sc.nd (dJ az))
   (ao (bQ (lQ fD (pv 4) (aH)) (ao (bQ (lQ G.Zae (aH) (pv 2) (by with_unfolding_all rfl)) (aC (mK (xV PySem.F.plainAttrs_list PySem.F.slot_list_append PySem.F.type_list_append jg (pv 6) (aa (dj bf (dj bf (xW hr (xW hr (pv 0) (aH)) (dj bf (pv 5) (dj aZ (pv 1) (au)))) (au)) (dj aZ (pv 1) (au))) az)))) aQ)
   (aC (bQ (PW.pt (q8 (lQ G.Zae (aH) (pv 2) (by with_unfolding_all rfl)) (oZ (rm (iG (pv 3)))))) (aC (mK (xV PySem.F.plainAttrs_list PySem.F.slot_list_append PySem.F.type_list_append jg (pv 6) (aa (dj bf (pv 5) (dj aZ (pv 1) (au))) az)))) aQ))) aQ)
   (ao (bQ (PW.pt (q8 (lQ fD (pv 4) (aH)) (q8 (lQ G.Zae (aH) (pv 2) (by with_unfolding_all rfl)) (oZ (rm (iG (pv 3))))))) (aC (mK (xV PySem.F.plainAttrs_list PySem.F.slot_list_append PySem.F.type_list_append jg (pv 6) (aa (dj bf (pv 5) (dj aZ (pv 1) (au))) az)))) aQ)
   (ao (bQ (lQ fD (pv 4) (aH)) (aC (mK (xV PySem.F.plainAttrs_list PySem.F.slot_list_append PySem.F.type_list_append jg (pv 6) (aa (xW hr (xW hr (pv 0) (aH)) (dj aZ (pv 1) (au))) az)))) aQ)
   (aC (aM (pv 6))))))))),?_⟩
  obtain ⟨z0,z1,z2,z3,rfl,q⟩:=h;exact Jj q
theorem PB {fd:FuncData} (F:jY K "_law_noted" "_law_noted" wA gP fd):mQ P w K mg base 1 gP fd xu (K6):=by
 have sc:=Pb;walk_at "ok"
 ·refine ⟨uR K,(ao (gD 3 sc.nd (dJ az))
   (ao (rz PassesOwn.never rfl (o5 (pv 2)) (kZ (i:=4) sc.nd rfl (Or.inl rfl))
   (aC (bQ (PW.pt (q8 (lQ G.Mz (pv 4) (gF)) (oZ (lQ fD (xW hr (pv 0) (pv 4)) (aH))))) (ao (ug (vQ hr) (pv 0) (pv 4) (aH) rfl)
   (ao (mK (xV PySem.F.plainAttrs_list PySem.F.slot_list_append PySem.F.type_list_append jg (pv 1) (aa (bw zu (pv 4) (au)) az)))
   (aC (mK (xV PySem.F.plainAttrs_list PySem.F.slot_list_append PySem.F.type_list_append jg (pv 3) (aa (pv 4) az)))))) aQ)))
   (aC (aM (pv 3))))),?_⟩
  obtain ⟨z0,z1,z2,rfl,q⟩:=h;exact Q5 q
theorem UJ {fd:FuncData}{IK Iz QH V6 xP QF QD:FuncData} (F:jY K "_law_turn" "_law_turn" yG iU fd) (Ku:Hh P w K mg base 1 dW IK rB (Ld K)) (Ks:Hh P w K mg base 1 dU Iz rA (Zd7 K)) (W6:Hh P w K mg base 1 gP QH xu (K6)) (Zf:Hh P w K mg base 1 iV V6 zf (Jl)) (eN:Hh P w K mg base 4 dR xP qK (oG 3)) (W4:Hh P w K mg base 2 gM QF xq (Fd K)) (W3:Hh P w K mg base 6 gK QD xm (K4 XQ (yo bH aF aP aV))):mQ P w K mg base 7 iU fd zb (K3 XQ):=by
 have sc:=TV;have tx:=sG _ T;walk_at "ok"
 ·refine ⟨wO K (Ld K) (Zd7 K) (K6) (Jl) (oG 3) (Fd K) (K4 XQ (yo bH aF aP aV)),(ao (gD 6 sc.nd (jZ Ks hr T.xY (aa (pv 1) (aa (pv 5) az))))
   (ao (gD 7 sc.nd (jZ W3 hr T.DY (aa (pv 0) (aa (pv 5) az))))
   (ao (bQ (lQ Dq (pv 6) (aH)) (aC (aM (jZ eN hr T.kO (aa (pv 7) (aa (eY (aa (aH) (aa (pv 6) (aa (dJ az) az)))) az))))) aQ)
   (ao (gD 8 sc.nd (dJ az))
   (ao (bQ (lQ Dq (pv 4) (aH)) (aC (gD 8 sc.nd (jZ W6 hr T.Ec (aa (pv 2) (aa (pv 3) (aa (jZ Ku hr T.xZ (aa (pv 1) (aa (pv 5) (aa (pv 4) (aa (lJ fD (yX G.ZX (pv 4) Us (xg (au))) (aH) (ou _)) az))))) az)))))) aQ)
   (ao (gD 9 sc.nd (jZ W4 hr T.Ea (aa (pv 1) (aa (pv 5) az))))
   (ao (bQ (lQ fD (dj aZ (pv 5) (au)) (aH)) (ao (ug (vQ hr) (pv 2) (pv 9) (aH) rfl)
   (aC (bQ (lQ fD (pv 4) (aH)) (aC (ug (vQ hr) (pv 2) (pv 9) (aH) rfl)) aQ))) aQ)
   (aC (aM ((xj (jZ eN hr T.kO (aa (pv 7) (aa (eY (aa (jZ Zf hr T.JG (aa (dj aZ (pv 5) (au)) az)) (aa (pv 9) (aa (pv 8) az)))) az))) (Cg (jZ eN hr T.kO (aa (aW (aW (pv 0) rfl) rfl) (aa (pv 3) az))))))))))))))),?_⟩
  obtain ⟨z0,z1,z2,z3,z4,z5,rfl,q⟩:=h;exact Wt tx q
theorem UT {fd:FuncData} (F:jY K "_law_pair" "_law_pair" yI iW fd) {gU:FuncData} (dF:Hh P w K mg base 1 fc gU lW (pG)):mQ P w K mg base 2 iW fd zg (WL):=by
 have sc:=TY;walk_at "ok"
 ·refine ⟨wR K (pG),(ao (gD 2 sc.nd (jZ dF hr T.fQ (aa (pv 0) (aa (au) az))))
   (ao (gD 3 sc.nd (jZ dF hr T.fQ (aa (pv 0) (aa (au) az))))
   (ao (gD 4 sc.nd (bw eZ (pv 2) (bL G.cV (by rfl) T.kh G.boot_len (aa (pv 1) az))))
   (ao (gD 5 sc.nd (eY (aa (aH) (aa (pv 4) (aa (bw eZ (pv 3) (dj bf (pv 1) (pv 4))) (aa (bw eZ (bw o7 (pv 3) (au)) (au)) (aa (bw eZ (bw o7 (pv 3) (au)) (dj bf (pv 1) (pv 4))) az)))))))
   (aC (aM (dJ (aa (eY (aa (aH) (aa (pv 4) (aa (bw eZ (bw o7 (pv 2) (au)) (dj bf (pv 1) (pv 4))) (aa (au) (aa (au) az)))))) (aa (pv 5) az))))))))),?_⟩
  obtain ⟨z0,z1,rfl,q⟩:=h;exact Ww q
theorem MT {fd:FuncData}{xP NZ QC:FuncData} (F:jY K "_law_stands" "_law_stands" uM fM fd) (eN:Hh P w K mg base 4 dR xP qK (oG 3)) (Rb:Hh P w K mg base 4 fL NZ ["world"] (Ff XQ)) (W2:Hh P w K mg base 5 gJ QC ["world"] (WK XQ)):mQ P w K mg base 6 fM fd vf (Aa XQ):=by
 have sc:=Mj;walk_at "ok"
 ·refine ⟨tK K (oG 3) (Ff XQ) (WK XQ),(ao (gD 3 sc.nd (dJ az))
   (ao (gD 4 sc.nd (xW hr (pv 1) (aH)))
   (ao (rz PassesOwn.never rfl (G.Zjw (pv 4)) (kZ (i:=5) sc.nd rfl (Or.inl rfl))
   (ao (gD 6 sc.nd (xW hr (pv 4) (pv 5)))
   (aC (mK (xV PySem.F.plainAttrs_list PySem.F.slot_list_append PySem.F.type_list_append jg (pv 3) (aa (eY (aa (bw zu (pv 5) (au)) (aa (pv 5) (aa (bw zu (bw zu (dj bf (pv 6) (au)) (au)) (bL G.cV (by rfl) T.kh G.boot_len (aa (dj bf (pv 6) (au)) az))) (aa (dj bf (pv 6) (au)) (aa (Ze0 G.Zc3 (by rfl) T.yq G.boot_list (aa (dj bf (pv 6) (au)) az)) (aa (xW hr (pv 2) (pv 5)) az))))))) az))))))
   (aC (aM ((xj (jZ eN hr T.kO (aa (jZ W2 hr T.DX (aa (pv 0) az)) (aa (pv 3) az))) (Cg (jZ eN hr T.kO (aa (jZ Rb hr T.Bf (aa (pv 0) az)) (aa (xW hr (pv 1) (aH)) az))))))))))),?_⟩
  obtain ⟨z0,z1,z2,rfl,q⟩:=h;exact Oj q
theorem Zn8 {fl:Addr}{fd:FuncData}{Eu Ko Wb V9 gU QJ V7 N5 QG V5 Zia Zbh:FuncData} (F:jY K "law" "law" Ml fl fd) (vU:Hh P w K mg base 3 cG Eu pY (rZ XQ)) (pI:Hh P w K mg base 1 eV Ko tO (Zlx K)) (Zj:Hh P w K mg base 3 je Wb zp (La K)) (Zi:Hh P w K mg base 2 iZ V9 zm (K9)) (dF:Hh P w K mg base 1 fc gU lW (pG)) (W7:Hh P w K mg base 2 gQ QJ xx (K7)) (Zg:Hh P w K mg base 2 iW V7 zg (WL)) (Rc:Hh P w K mg base 6 fM N5 vf (Aa XQ)) (W5:Hh P w K mg base 1 gO QG xr (K5 K)) (JZ:Hh P w K mg base 7 iU V5 zb (K3 XQ)) (Zlz:Hh P w K mg base 3 qy Zia ["world"] (Lb XQ)) (Zfh:Hh P w K mg base 3 lF Zbh ["text"] (Ac XQ)):mQ P w K mg base 8 fl fd ["_law_script"] (Zd6 K):=by
 have sc:=Zms;walk_at "ok"
 ·refine ⟨Za7 K XQ.W (rZ XQ) (Zlx K) (La K) (K9) (pG) (K7) (WL) (Aa XQ) (K5 K) (K3 XQ) (Lb XQ) (Ac XQ),(ao (gD 1 sc.nd (jZ Zi hr T.JL (aa (jZ pI hr T.lZ (aa (pv 0) (aa (au) az))) az)))
   (ao (gD 2 sc.nd (bw jN (au) (bw eZ (jZ pI hr T.lZ (aa (pv 0) (aa (au) az))) (au))))
   (ao (Uq (i:=3) sc.nd rfl (Or.inr rfl) (G.Mw (cns:=["_law_script"]) [0] (oH rfl T.oN (aa (pv 2) az)) (fun _ _ _ _ _=>G.Cd) (fun _ _ _ _ _=>(bw jN (au) (bw eZ (jZ dF hr T.fQ (aa (jZ pI hr T.lZ (aa (pv 1) (aa (au) az))) (aa (bw jN (au) (bw Uv (pv 0) (pv 0))) az))) (au)))) rfl rfl (by repeat (first | exact trivial | refine ⟨rfl,?_⟩)) (by repeat (first | exact trivial | refine ⟨rfl,?_⟩)) rfl (by decide +kernel) rfl (by decide +kernel) (by decide +kernel) rfl (by decide +kernel)))
   (ao (gD 4 sc.nd (jZ W7 hr T.Ed (aa (jZ pI hr T.lZ (aa (pv 0) (aa (au) az))) (aa (au) az))))
   (ao (gD 5 sc.nd (Dm T.DG vU.g (hr.mono (by decide)) rfl T.Zcn vU.b .nil G.jD (aa (bw Hu (au) (au)) (aa (jZ Zfh hr T.RT (aa (pv 1) az)) (aa (G.Mw (cns:=["_law_slots"]) [3] (oH rfl T.oN (aa (pv 2) az)) (fun _ _ _ _ _=>G.Cd) (fun _ _ _ _ _=>(eY (aa (dj Vx (aH) (pv 0)) (aa (dj bf (pv 1) (pv 0)) az)))) rfl rfl (by repeat (first | exact trivial | refine ⟨rfl,?_⟩)) (by repeat (first | exact trivial | refine ⟨rfl,?_⟩)) rfl (by decide +kernel) rfl (by decide +kernel) (by decide +kernel) rfl (by decide +kernel)) az)))))
   (ao (gD 6 sc.nd (jZ W5 hr T.Eb (aa (bw Hu (au) (au)) (aa (pv 3) az))))
   (ao (gD 7 sc.nd (Dn))
   (ao (gD 8 sc.nd (dJ az))
   (ao (rz PassesOwn.never rfl (o5 (yX Zce (pv 0) (xg (au)) (xg (au)))) (kZ (i:=9) sc.nd rfl (Or.inl rfl))
   (aC (rz PassesOwn.never rfl (o5 (jZ Zg hr T.JH (aa (pv 9) (aa (pv 3) az)))) (kZ (i:=10) sc.nd rfl (Or.inl rfl))
   (aC (bQ (rm (iG (jZ JZ hr T.zF (aa (pv 5) (aa (pv 6) (aa (pv 7) (aa (pv 8) (aa (aH) (aa (pv 10) az))))))))) (aC (aM (m6))) aQ)))))
   (ao (mK (jZ Zlz hr T.Zcm (aa (pv 5) az)))
   (ao (rz PassesOwn.never rfl (o5 (yX Zce (pv 0) (xg (au)) (xg (au)))) (kZ (i:=9) sc.nd rfl (Or.inl rfl))
   (aC (bQ (rm (iG (jZ JZ hr T.zF (aa (pv 5) (aa (pv 6) (aa (pv 7) (aa (pv 8) (aa (pv 1) (aa (jZ Zj hr T.JM (aa (pv 9) (aa (pv 3) (aa (pv 4) az)))) az))))))))) (aC (aM (m6))) aQ)))
   (aC (aM (jZ Rc hr T.Bg (aa (pv 5) (aa (pv 6) (aa (pv 7) az))))))))))))))))),?_⟩
  obtain ⟨z0,rfl,q⟩:=h;exact Znp q
end
abbrev Fi (K:aG) (c:Addr) (s:Str) (f:Addr):Prop:=PySem.W.findIn K (.ref c) s=some (some (.ref f))
abbrev Fo (K:aG) (c:Addr) (s:Str):Prop:=PySem.W.findIn K (.ref c) s=some none
abbrev Ns (K:aG) (s:Str) (f:Addr):Prop:=PySem.W.nsIn K mainGlobals s=some (some (.ref f))
abbrev Ki (K:aG) (f:Addr):Prop:=PySem.W.keepIn K (.ref f)=true
abbrev Ci (K:aG) (c:Value) (s:Str):Prop:=PySem.W.codeIn K c s=true
abbrev Lk (K:aG) (f:Addr) (a b:Str) (s:Stmt) (d:Value) (oc:Value) (od:Option Addr) (kV dc pm:Value) (an:Option Addr) (cd ct:Value) (sl:Array (Option Value)):Prop:=K.lookup f=some ⟨oc,od,.func (PySem.W.fnOf a b (lA s) (iI s) (aJ s) d kV dc pm an cd ct),sl⟩
def mH (K:aG) (x q:Str) (s:Stmt) (f:Addr):Prop:=∃ oc od kV dc pm an cd ct sl,Lk K f x q s .none oc od kV dc pm an cd ct sl∧Ci K cd q∧Ki K f
theorem fgm {K:aG}{x q:Str}{s:Stmt}{f:Addr}{oc:Value}{od:Option Addr}{kV dc pm:Value}{an:Option Addr}{cd ct:Value}{sl:Array (Option Value)} (l:Lk K f x q s .none oc od kV dc pm an cd ct sl) (c:Ci K cd q) (k:Ki K f):mH K x q s f:=⟨oc,od,kV,dc,pm,an,cd,ct,sl,l,c,k⟩
theorem fg {K:aG}{x q:Str}{s:Stmt}{f:Addr} (h:mH K x q s f):∃ fd,jY K x q s f fd∧Ki K f:=by
 obtain ⟨oc,od,kV,dc,pm,an,cd,ct,sl,l,c,k⟩:=h;exact ⟨_,Zi3 l c k,k⟩
theorem Zt {K:aG}{x qual:Str}{st:Stmt}{f:Addr}{fd:FuncData} (F:jY K x qual st f fd) (a0:Str) (h:∀ (kV doc pm:Value) (an:Option Addr) (cdv ct u0:Value),bindArgs (PySem.W.fnOf x qual (lA st) (iI st) (aJ st) .none kV doc pm an cdv ct) ⟨[u0],[]⟩=pure (([a0]:List Str).zip [u0]):=by intros;rfl):Binds K fd [a0] []:=F.binds fun kV doc pm an cdv ct us hl=>match us,hl with | [u0],_=>h kV doc pm an cdv ct u0
theorem vA {K:aG}{x qual:Str}{st:Stmt}{f:Addr}{fd:FuncData} (F:jY K x qual st f fd) (a0 a1:Str) (h:∀ (kV doc pm:Value) (an:Option Addr) (cdv ct u0 u1:Value),bindArgs (PySem.W.fnOf x qual (lA st) (iI st) (aJ st) .none kV doc pm an cdv ct) ⟨[u0,u1],[]⟩=pure (([a0,a1]:List Str).zip [u0,u1]):=by intros;rfl):Binds K fd [a0,a1] []:=F.binds fun kV doc pm an cdv ct us hl=>match us,hl with | [u0,u1],_=>h kV doc pm an cdv ct u0 u1
theorem bd3 {K:aG}{x qual:Str}{st:Stmt}{f:Addr}{fd:FuncData} (F:jY K x qual st f fd) (a0 a1 a2:Str) (h:∀ (kV doc pm:Value) (an:Option Addr) (cdv ct u0 u1 u2:Value),bindArgs (PySem.W.fnOf x qual (lA st) (iI st) (aJ st) .none kV doc pm an cdv ct) ⟨[u0,u1,u2],[]⟩=pure (([a0,a1,a2]:List Str).zip [u0,u1,u2]):=by intros;rfl):Binds K fd [a0,a1,a2] []:=F.binds fun kV doc pm an cdv ct us hl=>match us,hl with | [u0,u1,u2],_=>h kV doc pm an cdv ct u0 u1 u2
theorem bd4 {K:aG}{x qual:Str}{st:Stmt}{f:Addr}{fd:FuncData} (F:jY K x qual st f fd) (a0 a1 a2 a3:Str) (h:∀ (kV doc pm:Value) (an:Option Addr) (cdv ct u0 u1 u2 u3:Value),bindArgs (PySem.W.fnOf x qual (lA st) (iI st) (aJ st) .none kV doc pm an cdv ct) ⟨[u0,u1,u2,u3],[]⟩=pure (([a0,a1,a2,a3]:List Str).zip [u0,u1,u2,u3]):=by intros;rfl):Binds K fd [a0,a1,a2,a3] []:=F.binds fun kV doc pm an cdv ct us hl=>match us,hl with | [u0,u1,u2,u3],_=>h kV doc pm an cdv ct u0 u1 u2 u3
theorem bd5 {K:aG}{x qual:Str}{st:Stmt}{f:Addr}{fd:FuncData} (F:jY K x qual st f fd) (a0 a1 a2 a3 a4:Str) (h:∀ (kV doc pm:Value) (an:Option Addr) (cdv ct u0 u1 u2 u3 u4:Value),bindArgs (PySem.W.fnOf x qual (lA st) (iI st) (aJ st) .none kV doc pm an cdv ct) ⟨[u0,u1,u2,u3,u4],[]⟩=pure (([a0,a1,a2,a3,a4]:List Str).zip [u0,u1,u2,u3,u4]):=by intros;rfl):Binds K fd [a0,a1,a2,a3,a4] []:=F.binds fun kV doc pm an cdv ct us hl=>match us,hl with | [u0,u1,u2,u3,u4],_=>h kV doc pm an cdv ct u0 u1 u2 u3 u4
theorem bd6 {K:aG}{x qual:Str}{st:Stmt}{f:Addr}{fd:FuncData} (F:jY K x qual st f fd) (a0 a1 a2 a3 a4 a5:Str) (h:∀ (kV doc pm:Value) (an:Option Addr) (cdv ct u0 u1 u2 u3 u4 u5:Value),bindArgs (PySem.W.fnOf x qual (lA st) (iI st) (aJ st) .none kV doc pm an cdv ct) ⟨[u0,u1,u2,u3,u4,u5],[]⟩=pure (([a0,a1,a2,a3,a4,a5]:List Str).zip [u0,u1,u2,u3,u4,u5]):=by intros;rfl):Binds K fd [a0,a1,a2,a3,a4,a5] []:=F.binds fun kV doc pm an cdv ct us hl=>match us,hl with | [u0,u1,u2,u3,u4,u5],_=>h kV doc pm an cdv ct u0 u1 u2 u3 u4 u5
theorem all_mk {l:PySem.W.OpenLaw}{w:World}{K:aG}{h:Heap}{mg:Str→Option Value}{fa fl bF bC fC ir iJ iK jP bD dZ aF aP bH aV cQ fX cU cN gB ju ie fV jl dO m9 bJ fW cT ig gZ cM fU lF cP cu cG fL gY iT gA lE gJ iR qy vp iw vq dB jk gW fJ eO gh iB iz gq gn gj d9 fZ gf fY fK QV fc eV iZ gQ dR gO dU eU gR gM iY je gK iV dW gP iU iW fM:Addr} (KI:K.In h) (GN:h.Ns mainGlobals mg) (hfa:mg "law"=some (.ref fa))
  {od5 an5 to5 Zsd Zrk:Option Addr}
  {sl5 ts5 Zs7:Array (Option Value)}
  {oc5 kV5 dc5 pm5 cd5 ct5 tc5 Zie Zcx Zse Zq6 Zrg Zpw Zp0 Zrh Zm3 Zm2:Value}
  {td5 N8:Addr}
  {tn5 YH:Nat}
  {Sh Sg Sd R9 R8 R7 R6 R5 R4 R3:Int}
  {Rz Ry Rx Rv Ru Rt Rr Rq Rp Ro:Tok}
  (Zpa:Ns K "Cell" bF)
  (Zp6:Ns K "Heap" bC)
  (Zlv:Ns K "First" fC)
  (Zp9:Ns K "Each" ir)
  (Zp4:Ns K "Last" iJ)
  (Zp5:Ns K "Kind" iK)
  (Zp7:Ns K "Hand" jP)
  (Zfe:Ns K "Sweeper" bD)
  (Zlu:Ns K "World" dZ)
  (Y9:Ns K "EmptySlot" aF)
  (Zff:Ns K "NoField" aP)
  (Zp8:Ns K "Full" bH)
  (Ziu:Ns K "NoName" aV)
  (a1:Fi K bF "__init__" cQ)
  (i1:PySem.W.isFn K (.ref cQ)=true)
  (a2:Fi K bF "units" fX)
  (i2:PySem.W.isFn K (.ref fX)=true)
  (a3:Fi K bF "has_field" cU)
  (i3:PySem.W.isFn K (.ref cU)=true)
  (a4:Fi K bC "__init__" cN)
  (i4:PySem.W.isFn K (.ref cN)=true)
  (a5:Fi K bC "make" gB)
  (i5:PySem.W.isFn K (.ref gB)=true)
  (l5:Lk K gB "make" "Heap.make" uf (.ref td5) oc5 od5 kV5 dc5 pm5 an5 cd5 ct5 sl5)
  (t5:K.lookup td5=some ⟨tc5,to5,.seq #[Zie,Zcx] tn5,ts5⟩)
  (Zzn:RelV (.int 0) Zie)
  (Zzm:RelV (.int 0) Zcx)
  (c5:Ci K cd5 "Heap.make")
  (k5:Ki K gB)
  (a6:Fi K bC "lay" ju)
  (i6:PySem.W.isFn K (.ref ju)=true)
  (a7:Fi K bC "free" ie)
  (i7:PySem.W.isFn K (.ref ie)=true)
  (a8:Fi K bC "there" fV)
  (i8:PySem.W.isFn K (.ref fV)=true)
  (a9:Ns K "cell_at" jl)
  (a10:Ns K "birth_at" dO)
  (a11:Ns K "all_of" m9)
  (a12:Fi K ir "at_begin" bJ)
  (i12:PySem.W.isFn K (.ref bJ)=true)
  (a13:Fi K fC "word" fW)
  (i13:PySem.W.isFn K (.ref fW)=true)
  (a14:Fi K fC "at_begin" cT)
  (i14:PySem.W.isFn K (.ref cT)=true)
  (a15:Fi K ir "word" ig)
  (i15:PySem.W.isFn K (.ref ig)=true)
  (a16:Fi K iJ "word" gZ)
  (i16:PySem.W.isFn K (.ref gZ)=true)
  (a17:Fi K iK "__init__" cM)
  (i17:PySem.W.isFn K (.ref cM)=true)
  (a18:Fi K iK "words" fU)
  (i18:PySem.W.isFn K (.ref fU)=true)
  (a19:Ns K "kind_of" lF)
  (a20:Fi K jP "__init__" cP)
  (i20:PySem.W.isFn K (.ref cP)=true)
  (a21:Fi K bD "__init__" cu)
  (i21:PySem.W.isFn K (.ref cu)=true)
  (a22:Fi K dZ "__init__" cG)
  (i22:PySem.W.isFn K (.ref cG)=true)
  (a23:Ns K "births_held" fL)
  (a24:Ns K "births_at" gY)
  (a25:Ns K "looked_at" iT)
  (a26:Ns K "has_sense" gA)
  (a27:Ns K "mark_of" lE)
  (a28:Ns K "told_cells" gJ)
  (a29:Ns K "told_cell" iR)
  (a30:Ns K "begin" qy)
  (a31:Ns K "note" vp)
  (a32:Ns K "note_all" iw)
  (a33:Ns K "gone" vq)
  (a34:Ns K "slots_of" dB)
  (a35:Ns K "cell_in" jk)
  (a36:Ns K "fields_in" gW)
  (a37:Ns K "told_as_old" fJ)
  (a38:Ns K "told_as_new" eO)
  (a39:Ns K "do_make" gh)
  (a40:Ns K "do_get" iB)
  (a41:Ns K "do_put" iz)
  (a42:Ns K "do_copy" gq)
  (a43:Ns K "do_drop" gn)
  (a44:Ns K "do_give" gj)
  (a45:Ns K "do_write" d9)
  (a46:Ns K "do_read" fZ)
  (a47:Ns K "do_name" gf)
  (a48:Ns K "do_seek" fY)
  (a49:Ns K "place_named" fK)
  (a50:Ns K "do" QV)
  (a51:Ns K "_law_mix" fc)
  (a52:Ns K "_law_cell_at" eV)
  (a53:Ns K "_law_kind" iZ)
  (a54:Ns K "_law_names" gQ)
  (a55:Ns K "_law_same" dR)
  (a56:Ns K "_law_store" gO)
  (a57:Ns K "_law_due_word" dU)
  (a58:Ns K "_law_made_in" eU)
  (a59:Ns K "_law_moved" gR)
  (a60:Ns K "_law_thing" gM)
  (a61:Ns K "_law_load" iY)
  (a62:Ns K "_law_deed" je)
  (a63:Ns K "_law_tried" gK)
  (a64:Ns K "_law_said" iV)
  (a65:Ns K "_law_asked_of" dW)
  (a66:Ns K "_law_noted" gP)
  (a67:Ns K "_law_turn" iU)
  (a68:Ns K "_law_pair" iW)
  (a69:Ns K "_law_stands" fM)
  (a70:Ns K "law" fl)
  (l70:Lk K fl "law" "law" Ml .none Zse Zsd Zq6 Zrg Zpw Zrk Zp0 Zrh Zs7)
  (c70:Ci K Zp0 "law")
  (k70:Ki K fl)
  (Zgr:Ns K "DEEDS" N8)
  (Zhb:K.lookup N8=some ⟨.type "dict",none,.dict #[⟨Sh,.str "make" Rz,.ref gh⟩,⟨Sg,.str "get" Ry,.ref iB⟩,⟨Sd,.str "put" Rx,.ref iz⟩,⟨R9,.str "copy" Rv,.ref gq⟩,⟨R8,.str "drop" Ru,.ref gn⟩,⟨R7,.str "give" Rt,.ref gj⟩,⟨R6,.str "write" Rr,.ref d9⟩,⟨R5,.str "read" Rq,.ref fZ⟩,⟨R4,.str "name" Rp,.ref gf⟩,⟨R3,.str "seek" Ro,.ref fY⟩] YH,#[]⟩)
  (Zex:Sh=hashStr w "make")
  (Zew:Sg=hashStr w "get")
  (Zev:Sd=hashStr w "put")
  (Zeu:R9=hashStr w "copy")
  (Zet:R8=hashStr w "drop")
  (Zes:R7=hashStr w "give")
  (Zer:R6=hashStr w "write")
  (Zeq:R5=hashStr w "read")
  (Zep:R4=hashStr w "name")
  (Zeo:R3=hashStr w "seek")
  (Zk3:PySem.W.plainGet K bF Str.empty=true)
  (Zld:PySem.W.hasDictIn K bF=true)
  (Zjv:PySem.W.plainOver K bF=true)
  (Zji:PySem.W.findIn K (.ref bF) "__setattr__"=some (some (.builtin "object.__setattr__")))
  (KQ:PySem.W.makesIn K bF=true)
  (Zkx:Ki K bF)
  (eX:Fo K bF "birth")
  (kJ:Fo K bF "bulk")
  (kE:Fo K bF "tone")
  (iM:Fo K bF "load")
  (fH:Fo K bF "fields")
  (Zid:PySem.W.findIn K (.ref bF) "__eq__"=some (some (.builtin "object.__eq__")))
  (Zic:PySem.W.mroIn K bF (.type "object")=some true)
  (Zk0:PySem.W.plainGet K bC Str.empty=true)
  (Zla:PySem.W.hasDictIn K bC=true)
  (Zjs:PySem.W.plainOver K bC=true)
  (Zjf:PySem.W.findIn K (.ref bC) "__setattr__"=some (some (.builtin "object.__setattr__")))
  (KJ:PySem.W.makesIn K bC=true)
  (Zku:Ki K bC)
  (lX:Fo K bC "room")
  (cH:Fo K bC "cells")
  (jK:Fo K bC "used")
  (kj:Fo K bC "born")
  (Zg9:PySem.W.plainGet K fC Str.empty=true)
  (Zhu:PySem.W.hasDictIn K fC=true)
  (Zg5:PySem.W.plainOver K fC=true)
  (Zfu:PySem.W.findIn K (.ref fC) "__setattr__"=some (some (.builtin "object.__setattr__")))
  (Zgt:PySem.W.makesIn K fC=true)
  (Zhj:Ki K fC)
  (Zgk:PySem.W.findIn K (.ref fC) "__init__"=some (some (.builtin "object.__init__")))
  (Zk2:PySem.W.plainGet K ir Str.empty=true)
  (Zlc:PySem.W.hasDictIn K ir=true)
  (Zju:PySem.W.plainOver K ir=true)
  (Zjh:PySem.W.findIn K (.ref ir) "__setattr__"=some (some (.builtin "object.__setattr__")))
  (Zkm:PySem.W.makesIn K ir=true)
  (Zkw:Ki K ir)
  (Zkd:PySem.W.findIn K (.ref ir) "__init__"=some (some (.builtin "object.__init__")))
  (Zjy:PySem.W.plainGet K iJ Str.empty=true)
  (Zl8:PySem.W.hasDictIn K iJ=true)
  (Zjq:PySem.W.plainOver K iJ=true)
  (Zjd:PySem.W.findIn K (.ref iJ) "__setattr__"=some (some (.builtin "object.__setattr__")))
  (Zkl:PySem.W.makesIn K iJ=true)
  (Zks:Ki K iJ)
  (Zkc:PySem.W.findIn K (.ref iJ) "__init__"=some (some (.builtin "object.__init__")))
  (Zjz:PySem.W.plainGet K iK Str.empty=true)
  (Zl9:PySem.W.hasDictIn K iK=true)
  (Zjr:PySem.W.plainOver K iK=true)
  (Zje:PySem.W.findIn K (.ref iK) "__setattr__"=some (some (.builtin "object.__setattr__")))
  (KH:PySem.W.makesIn K iK=true)
  (Zkt:Ki K iK)
  (pC:Fo K iK "looking")
  (rR:Fo K iK "tells")
  (Zk1:PySem.W.plainGet K jP Str.empty=true)
  (Zlb:PySem.W.hasDictIn K jP=true)
  (Zjt:PySem.W.plainOver K jP=true)
  (Zjg:PySem.W.findIn K (.ref jP) "__setattr__"=some (some (.builtin "object.__setattr__")))
  (KN:PySem.W.makesIn K jP=true)
  (Zkv:Ki K jP)
  (uq:Fo K jP "name")
  (rT:Fo K jP "slots")
  (Zaa:PySem.W.plainGet K bD Str.empty=true)
  (Zbe:PySem.W.hasDictIn K bD=true)
  (Za9:PySem.W.plainOver K bD=true)
  (Za1:PySem.W.findIn K (.ref bD) "__setattr__"=some (some (.builtin "object.__setattr__")))
  (xK:PySem.W.makesIn K bD=true)
  (Zb3:Ki K bD)
  (nM:Fo K bD "sense")
  (nO:Fo K bD "phase")
  (pB:Fo K bD "grey")
  (mO:Fo K bD "looked")
  (o9:Fo K bD "turn")
  (rQ:Fo K bD "at")
  (pq:Fo K bD "stop")
  (nJ:Fo K bD "walks")
  (nP:Fo K bD "looks")
  (mL:Fo K bD "passes")
  (pA:Fo K bD "loss")
  (Zg8:PySem.W.plainGet K dZ Str.empty=true)
  (Zht:PySem.W.hasDictIn K dZ=true)
  (Zg4:PySem.W.plainOver K dZ=true)
  (Zft:PySem.W.findIn K (.ref dZ) "__setattr__"=some (some (.builtin "object.__setattr__")))
  (DG:PySem.W.makesIn K dZ=true)
  (Zhi:Ki K dZ)
  (rP:Fo K dZ "heap")
  (rO:Fo K dZ "kind")
  (qw:Fo K dZ "hands")
  (qt:Fo K dZ "names")
  (nH:Fo K dZ "sweeper")
  (uc:PySem.W.excIn K aF [.type "ValueError",.type "Exception",.type "BaseException",.type "object"] "ValueError.__new__"=true)
  (SX:PySem.W.excIn K bH [.type "ValueError",.type "Exception",.type "BaseException",.type "object"] "ValueError.__new__"=true)
  (zZ:PySem.W.excIn K aP [.type "ValueError",.type "Exception",.type "BaseException",.type "object"] "ValueError.__new__"=true)
  (Cy:PySem.W.excIn K aV [.type "ValueError",.type "Exception",.type "BaseException",.type "object"] "ValueError.__new__"=true)
  (jB:PySem.W.exmOne K (.ref aF) (.ref aF)=some true)
  (uy:PySem.W.exmOne K (.ref bH) (.ref bH)=some true)
  (lO:PySem.W.exmOne K (.ref aP) (.ref aP)=some true)
  (nQ:PySem.W.exmOne K (.ref aV) (.ref aV)=some true)
  (lN:PySem.W.exmOne K (.ref bH) (.ref aF)=some false)
  (nG:PySem.W.exmOne K (.ref bH) (.ref aP)=some false)
  (jJ:PySem.W.exmOne K (.ref aP) (.ref aF)=some false)
  (jU:PySem.W.exmOne K (.ref aV) (.ref aF)=some false)
  (o8:PySem.W.exmOne K (.ref aV) (.ref bH)=some false)
  (lM:PySem.W.exmOne K (.ref aV) (.ref aP)=some false)
  (Iw:Fi K ir "at_begin" bJ)
  (Iv:Fi K iJ "at_begin" bJ)
  (Li:PySem.W.nsIn K mainGlobals "bool"=some none)
  (Lh:PySem.W.nsIn K mainGlobals "int"=some none)
  (bW:PySem.W.nsIn K mainGlobals "isinstance"=some none)
  (kh:PySem.W.nsIn K mainGlobals "len"=some none)
  (yq:PySem.W.nsIn K mainGlobals "list"=some none)
  (oN:PySem.W.nsIn K mainGlobals "range"=some none)
  (Lg:PySem.W.nsIn K mainGlobals "str"=some none)
  (vY:PySem.W.nsIn K mainGlobals "tuple"=some none)
  (Zou:PySem.W.nsIn K mainGlobals "NEW"=some (some Zm3))
  (Zos:RelV (.int 2) Zm3)
  (Zot:PySem.W.nsIn K mainGlobals "OLD"=some (some Zm2))
  (Zor:RelV (.int 1) Zm2)
  (g1:mH K "__init__" "Cell.__init__" qX cQ)
  (g2:mH K "units" "Cell.units" wH fX)
  (g3:mH K "has_field" "Cell.has_field" pO cU)
  (g4:mH K "__init__" "Heap.__init__" qU cN)
  (g6:mH K "lay" "Heap.lay" Bw ju)
  (g7:mH K "free" "Heap.free" yN ie)
  (g8:mH K "there" "Heap.there" wF fV)
  (g9:mH K "cell_at" "cell_at" GP jl)
  (g10:mH K "birth_at" "birth_at" Bu dO)
  (g11:mH K "all_of" "all_of" Mq m9)
  (g12:mH K "at_begin" "Looking.at_begin" nY bJ)
  (g13:mH K "word" "First.word" wG fW)
  (g14:mH K "at_begin" "First.at_begin" pN cT)
  (g15:mH K "word" "Each.word" yO ig)
  (g16:mH K "word" "Last.word" yM gZ)
  (g17:mH K "__init__" "Kind.__init__" qT cM)
  (g18:mH K "words" "Kind.words" wD fU)
  (g19:mH K "kind_of" "kind_of" Gv lF)
  (g20:mH K "__init__" "Hand.__init__" qW cP)
  (g21:mH K "__init__" "Sweeper.__init__" nW cu)
  (g22:mH K "__init__" "World.__init__" pM cG)
  (g23:mH K "births_held" "births_held" uL fL)
  (g24:mH K "births_at" "births_at" yF gY)
  (g25:mH K "looked_at" "looked_at" yC iT)
  (g26:mH K "has_sense" "has_sense" yD gA)
  (g27:mH K "mark_of" "mark_of" Gu lE)
  (g28:mH K "told_cells" "told_cells" wg gJ)
  (g29:mH K "told_cell" "told_cell" yz iR)
  (g30:mH K "begin" "begin" Uh qy)
  (g31:mH K "note" "note" Za2 vp)
  (g32:mH K "note_all" "note_all" Bs iw)
  (g33:mH K "gone" "gone" Za3 vq)
  (g34:mH K "slots_of" "slots_of" Br dB)
  (g35:mH K "cell_in" "cell_in" GK jk)
  (g36:mH K "fields_in" "fields_in" yE gW)
  (g37:mH K "told_as_old" "told_as_old" uI fJ)
  (g38:mH K "told_as_new" "told_as_new" uJ eO)
  (g39:mH K "do_make" "do_make" Gz gh)
  (g40:mH K "do_get" "do_get" Mp iB)
  (g41:mH K "do_put" "do_put" Mm iz)
  (g42:mH K "do_copy" "do_copy" GJ gq)
  (g43:mH K "do_drop" "do_drop" GF gn)
  (g44:mH K "do_give" "do_give" GD gj)
  (g45:mH K "do_write" "do_write" Bt d9)
  (g46:mH K "do_read" "do_read" Gx fZ)
  (g47:mH K "do_name" "do_name" Gy gf)
  (g48:mH K "do_seek" "do_seek" Gw fY)
  (g49:mH K "place_named" "place_named" uK fK)
  (g50:mH K "do" "do" Zmt QV)
  (g51:mH K "_law_mix" "_law_mix" Bv fc)
  (g52:mH K "_law_cell_at" "_law_cell_at" sZ eV)
  (g53:mH K "_law_kind" "_law_kind" yK iZ)
  (g54:mH K "_law_names" "_law_names" wB gQ)
  (g55:mH K "_law_same" "_law_same" ue dR)
  (g56:mH K "_law_store" "_law_store" wz gO)
  (g57:mH K "_law_due_word" "_law_due_word" qQ dU)
  (g58:mH K "_law_made_in" "_law_made_in" sY eU)
  (g59:mH K "_law_moved" "_law_moved" wC gR)
  (g60:mH K "_law_thing" "_law_thing" wu gM)
  (g61:mH K "_law_load" "_law_load" yJ iY)
  (g62:mH K "_law_deed" "_law_deed" yL je)
  (g63:mH K "_law_tried" "_law_tried" wj gK)
  (g64:mH K "_law_said" "_law_said" yH iV)
  (g65:mH K "_law_asked_of" "_law_asked_of" qR dW)
  (g66:mH K "_law_noted" "_law_noted" wA gP)
  (g67:mH K "_law_turn" "_law_turn" yG iU)
  (g68:mH K "_law_pair" "_law_pair" yI iW)
  (g69:mH K "_law_stands" "_law_stands" uM fM)
  :∃ fd:FuncData,(∀ (s:Shared) (v:Value),BindsTo s fd ⟨[v],[]⟩ [("_law_script",v)])∧∀ base:Heap,K.In base→base.Ns mainGlobals mg→qP l.prog w K mg base (G.Kv l.prog w) 8 fa fd ["_law_script"] (Zd6 K):=by
 have e:=hfa.symm.trans (PySem.W.mg_of KI GN a70);cases e;have mo:∀ {s:Str}{v:Value},PySem.W.nsIn K mainGlobals s=some (some v)→mg s=some v:=fun h=>PySem.W.mg_of KI GN h
 let Q0:Cs:=⟨dZ,bC,bF,iK,jP,bD,fC,ir,iJ⟩
 obtain ⟨_,F1,k1⟩:=fg g1;obtain ⟨_,F2,k2⟩:=fg g2;obtain ⟨_,F3,k3⟩:=fg g3;obtain ⟨_,F4,k4⟩:=fg g4;obtain ⟨_,F6,k6⟩:=fg g6;obtain ⟨_,F7,k7⟩:=fg g7;obtain ⟨_,F8,k8⟩:=fg g8;obtain ⟨_,F9,k9⟩:=fg g9;obtain ⟨_,F10,k10⟩:=fg g10;obtain ⟨_,F11,k11⟩:=fg g11;obtain ⟨_,F12,k12⟩:=fg g12;obtain ⟨_,F13,k13⟩:=fg g13;obtain ⟨_,F14,k14⟩:=fg g14;obtain ⟨_,F15,k15⟩:=fg g15;obtain ⟨_,F16,k16⟩:=fg g16;obtain ⟨_,F17,k17⟩:=fg g17;obtain ⟨_,F18,k18⟩:=fg g18;obtain ⟨_,F19,k19⟩:=fg g19;obtain ⟨_,F20,k20⟩:=fg g20;obtain ⟨_,F21,k21⟩:=fg g21;obtain ⟨_,F22,k22⟩:=fg g22;obtain ⟨_,F23,Am⟩:=fg g23;obtain ⟨_,F24,k24⟩:=fg g24;obtain ⟨_,F25,k25⟩:=fg g25;obtain ⟨_,F26,k26⟩:=fg g26;obtain ⟨_,F27,k27⟩:=fg g27;obtain ⟨_,F28,k28⟩:=fg g28;obtain ⟨_,F29,k29⟩:=fg g29;obtain ⟨_,F30,k30⟩:=fg g30;obtain ⟨_,F31,k31⟩:=fg g31;obtain ⟨_,F32,k32⟩:=fg g32;obtain ⟨_,F33,k33⟩:=fg g33;obtain ⟨_,F34,Qi⟩:=fg g34;obtain ⟨_,F35,k35⟩:=fg g35;obtain ⟨_,F36,k36⟩:=fg g36;obtain ⟨_,F37,k37⟩:=fg g37;obtain ⟨_,F38,k38⟩:=fg g38;obtain ⟨_,F39,k39⟩:=fg g39;obtain ⟨_,F40,k40⟩:=fg g40;obtain ⟨_,F41,k41⟩:=fg g41;obtain ⟨_,F42,k42⟩:=fg g42;obtain ⟨_,F43,k43⟩:=fg g43;obtain ⟨_,F44,k44⟩:=fg g44;obtain ⟨_,F45,k45⟩:=fg g45;obtain ⟨_,F46,k46⟩:=fg g46;obtain ⟨_,F47,k47⟩:=fg g47;obtain ⟨_,F48,k48⟩:=fg g48;obtain ⟨_,F49,k49⟩:=fg g49;obtain ⟨_,F50,k50⟩:=fg g50;obtain ⟨_,F51,k51⟩:=fg g51;obtain ⟨_,F52,k52⟩:=fg g52;obtain ⟨_,F53,k53⟩:=fg g53;obtain ⟨_,F54,k54⟩:=fg g54;obtain ⟨_,F55,k55⟩:=fg g55;obtain ⟨_,F56,k56⟩:=fg g56;obtain ⟨_,F57,k57⟩:=fg g57;obtain ⟨_,F58,k58⟩:=fg g58;obtain ⟨_,F59,k59⟩:=fg g59;obtain ⟨_,F60,k60⟩:=fg g60;obtain ⟨_,F61,k61⟩:=fg g61;obtain ⟨_,F62,k62⟩:=fg g62;obtain ⟨_,F63,k63⟩:=fg g63;obtain ⟨_,F64,k64⟩:=fg g64;obtain ⟨_,F65,k65⟩:=fg g65;obtain ⟨_,F66,k66⟩:=fg g66;obtain ⟨_,F67,k67⟩:=fg g67;obtain ⟨_,F68,k68⟩:=fg g68;obtain ⟨_,F69,k69⟩:=fg g69;have T:Txt w K mg bF bC fC ir iJ iK jP bD dZ aF aP bH aV cQ fX cU cN gB ju ie fV jl dO m9 bJ fW cT ig gZ cM fU lF cP cu cG fL gY iT gA lE gJ iR qy vp iw vq dB jk gW fJ eO gh iB iz gq gn gj d9 fZ gf fY fK QV fc eV iZ gQ dR gO dU eU gR gM iY je gK iV dW gP iU iW fM:={
  RB:=⟨N8,_,_,YH,PySem.W.mg_of KI GN Zgr,Zhb,⟨rfl,rfl,rfl⟩,rfl,Zex,⟨Rz,rfl⟩,rfl,Zew,⟨Ry,rfl⟩,rfl,Zev,⟨Rx,rfl⟩,rfl,Zeu,⟨Rv,rfl⟩,rfl,Zet,⟨Ru,rfl⟩,rfl,Zes,⟨Rt,rfl⟩,rfl,Zer,⟨Rr,rfl⟩,rfl,Zeq,⟨Rq,rfl⟩,rfl,Zep,⟨Rp,rfl⟩,rfl,Zeo,⟨Ro,rfl⟩,rfl,trivial⟩
  dz:=⟨Zk3,Zld,Zjv,Zji⟩
  Zh7:=mo Zpa
  KQ:=⟨KQ,a1,i1,Zkx⟩
  eX:=eX
  kJ:=kJ
  kE:=kE
  iM:=iM
  fH:=fH
  KY:=⟨Zid,Zic⟩
  dH:=⟨Zk0,Zla,Zjs,Zjf⟩
  Zh4:=mo Zp6
  KJ:=⟨KJ,a4,i4,Zku⟩
  lX:=lX
  cH:=cH
  jK:=jK
  kj:=kj
  Ob:=⟨Zg9,Zhu,Zg5,Zfu⟩
  Zco:=mo Zlv
  RP:=⟨Zgt,Zgk,Zhj⟩
  Wl:=⟨Zk2,Zlc,Zju,Zjh⟩
  Zh6:=mo Zp9
  Yb:=⟨Zkm,Zkd,Zkw⟩
  Wi:=⟨Zjy,Zl8,Zjq,Zjd⟩
  Zh2:=mo Zp4
  X8:=⟨Zkl,Zkc,Zks⟩
  Wj:=⟨Zjz,Zl9,Zjr,Zje⟩
  Zh3:=mo Zp5
  KH:=⟨KH,a17,i17,Zkt⟩
  pC:=pC
  rR:=rR
  Zd2:=⟨Zk1,Zlb,Zjt,Zjg⟩
  Zh5:=mo Zp7
  KN:=⟨KN,a20,i20,Zkv⟩
  uq:=uq
  rT:=rT
  Oa:=⟨Zaa,Zbe,Za9,Za1⟩
  RV:=mo Zfe
  xK:=⟨xK,a21,i21,Zb3⟩
  nM:=nM
  nO:=nO
  pB:=pB
  mO:=mO
  o9:=o9
  rQ:=rQ
  pq:=pq
  nJ:=nJ
  nP:=nP
  mL:=mL
  pA:=pA
  Y5:=⟨Zg8,Zht,Zg4,Zft⟩
  Zcn:=mo Zlu
  DG:=⟨DG,a22,i22,Zhi⟩
  rP:=rP
  rO:=rO
  qw:=qw
  qt:=qt
  nH:=nH
  zH:=mo Y9
  Ib:=mo Zff
  Zax:=mo Zp8
  Nb:=mo Ziu
  uc:=uc
  SX:=SX
  zZ:=zZ
  Cy:=Cy
  jB:=jB
  uy:=uy
  lO:=lO
  nQ:=nQ
  lN:=lN
  nG:=nG
  jJ:=jJ
  jU:=jU
  o8:=o8
  lM:=lM
  vL:=⟨Iw,i12,k12⟩
  vK:=⟨Iv,i12,k12⟩
  Ia:=⟨a1,i1,k1⟩
  vh:=⟨a2,i2,k2⟩
  uv:=⟨a3,i3,k3⟩
  HX:=⟨a4,i4,k4⟩
  DP:=⟨a5,i5,k5⟩
  JC:=⟨a6,i6,k6⟩
  DQ:=⟨a7,i7,k7⟩
  Bb:=⟨a8,i8,k8⟩
  vN:=mo a9
  lq:=mo a10
  Yg:=mo a11
  Ak:=⟨a12,i12,k12⟩
  Bc:=⟨a13,i13,k13⟩
  ur:=⟨a14,i14,k14⟩
  DR:=⟨a15,i15,k15⟩
  DN:=⟨a16,i16,k16⟩
  HW:=⟨a17,i17,k17⟩
  Ba:=⟨a18,i18,k18⟩
  RT:=mo a19
  HY:=⟨a20,i20,k20⟩
  Aj:=⟨a21,i21,k21⟩
  DK:=⟨a22,i22,k22⟩
  Bf:=mo a23
  zE:=mo a24
  JF:=mo a25
  uw:=mo a26
  RQ:=mo a27
  DX:=mo a28
  JD:=mo a29
  Zcm:=mo a30
  Zgy:=mo a31
  xM:=mo a32
  Zgz:=mo a33
  jr:=mo a34
  vM:=mo a35
  zB:=mo a36
  Bd:=mo a37
  vm:=mo a38
  Zee:=mo a39
  Zh1:=mo a40
  Zh0:=mo a41
  Zeh:=mo a42
  Zeg:=mo a43
  Zef:=mo a44
  Zaw:=mo a45
  Zec:=mo a46
  Zed:=mo a47
  Zeb:=mo a48
  Be:=mo a49
  Zq2:=mo a50
  fQ:=mo a51
  lZ:=mo a52
  JL:=mo a53
  Ed:=mo a54
  kO:=mo a55
  Eb:=mo a56
  xY:=mo a57
  zG:=mo a58
  Ef:=mo a59
  Ea:=mo a60
  JK:=mo a61
  JM:=mo a62
  DY:=mo a63
  JG:=mo a64
  xZ:=mo a65
  Ec:=mo a66
  zF:=mo a67
  JH:=mo a68
  Bg:=mo a69
  Li:=PySem.W.mg_none_of KI GN Li
  Lh:=PySem.W.mg_none_of KI GN Lh
  bW:=PySem.W.mg_none_of KI GN bW
  kh:=PySem.W.mg_none_of KI GN kh
  yq:=PySem.W.mg_none_of KI GN yq
  oN:=PySem.W.mg_none_of KI GN oN
  Lg:=PySem.W.mg_none_of KI GN Lg
  vY:=PySem.W.mg_none_of KI GN vY
  Zi1:=⟨_,PySem.W.mg_of KI GN Zou,Zos⟩
  Zi0:=⟨_,PySem.W.mg_of KI GN Zot,Zor⟩
 }
 have b1:=bd5 F1 "self" "birth" "many" "bulk" "tone";have b2:=Zt F2 "self";have b3:=vA F3 "self" "field";have b4:=vA F4 "self" "room";have F5:=G.Zlh (st:=uf) l5 c5 k5;have b5:=G.Zc5 (ps:=["self","many","bulk","tone"]) (ds:=[]) l5 t5 fun us hl=>match us,hl with | [_,_,_,_],_=>⟨_,rfl,rfl⟩
 have Zzp:=G.Zc5 (ps:=["self","many","bulk","tone"]) (ds:=[Zcx]) l5 t5 fun us hl=>match us,hl with | [_,_,_],_=>⟨_,rfl,rfl⟩
 have Zzo:=G.Zc5 (ps:=["self","many","bulk","tone"]) (ds:=[Zie,Zcx]) l5 t5 fun us hl=>match us,hl with | [_,_],_=>⟨_,rfl,rfl⟩
 have b6:=vA F6 "self" "cell";have b7:=Zt F7 "self";have b8:=Zt F8 "self";have b9:=vA F9 "heap" "place";have b10:=vA F10 "heap" "place";have b11:=Zt F11 "hands";have b12:=vA F12 "self" "hands";have b13:=Zt F13 "self";have b14:=vA F14 "self" "hands";have b15:=Zt F15 "self";have b16:=Zt F16 "self";have b17:=bd3 F17 "self" "looking" "tells";have b18:=Zt F18 "self";have b19:=Zt F19 "text";have b20:=bd3 F20 "self" "name" "many";have b21:=Zt F21 "self";have b22:=bd4 F22 "self" "room" "kind" "hands";have b23:=Zt F23 "world";have b24:=vA F24 "heap" "places";have b25:=vA F25 "world" "hand";have b26:=vA F26 "world" "cell";have b27:=vA F27 "world" "place";have b28:=Zt F28 "world";have b29:=vA F29 "world" "place";have b30:=Zt F30 "world";have b31:=vA F31 "world" "place";have b32:=vA F32 "world" "places";have b33:=bd3 F33 "world" "place" "birth";have b34:=vA F34 "world" "hand";have b35:=bd3 F35 "world" "hand" "slot";have b36:=bd4 F36 "world" "hand" "slot" "field";have b37:=vA F37 "world" "place";have b38:=bd3 F38 "world" "hand" "place";have b39:=vA F39 "world" "deed";have b40:=vA F40 "world" "deed";have b41:=vA F41 "world" "deed";have b42:=vA F42 "world" "deed";have b43:=vA F43 "world" "deed";have b44:=vA F44 "world" "deed";have b45:=vA F45 "world" "deed";have b46:=vA F46 "world" "deed";have b47:=vA F47 "world" "deed";have b48:=vA F48 "world" "deed";have b49:=vA F49 "world" "word";have b50:=vA F50 "world" "deed";have b51:=vA F51 "_law_cell" "_law_factor";have b52:=vA F52 "_law_script" "_law_k";have b53:=Zt F53 "_law_cell";have b54:=vA F54 "_law_cell" "_law_many";have b55:=vA F55 "_law_found" "_law_due";have b56:=vA F56 "_law_room" "_law_slots";have b57:=vA F57 "_law_store_here" "_law_deed_here";have b58:=vA F58 "_law_store_here" "_law_deed_here";have b59:=vA F59 "_law_store_here" "_law_deed_here";have b60:=vA F60 "_law_store_here" "_law_deed_here";have b61:=Zt F61 "_law_cell";have b62:=bd3 F62 "_law_cell" "_law_slots" "_law_words";have b63:=vA F63 "_law_world" "_law_deed_here";have b64:=Zt F64 "_law_word";have b65:=bd4 F65 "_law_store_here" "_law_deed_here" "_law_kind_here" "_law_looked";have b66:=bd3 F66 "_law_marks" "_law_grey" "_law_births";have b67:=bd6 F67 "_law_world" "_law_store_here" "_law_marks" "_law_grey" "_law_kind_here" "_law_deed_here";have b68:=vA F68 "_law_cell" "_law_slots";have b69:=bd3 F69 "_law_world" "_law_store_here" "_law_marks";have F70:=Zi3 (st:=Ml) l70 c70 k70;refine ⟨PySem.W.fnOf "law" "law" (lA Ml) (iI Ml) (aJ Ml) .none Zq6 Zrg Zpw Zrk Zp0 Zrh,fun s v=>.of_eq rfl,fun base _ _=>?_⟩;have G1:=hh (HJ l.prog base Q0 T F1 ) b1 k1;have G2:=hh (P0 l.prog base Q0 T F2 ) b2 k2;have G3:=hh (Dt l.prog base Q0 T F3 ) b3 k3;have G4:=hh (HF l.prog base Q0 T F4 ) b4 k4;have G6:=hh (XM l.prog base Q0 T F6 ) b6 k6;have G7:=hh (U6 l.prog base Q0 T F7 ) b7 k7;have G8:=hh (PN l.prog base Q0 T F8 ) b8 k8;have G9:=hh (Zap l.prog base Q0 T F9 ) b9 k9;have G11:=hh (Ze5 l.prog base Q0 T F11 ) b11 k11;have G12:=hh (Ai l.prog base Q0 T F12 ) b12 k12;have G13:=hh (PX l.prog base Q0 T F13 ) b13 k13;have G15:=hh (U7 l.prog base Q0 T F15 ) b15 k15;have G16:=hh (U4 l.prog base Q0 T F16 ) b16 k16;have G17:=hh (HD l.prog base Q0 T F17 ) b17 k17;have G20:=hh (HH l.prog base Q0 T F20 ) b20 k20;have G21:=hh (Ah l.prog base Q0 T F21 ) b21 k21;have G25:=hh (Ux l.prog base Q0 T F25 ) b25 k25;have G26:=hh (Uy l.prog base Q0 T F26 ) b26 k26;have G34:=hh (XC l.prog base Q0 T F34 ) b34 Qi;have G37:=hh (MJ l.prog base Q0 T F37 ) b37 k37;have G51:=hh (XJ l.prog base Q0 T F51 ) b51 k51;have G52:=hh (Kf l.prog base Q0 T F52 ) b52 k52;have G56:=hh (Py l.prog base Q0 T F56 ) b56 k56;have G57:=hh (Hz l.prog base Q0 T F57 ) b57 k57
 have G58:=hh (Ke l.prog base Q0 T F58 ) b58 k58;have G59:=hh (PK l.prog base Q0 T F59 ) b59 k59;have G64:=hh (UL l.prog base Q0 T F64 ) b64 k64;have G65:=hh (HB l.prog base Q0 T F65 ) b65 k65;have G66:=hh (PB l.prog base Q0 T F66 ) b66 k66;have G10:=hh (XH l.prog base Q0 T F10 G9) b10 k10;have G14:=hh (Ds l.prog base Q0 T F14 G11) b14 k14;have G18:=hh (PL l.prog base Q0 T F18 G15 G13 G16) b18 k18;have G27:=hh (Zaf l.prog base Q0 T F27 G26) b27 k27;have G31:=hh (Zka l.prog base Q0 T F31 G9 G26) b31 k31;have G33:=hh (Zkb l.prog base Q0 T F33 G9 G26) b33 k33;have G35:=hh (Zao l.prog base Q0 T F35 G9 G34) b35 k35;have G38:=hh (MK l.prog base Q0 T F38 G25) b38 k38;have G53:=hh (U0 l.prog base Q0 T F53 G51) b53 k53;have G54:=hh (PJ l.prog base Q0 T F54 G51) b54 k54;have G60:=hh (Px l.prog base Q0 T F60 G58 G59) b60 k60;have G61:=hh (UW l.prog base Q0 T F61 G51) b61 k61;have G68:=hh (UT l.prog base Q0 T F68 G51) b68 k68;have G5:=hh (U5 l.prog base Q0 T F5 G1 G2 G7 G6) b5 k5;have G19:=hh (Zag l.prog base Q0 T F19 G17 G18) b19 k19;have G22:=hh (Dr l.prog base Q0 T F22 G20 G4 G21) b22 k22;have G24:=hh (UG l.prog base Q0 T F24 G10) b24 k24;have G30:=hh (Zgi l.prog base Q0 T F30 G14 G12) b30 k30;have G32:=hh (XD l.prog base Q0 T F32 G31) b32 k32;have G36:=hh (Uz l.prog base Q0 T F36 G3 G35) b36 k36;have G42:=hh (Zan l.prog base Q0 T F42 G10 G34) b42 k42;have G43:=hh (Zam l.prog base Q0 T F43 G10 G34) b43 k43;have G45:=hh (XF l.prog base Q0 T F45 G35) b45 k45;have G46:=hh (Zai l.prog base Q0 T F46 G35) b46 k46;have G47:=hh (Zaj l.prog base Q0 T F47 G35 G34) b47 k47;have G49:=hh (MN l.prog base Q0 T F49 G33) b49 k49;have G62:=hh (U3 l.prog base Q0 T F62 G61 G51) b62 k62;have G23:=hh (MP l.prog base Q0 T F23 G24) b23 Am;have G29:=hh (Uw l.prog base Q0 T F29 G24 G27) b29 k29;have G39:=hh (Zak l.prog base Q0 T F39 G5 G10 G34) b39 k39;have G40:=hh (Ze4 l.prog base Q0 T F40 G10 G36 G34) b40 k40;have G41:=hh (Ze3 l.prog base Q0 T F41 G10 G36 G32 G34 G38 G37) b41 k41;have G44:=hh (Zal l.prog base Q0 T F44 G10 G32 G34 G38) b44 k44;have G48:=hh (Zah l.prog base Q0 T F48 G10 G32 G49 G34) b48 k48;have Zrr:=hh (Pz l.prog base Q0 T F55 (hh (G.Zi8 (k:=0) fun _ _ _ _ ⟨_,_,_,z⟩=>z) b55 k55) ) b55 k55;have Zrq:=hh (xG l.prog base Q0 (d:=0) (lv:=1) T (by decide) F55 Zrr ) b55 k55;have Zrp:=hh (xG l.prog base Q0 (d:=1) (lv:=2) T (by decide) F55 Zrq ) b55 k55;have Zro:=hh (xG l.prog base Q0 (d:=2) (lv:=3) T (by decide) F55 Zrp ) b55 k55;have G55:=Zro;have G28:=hh (Pr l.prog base Q0 T F28 G8 G29) b28 k28;have G50:=hh (Zpz l.prog base Q0 T F50 G42 G43 G40 G44 G39 G47 G41 G46 G48 G45) b50 k50;have G63:=hh (Pu l.prog base Q0 T F63 G50) b63 k63;have G69:=hh (MT l.prog base Q0 T F69 G55 G23 G28) b69 k69;have G67:=hh (UJ l.prog base Q0 T F67 G65 G57 G66 G64 G55 G60 G63) b67 k67;exact Zn8 _ _ Q0 T F70 G22 G52 G62 G53 G51 G54 G68 G69 G56 G67 G30 G19
theorem walk {l:PySem.W.OpenLaw}{q:Program}{loose:List Str}{XP:(Str→Option Value)→Heap→Prop}{YP:World→Heap→Prop}{d:DefRec}{K:Params→aG} (hn:l.most=some 63) (hdf:d.params.defaults=[])
  (hY:∀ (w:World) (h:Heap),YP w h→(K w.params).In h)
  (F:∀ (w:World) (mg:Str→Option Value) (fa:Addr) (h:Heap),(K w.params).In h→h.Ns mainGlobals mg→mg d.name=some (.ref fa)→
   ∃ fd:FuncData,(∀ (s:Shared) (u:Value),BindsTo s fd ⟨[u],[]⟩ [("_law_script",u)])∧∀ base:Heap,(K w.params).In base→base.Ns mainGlobals mg→qP l.prog w (K w.params) mg base (G.Kv l.prog w) 8 fa fd ["_law_script"] (Zd6 (K w.params))):
  PySem.W.WalkO q loose XP YP l.row.toRowW d [] (fun f vs=>PySem.call f vs):=
 G.Zfj (n:=63) (k:=8) (x:="_law_script") (CX:=fun w=>G.Kv l.prog w) (sp:=fun w=>Zd6 (K w.params)) hn (by decide) hdf ⟨rfl,by decide,by decide⟩ hY F (fun _ _ a ns hl _ hS hb=>⟨a,rfl,ns,hS,hl,hb,fun _=>rfl⟩) fun _ _ _ _ _ z=>by
  obtain ⟨_,_,_,_,_,_,_,_,_,_,_,_,z⟩:=z;exact z
end rM
namespace PySem.W.Fast
def tw1824006298747950750:=0
def tw7893044366494697430:=0
def tw5878480013011663039:=0
def tw7154576501222776836:=0
def tw13239387974217553047:=0
def tw18300220086586569774:=0
def tw5997318631819453564:=0
def tw7100883311252422509:=0
def tw6671953930722136617:=0
def tw6954226711729465282:=0
def tw10645690567659438524:=0
def tw6103626794206424413:=0
def tw17519850443710533125:=0
def tw1077503684298257859:=0
def tw6492478715467968404:=0
def tw7905056074812239221:=0
def tw11735343302539354133:=0
def tw7987779348496853585:=0
def tw17955762730393442868:=0
def tw4301951568273596074:=0
def tw11995286543786411738:=0
def tw1580243707304431937:=0
def tw13347842595191176391:=0
def tw15667857026134952479:=0
def tw7426059717340029150:=0
def tw17295318853054082814:=0
def tw18056456852543543779:=0
def tw1852298965729328707:=0
def tw10211546310218082751:=0
def tw16364165860605478409:=0
def tw12568118842546040991:=0
def tw10525282544974722710:=0
def tw12857631196385074094:=0
def tw10705404591958603924:=0
def tw4871073935825260415:=0
def tw14295811126503290231:=0
def tw3025950326669046108:=0
def tw2628497785023526724:=0
def tw8521446272933393195:=0
def tw5600210341891496479:=0
def tw13584999964607855277:=0
def tw340237358345942276:=0
def tw8406930748148865824:=0
def tw12478610804280753150:=0
def tw9813483158429684816:=0
def tw10242908426515159101:=0
def tw1419164758812223787:=0
def tw7328127333413801045:=0
def tw16107955800640671460:=0
def tw16338067727685775474:=0
def tw16062089373860047894:=0
def tw1554173857742198145:=0
def tw16400138578939271997:=0
def tw12805793922237646143:=0
def tw2557464707033248067:=0
def tw13295194468823981641:=0
def tw370176543371469408:=0
def tw5408572296295916017:=0
def tw14584250122494341833:=0
def tw57722074275429326:=0
def tw2106219960561948002:=0
def tw5724052807637984876:=0
def tw13924070044572222495:=0
def tw12146036187113688784:=0
def tw98051077626125470:=0
def tw8743879677312967273:=0
def tw14753921403099837717:=0
def tw10847796235447663325:=0
def tw5000640805196535418:=0
def tw346584348746437496:=0
def tw15775953013257847648:=0
def tw4237924957418388821:=0
def tw18279431523480467765:=0
def tw2735317311627690291:=0
def tw9358464230580679519:=0
def tw9463493084851271106:=0
def tw12791843854236615252:=0
def tw8310128611643307506:=0
def tw4331552734473722840:=0
def tw3283435067682006047:=0
def tw15591318153229936646:=0
def tw8891557120660474776:=0
def tw772380468323575145:=0
def tw14665945752085317057:=0
def tw7506541599680211583:=0
def tw1804918487467406741:=0
def tw6140542109487017840:=0
def tw8459341370576618141:=0
def tw108697056023182062:=0
def tw2240486097733213268:=0
def tw11784660727953626904:=0
def tw9523658489962590313:=0
def tw4223864610142929209:=0
def tw10879685477547106589:=0
def tw5296246780879411856:=0
def tw1437759229676714616:=0
def tw2112513549042173384:=0
def tw8447119875545596090:=0
def tw811321991635469976:=0
def tw6993789650470747758:=0
def tw14828013081076022039:=0
def tw13349155667217829948:=0
def tw3162536969940890405:=0
def tw11891825525303831511:=0
def tw8737428596338042596:=0
def tw12465675078563647292:=0
def tw15886457927644866584:=0
def tw15065631186575819601:=0
def tw17470908622830222456:=0
def tw10043885564353002062:=0
def tw7448815214650218349:=0
def tw6805997900935898752:=0
def tw14778600674730620507:=0
def tw17878308694924416316:=0
def tw17524006915810530936:=0
def tw3732610271237789217:=0
def tw8959492858548354964:=0
def tw9533857837545705453:=0
def tw16316543982641398190:=0
def tw3748780282559646886:=0
def tw9093957095888798220:=0
def tw8265896706458022198:=0
end PySem.W.Fast
open PySem PySem.W PyProof.Rows
set_option maxRecDepth 100000 in
set_option maxHeartbeats 0 in
theorem PySem.Challenge.cw_greywalk_k22_what_is_told_holds : PySem.Challenge.rw_greywalk_k22_what_is_told.Holds := by
 w_on;o_law;k_head;(case hw=>w_witness2)
 k_fill
 refine rM.walk (l:=PySem.Challenge.rw_greywalk_k22_what_is_told) rfl rfl (fun w h Y=>PySem.W.kIn_of Y) ?F
 case F=>
  intro w mg fa h KX G hmg
  refine' rM.all_mk KX G hmg ?h0 ?h1 ?h2 ?h3 ?h4 ?h5 ?h6 ?h7 ?h8 ?h9 ?h10 ?h11 ?h12 ?h13 ?h14 ?h15 ?h16 ?h17 ?h18 ?h19 ?h20 ?h21 ?h22 ?h23 ?h24 ?h25 ?h26 ?h27 ?h28 ?h29 ?h30 ?h31 ?h32 ?h33 ?h34 ?h35 ?h36 ?h37 ?h38 ?h39 ?h40 ?h41 ?h42 ?h43 ?h44 ?h45 ?h46 ?h47 ?h48 ?h49 ?h50 ?h51 ?h52 ?h53 ?h54 ?h55 ?h56 ?h57 ?h58 ?h59 ?h60 ?h61 ?h62 ?h63 ?h64 ?h65 ?h66 ?h67 ?h68 ?h69 ?h70 ?h71 ?h72 ?h73 ?h74 ?h75 ?h76 ?h77 ?h78 ?h79 ?h80 ?h81 ?h82 ?h83 ?h84 ?h85 ?h86 ?h87 ?h88 ?h89 ?h90 ?h91 ?h92 ?h93 ?h94 ?h95 ?h96 ?h97 ?h98 ?h99 ?h100 ?Zzb ?Zza ?Zz9 ?Zz8 ?Zz7 ?Zz6 ?Zz5 ?Zz4 ?Zz3 ?Zz2 ?Zz1 ?Zz0 ?Zyz ?Zyy ?Zyx ?Zyw ?Zyv ?Zyu ?Zyt ?Zys ?Zyr ?Zyq ?Zyp ?Zyo ?Zyn ?Zym ?Zyl ?Zyk ?Zyj ?Zyi ?Zyh ?Zyg ?Zyf ?Zye ?Zyd ?Zyc ?Zyb ?Zya ?Zy9 ?Zy8 ?Zy7 ?Zy6 ?Zy5 ?Zy4 ?Zy3 ?Zy2 ?Zy1 ?Zy0 ?Zxz ?Zxy ?Zxx ?Zxw ?Zxv ?Zxu ?Zxt ?Zxs ?Zxr ?Zxq ?Zxp ?Zxo ?Zxn ?Zxm ?Zxl ?Zxk ?Zxj ?Zxi ?Zxh ?Zxg ?Zxf ?Zxe ?Zxd ?Zxc ?Zxb ?Zxa ?Zx9 ?Zx8 ?Zx7 ?Zx6 ?Zx5 ?Zx4 ?Zx3 ?Zx2 ?Zx1 ?Zx0 ?Zwz ?Zwy ?Zwx ?Zww ?Zwv ?Zwu ?Zwt ?Zws ?Zwr ?Zwq ?Zwp ?Zwo ?Zwn ?Zwm ?Zwl ?Zwk ?Zwj ?Zwi ?Zwh ?Zwg ?Zwf ?Zwe ?Zwd ?Zwc ?Zwb ?Zwa ?Zw9 ?Zw8 ?Zw7 ?Zw6 ?Zw5 ?Zw4 ?Zw3 ?Zw2 ?Zw1 ?Zw0 ?Zvz ?Zvy ?Zvx ?Zvw ?Zvv ?Zvu ?Zvt ?Zvs ?Zvr ?Zvq ?Zvp ?Zvo ?Zvn ?Zvm ?Zvl ?Zvk ?Zvj ?Zvi ?Zvh ?Zvg ?Zvf ?Zve ?Zvd ?Zvc ?Zvb ?Zva ?Zv9 ?Zv8 ?Zv7 ?Zv6 ?Zv5 ?Zv4 ?Zv3 ?Zv2 ?Zv1 ?Zv0 ?Zuz ?Zuy ?Zux ?Zuw ?Zuv ?Zuu ?Zut ?Zus ?Zur ?Zuq ?Zup ?Zuo ?Zun ?Zum ?Zul ?Zuk ?Zuj ?Zui ?Zuh ?Zug ?Zuf ?Zue ?Zud ?Zuc ?Zub ?Zua ?Zu9 ?Zu8 ?Zu7 ?Zu6 ?Zu5 ?Zu4 ?Zu3 ?Zu2 ?Zu1 ?Zu0 ?Ztz ?Zty ?Ztx ?Ztw ?Ztv ?Ztu ?Ztt ?Zts ?Ztr ?Ztq ?Ztp ?Zto ?Ztn
  case h0 | h1 | h2 | h3 | h4 | h5 | h6 | h7 | h8 | h9 | h10 | h11 | h12 | h13 | h14 | h15 | h16 | h17 | h18 | h19 | h20 | h21 | h22 | h23 | h24=>(show _=_;k_is)
  case h25 | h26=>first | exact rfl | exact ⟨_,rfl⟩
  case h27 | h28 | h29 | h30 | h31 | h32 | h33 | h34 | h35 | h36 | h37 | h38 | h39 | h40 | h41 | h42 | h43 | h44 | h45 | h46 | h47 | h48 | h49 | h50 | h51 | h52 | h53 | h54 | h55 | h56 | h57 | h58 | h59 | h60 | h61 | h62 | h63 | h64 | h65 | h66 | h67 | h68 | h69 | h70 | h71 | h72 | h73 | h74 | h75 | h76 | h77 | h78 | h79 | h80 | h81 | h82 | h83 | h84 | h85 | h86 | h87 | h88 | h89 | h90 | h91 | h92 | h93 | h94 | h95 | h96 | h97 | h98 | h99 | h100 | Zzb | Zza | Zz9 | Zz8 | Zz7 | Zz6 | Zz5 | Zz4 | Zz3 | Zz2 | Zz1=>(show _=_;k_is)
  case Zz0 | Zyz | Zyy | Zyx | Zyw | Zyv | Zyu | Zyt | Zys | Zyr=>exact rfl
  case Zyq | Zyp | Zyo | Zyn | Zym | Zyl | Zyk | Zyj | Zyi | Zyh | Zyg | Zyf | Zye | Zyd | Zyc | Zyb | Zya | Zy9 | Zy8 | Zy7 | Zy6 | Zy5 | Zy4 | Zy3 | Zy2 | Zy1 | Zy0 | Zxz | Zxy | Zxx | Zxw | Zxv | Zxu | Zxt | Zxs | Zxr | Zxq | Zxp | Zxo | Zxn | Zxm | Zxl | Zxk | Zxj | Zxi | Zxh | Zxg | Zxf | Zxe | Zxd | Zxc | Zxb | Zxa | Zx9 | Zx8 | Zx7 | Zx6 | Zx5 | Zx4 | Zx3 | Zx2 | Zx1 | Zx0 | Zwz | Zwy | Zwx | Zww | Zwv | Zwu | Zwt | Zws | Zwr | Zwq | Zwp | Zwo | Zwn | Zwm | Zwl | Zwk | Zwj | Zwi | Zwh | Zwg | Zwf | Zwe | Zwd | Zwc | Zwb=>(show _=_;k_is)
  case Zwa | Zw9 | Zw8 | Zw7=>k_exc
  case Zw6 | Zw5 | Zw4 | Zw3 | Zw2 | Zw1 | Zw0 | Zvz | Zvy | Zvx=>kts_exm
  case Zvw | Zvv | Zvu | Zvt | Zvs | Zvr | Zvq | Zvp | Zvo | Zvn | Zvm=>(show _=_;k_is)
  case Zvl=>first | exact rfl | exact ⟨_,rfl⟩
  case Zvk=>(show _=_;k_is)
  case Zvj=>first | exact rfl | exact ⟨_,rfl⟩
  case Zvi | Zvh | Zvg | Zvf | Zve | Zvd | Zvc | Zvb | Zva | Zv9 | Zv8 | Zv7 | Zv6 | Zv5 | Zv4 | Zv3 | Zv2 | Zv1 | Zv0 | Zuz | Zuy | Zux | Zuw | Zuv | Zuu | Zut | Zus | Zur | Zuq | Zup | Zuo | Zun | Zum | Zul | Zuk | Zuj | Zui | Zuh | Zug | Zuf | Zue | Zud | Zuc | Zub | Zua | Zu9 | Zu8 | Zu7 | Zu6 | Zu5 | Zu4 | Zu3 | Zu2 | Zu1 | Zu0 | Ztz | Zty | Ztx | Ztw | Ztv | Ztu | Ztt | Zts | Ztr | Ztq | Ztp | Zto | Ztn=>(refine' rM.fgm ?l ?c ?k;(case l=>show _=_;k_is);(case c=>show _=_;k_is);(case k=>show _=_;k_is))
#print axioms PySem.Challenge.cw_greywalk_k22_what_is_told_holds
